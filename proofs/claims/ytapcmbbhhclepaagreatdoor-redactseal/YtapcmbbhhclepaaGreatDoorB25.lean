/-
  What this claim takes of the earlier layers' texts: XCostB RFactsM XContent XTabs XNameP XOnceP RGetS RTailP XKeepsP.
-/
import Derived.Test.YtapcmbbhhclepaaGreatDoorB24
import Derived.Lib.LaidTab
import Derived.WalkSmall
import Derived.Deep.DeepHandedRow
set_option linter.unusedVariables false
set_option linter.unusedSimpArgs false
set_option maxRecDepth 100000
namespace Go.Proofs.YtapcmbbhhclepaaGreatDoor
open Go.RowKit
open V
namespace Xr
theorem cost_obj (c:Int) (kids:List V) (j:Nat) (hj:j≤kids.length):cost (objTo c kids j)≤24+63 * j+costL (kids.take j):=by
  induction j with
  | zero =>
    have e3:cost none5=24:=by unfold none5;rw [cost_mk];rfl
    simp only [objTo,e3];omega
  | succ j ih =>
    have h1:=cost_with (objTo c kids j) (objKey c j) (kids.getD j nul)
    have h2:=ih (by omega)
    have h3:=objKey_size c j
    have h4:kids.getD j nul=kids[j]:=by simp [List.getD,List.getElem?_eq_getElem (show j < kids.length by omega)]
    have h5:costL (kids.take (j+1))=costL (kids.take j)+cost kids[j]:=by
      rw [List.take_succ_eq_append_getElem (by omega),costL_append,costL_cons,costL_nil];omega
    simp only [objTo]
    rw [h4] at h1
    rw [h5,h4]
    omega
theorem cost_step (zs:List Int) (len i:Nat) (l:List V):costL (stepV zs len i l)≤costL l+213:=by
  unfold stepV
  generalize zs.getD i 0 % 12=b
  generalize zs.getD (i+1) 0=c
  rw [costL_append,costL_cons,costL_nil]
  have hk:kidsN c l≤l.length:=by unfold kidsN;omega
  have hk4:kidsN c l≤3:=by unfold kidsN;omega
  have hs:=costL_append (l.take (l.length - kidsN c l)) (l.drop (l.length - kidsN c l))
  rw [List.take_append_drop] at hs
  have hd:(l.drop (l.length - kidsN c l)).length=kidsN c l:=by rw [List.length_drop];omega
  have hb:∀ (k n:Int) (t:ByteArray),t.size≤12→cost ⟨k,n,t,[],[]⟩≤96:=by
    intro k n t ht;rw [cost_mk];simp only [costK,costL_nil];omega
  have e0:(⟨#[]⟩:ByteArray).size≤12:=by decide
  by_cases h0:b=0
  · rw [stepX_0 h0,stepL_all (by omega)];have:=hb 1 (c % 2) ⟨#[]⟩ e0;omega
  · by_cases h1:b=1∨b=2∨b=3
    · rw [stepX_1 h1,stepL_all (by omega)];have:=hb 2 (c - 100) ⟨#[]⟩ e0;omega
    · by_cases h4:b=4
      · rw [stepX_4 h4,stepL_all (by omega)];have:=hb 2 (9007199254740991 - c % 2) ⟨#[]⟩ e0;omega
      · by_cases h5:b=5∨b=6
        · rw [stepX_5 h5,stepL_all (by omega)];have:=hb 3 0 _ (textOf_size zs len i);omega
        · by_cases h7:b=7
          · rw [stepX_7 h7,stepL_cut (by omega),cost_mk]
            have e1:(⟨#[]⟩:ByteArray).size=0:=rfl
            simp only [costK,e1];omega
          · by_cases h8:b=8∨b=9∨b=10
            · rw [stepX_8 h8,stepL_cut (by omega)]
              have h1:=cost_obj c (l.drop (l.length - kidsN c l)) (kidsN c l) (by omega)
              have h2:=costL_take (l.drop (l.length - kidsN c l)) (kidsN c l)
              omega
            · rw [stepX_e (by omega),stepL_all (by omega)];have:=hb 0 0 ⟨#[]⟩ e0;unfold nul;omega
theorem cost_valTo (zs:List Int) (len r:Nat):costL (valTo zs len r)≤213 * r:=by
  induction r with
  | zero=>simp [valTo,costL_nil]
  | succ r ih=>have:=cost_step zs len (2 * r) (valTo zs len r);simp only [valTo];omega
theorem cost_part (zs:List Int) (len:Nat) (k:Int):cost (V.part zs len k)≤6400:=by
  unfold V.part
  have hn:cost nul=24:=by unfold nul;rw [cost_mk];rfl
  split
  · omega
  · have h1:costL (valV zs len).list≤6390:=by
      have:=cost_valTo zs len (min 30 (len / 2))
      show costL (valTo zs len (min 30 (len / 2)))≤6390
      omega
    simp only [List.getD]
    cases h:(valV zs len).list[k.toNat % (valV zs len).list.length]? with
    | none=>simp only [Option.getD_none];omega
    | some x =>
      have h2:=costL_mem (List.mem_of_getElem? h)
      simp only [Option.getD_some]
      omega
theorem cost_str (s:ByteArray):cost (str s)=24+6 * s.size:=by unfold str;rw [cost_mk];simp [costK,costL_nil]
theorem cost_num (n:Int):cost (numV n)=24:=by
  unfold numV
  rw [cost_mk]
  have e:(⟨#[]⟩:ByteArray).size=0:=rfl
  simp [costK,costL_nil,e]
end Xr
def Xr.kindsL:List ByteArray:=[⟨#[109,46,114,111,111,109,46,99,114,101,97,116,101]⟩,⟨#[109,46,114,111,111,109,46,109,101,109,98,101,114]⟩,⟨#[109,46,114,111,111,109,46,112,111,119,101,114,95,108,101,118,101,108,115]⟩,⟨#[109,46,114,111,111,109,46,106,111,105,110,95,114,117,108,101,115]⟩,⟨#[109,46,114,111,111,109,46,115,101,114,118,101,114,95,97,99,108]⟩,⟨#[109,46,114,111,111,109,46,109,101,115,115,97,103,101]⟩,⟨#[116]⟩]
def Xr.kindN (k:Int):ByteArray:=Xr.kindsL.getD (k % 7).toNat ByteArray.empty
theorem kind_any (k:Int) (w:World) (hk0:0≤k) (hk1:k≤255) :
    Calls Tryz.prog 17 #[.int .u8 k] w fun e w'=>e=.returned (.string (Xr.kindN k))∧Below w.heap.size w w':=by
  have hrow:(w.alloc (.cells (Xr.kindsL.map Value.string).toArray 9)).cell? ⟨w.heap.size,(k % 7).toNat,none⟩=some (.string (Xr.kindsL.getD (k % 7).toNat ByteArray.empty)):=by
    have hl:(k % 7).toNat < Xr.kindsL.length:=by show _ < 7;omega
    obtain ⟨h1,_⟩:=row_new w (Xr.kindsL.map Value.string).toArray 9 w.heap.size rfl (k % 7).toNat (by simpa using hl)
    rw [h1]
    simp [List.getD,hl]
  have hp1:0≤k % 7:=by omega
  have hp2:k % 7 < 7:=by omega
  unfold Xr.kindN
  generalize Xr.kindsL.getD (k % 7).toNat ByteArray.empty=Q at hrow
  simp only [Xr.kindsL,List.map_cons,List.map_nil] at hrow
  go_enter Tryz.func17,Tryz.ntmps17
  go_wp2_with fail
  go_ret
  exact ⟨rfl,below_alloc _ _⟩
end Go.Proofs.YtapcmbbhhclepaaGreatDoor
namespace Go.Proofs.YtapcmbbhhclepaaGreatDoor
open Go.RowKit
abbrev FactM:=(Nat→Prop)→Value→World→Prop
def fctM (Fs:List FactM) (k:Nat):FactM:=Fs.getD k (fun _ _ _=>True)
def MonoM (f:FactM):Prop:=∀ (M M':Nat→Prop) v (w w':World),f M v w→(∀ b,M b→M' b)→Below w.heap.size w w'→f M' v w'
def MonoMAll:List FactM→Prop
  | []=>True
  | f :: l=>MonoM f∧MonoMAll l
theorem monoM_eq (x:Value):MonoM (fun _ v _=>v=x):=fun _ _ _ _ _ h _ _=>h
theorem monoM_true:MonoM (fun _ _ _=>True):=fun _ _ _ _ _ _ _ _=>trivial
theorem MonoMAll.at {Fs:List FactM} (h:MonoMAll Fs) (k:Nat):MonoM (fctM Fs k):=by
  induction Fs generalizing k with
  | nil=>exact monoM_true
  | cons f l ih =>
    cases k with
    | zero=>exact h.1
    | succ k=>exact ih h.2 k
def AllFM (vs:Nat→Value) (M:Nat→Nat→Prop) (w:World):Nat→List FactM→Prop
  | _,[]=>True
  | k,f :: l=>f (M k) (vs k) w∧AllFM vs M w (k+1) l
theorem allFM_of {vs:Nat→Value} {M:Nat→Nat→Prop} {w:World}:∀ (l:List FactM) (k:Nat),(∀ i,i < l.length→fctM l i (M (k+i)) (vs (k+i)) w)→AllFM vs M w k l
  | [],_,_=>trivial
  | f :: l,k,h=>⟨h 0 (by simp),allFM_of l (k+1) (fun i hi=>by
      have:=h (i+1) (by simp;omega)
      rw [show k+(i+1)=k+1+i by omega] at this
      exact this)⟩
def ancB (L:List Oper):Nat→Nat→Nat→Bool
  | 0,k,j=>k == j
  | f+1,k,j=>(k == j) || (match L[k]? with | some o=>(List.range L.length).any (fun d=>depB o d && ancB L f d j) | none=>false)
theorem ancB_self (L:List Oper) (f k:Nat):ancB L f k k=true:=by cases f <;> simp [ancB]
def ownM (L:List Oper) (lo hi:Nat→Nat) (k:Nat):Nat→Prop:=fun b=>∃ f j,ancB L f k j=true∧lo j≤b∧b < hi j
theorem ancB_dep {L:List Oper} {f k d j:Nat} {o:Oper} (ho:L[k]? = some o) (hd:depB o d=true) (hl:d < L.length) (h:ancB L f d j=true):ancB L (f+1) k j=true:=by
  rw [ancB,ho]
  have h4:(List.range L.length).any (fun d=>depB o d && ancB L f d j)=true:=List.any_eq_true.2 ⟨d,List.mem_range.2 hl,by rw [hd,h];rfl⟩
  simp only [h4,Bool.or_true]
theorem ancB_listed {L:List Oper} {listed:Array Bool} (hdn:∀ k o,L[k]? = some o→listed.getD k false=true→∀ j,depB o j=true→listed.getD j false=true):∀ (f k j:Nat),listed.getD k false=true→ancB L f k j=true→listed.getD j false=true
  | 0,k,j,hk,h=>by
    have e:k=j:=by simpa [ancB] using h
    rw [← e];exact hk
  | f+1,k,j,hk,h=>by
    rw [ancB] at h
    rcases Bool.or_eq_true .. ▸ h with h | h
    · have e:k=j:=by simpa using h
      rw [← e];exact hk
    · cases ho:L[k]? with
      | none=>rw [ho] at h;cases h
      | some o =>
        rw [ho] at h
        obtain ⟨d,hd,h2⟩:=List.any_eq_true.1 h
        have h3:=(Bool.and_eq_true ..).mp h2
        exact ancB_listed hdn f d j (hdn k o ho hk d h3.1) h3.2
def StepM (P:Program) (ops:Array Oper) (Q:Exit→Act→World→Prop) (Fs:List FactM) (A:(Nat→Value)→Act) (w0:World) (k:Nat) (o:Oper):Prop :=
  ∀ (vs:Nat→Value) (M:Nat→Nat→Prop) (w:World),Below w0.heap.size w0 w→(∀ d,depB o d=true→fctM Fs d (M d) (vs d) w)→∀ K':Act→World→Prop,
    Shut (∀ v w',fctM Fs k (fun b=>(∃ d,depB o d=true∧M d b)∨(w.heap.size≤b∧b < w'.heap.size)) v w'→Below w.heap.size w w'→K' ((A vs).put o.dst v) w') →
    if Region.wanted o (yielded ops (A vs).tmps)=true then Oper.wp P o (A vs) w K' Q else K' ((A vs).put o.dst undef) w
def StepsM (P:Program) (ops:Array Oper) (Q:Exit→Act→World→Prop) (Fs:List FactM) (A:(Nat→Value)→Act) (w0:World):Nat→List Oper→Prop
  | _,[]=>True
  | _,[_]=>True
  | k,o :: o' :: l=>StepM P ops Q Fs A w0 k o∧StepsM P ops Q Fs A w0 (k+1) (o' :: l)
theorem StepsM.at {P:Program} {ops:Array Oper} {Q:Exit→Act→World→Prop} {Fs:List FactM} {A:(Nat→Value)→Act} {w0:World}:∀ (l:List Oper) (m:Nat),StepsM P ops Q Fs A w0 m l→∀ i o,l[i]? = some o→i+1 < l.length→StepM P ops Q Fs A w0 (m+i) o
  | [],_,_,_,_,_,h=>by simp at h
  | [_],_,_,i,_,_,h=>by simp at h
  | o :: o' :: l,m,h,i,x,hx,hi=>by
    cases i with
    | zero =>
      simp at hx
      subst hx
      exact h.1
    | succ i =>
      have:=StepsM.at (o' :: l) (m+1) h.2 i x (by simpa using hx) (by simp at hi ⊢;omega)
      rw [show m+1+i=m+(i+1) by omega] at this
      exact this
theorem wpAny_factsM {P:Program} {l:List Oper} {olast:Oper} {Q:Exit→Act→World→Prop} {Fs:List FactM} {a0:Act} {w0:World} {A:(Nat→Value)→Act}
    (hA:∀ vs,puts vs 0 (l ++ [olast]) a0=A vs) (hd:dstB (l ++ [olast])=true) (hbk:backB 0 (l ++ [olast])=true) (hc:coverB (l ++ [olast])=true) (hF:MonoMAll Fs) (hlen:Fs.length=l.length)
    (hs:StepsM P (l ++ [olast]).toArray Q Fs A w0 0 (l ++ [olast]))
    (hl:∀ vs lo hi w,Below w0.heap.size w0 w→(∀ k,k < l.length→w0.heap.size≤lo k∧hi k≤w.heap.size)→(∀ j k,j < l.length→k < l.length→j≠k→hi j≤lo k∨hi k≤lo j)→AllFM vs (ownM (l ++ [olast]) lo hi) w 0 Fs→wpOp P (l ++ [olast]).toArray Q l.length (fun a' w'=>Q .normal a' w') (A vs) w) :
    ∀ (fuel:Nat) (listed:Array Bool) (vs:Nat→Value) (lo hi:Nat→Nat) (w:World),listed.size=l.length+1→listed.getD l.length true=false→listed.toList.count false≤fuel→Below w0.heap.size w0 w →
      (∀ k,listed.getD k false=true→(w0.heap.size≤lo k∧hi k≤w.heap.size)∧fctM Fs k (ownM (l ++ [olast]) lo hi k) (vs k) w)→(∀ j k,listed.getD j false=true→listed.getD k false=true→j≠k→hi j≤lo k∨hi k≤lo j)→(∀ k o,(l ++ [olast])[k]? = some o→listed.getD k false=true→∀ j,depB o j=true→listed.getD j false=true)→wpAny P .any (l ++ [olast]).toArray Q fuel listed (A vs) w:=by
  intro fuel
  induction fuel with
  | zero =>
    intro listed vs lo hi w hsz hlast hcnt
    have hi:l.length < listed.size:=by omega
    have hv:listed[l.length]=false:=by simpa [hi] using hlast
    have h3:0 < listed.toList.count false:=List.count_pos_iff.2 (by rw [← hv,← Array.getElem_toList];exact List.getElem_mem _)
    omega
  | succ fuel ih =>
    intro listed vs lo hi w hsz hlast hcnt hb hf hap hdn
    have hnext:∀ i,i ∈ Region.ready .any (l ++ [olast]).toArray listed→wpOp P (l ++ [olast]).toArray Q i (wpAny P .any (l ++ [olast]).toArray Q fuel (listed.setIfInBounds i true)) (A vs) w:=by
      intro i hrd
      obtain ⟨hun,o,ho,hall⟩:=mem_ready.1 hrd
      have hlt:i < l.length+1:=by
        have:=(Array.getElem?_eq_some_iff.1 ho).1
        simpa using this
      by_cases hil:i=l.length
      · subst hil
        have hol:o=olast:=by simpa using ho.symm
        subst hol
        have hthere:∀ d j,j < l.length→l.length - j≤d→listed.getD j false=true:=by
          intro d
          induction d with
          | zero=>intro j hj hd';omega
          | succ d ihd =>
            intro j hj hd'
            obtain ⟨k,ok,hjk,hok,hdep⟩:=coverB_at hc j (by simpa using hj)
            by_cases hkl:k=l.length
            · subst hkl
              have:ok=o:=by simpa using hok.symm
              subst this
              obtain ⟨e,he,h2,h3⟩:=depB_spec hdep
              have:=hall e he h3
              rw [h2] at this
              exact this
            · have hkn:k < l.length:=by
                have:=(List.getElem?_eq_some_iff.1 hok).1
                simp at this
                omega
              exact hdn k ok hok (ihd k hkn (by omega)) j hdep
        replace hthere:∀ j,j < l.length→listed.getD j false=true:=fun j hj=>hthere (l.length - j) j hj (Nat.le_refl _)
        refine wpOp_mono (fun a' w' hq=>?_) (hl vs lo hi w hb (fun k hk=>(hf k (hthere k hk)).1) (fun j k hj hk=>hap j k (hthere j hj) (hthere k hk)) (allFM_of Fs 0 (fun i hi'=>by rw [Nat.zero_add];exact (hf i (hthere i (by omega))).2)))
        have hnone:Region.ready .any (l ++ [o]).toArray (listed.setIfInBounds l.length true)=[]:=by
          rw [List.eq_nil_iff_forall_not_mem]
          intro j hj
          obtain ⟨h1,_⟩:=mem_ready.1 hj
          by_cases hjl:l.length=j
          · subst hjl
            have:l.length < listed.size:=by omega
            simp [this] at h1
          · rw [getD_set_ne true hjl] at h1
            have hjs:j < listed.size:=by
              rcases Nat.lt_or_ge j listed.size with h' | h'
              · exact h'
              · simp [Array.getElem?_eq_none h'] at h1
            have h4:=hthere j (by omega)
            simp [hjs] at h1 h4
            rw [h1] at h4
            cases h4
        exact wpAny_done hnone hq fuel
      · have hst:=StepsM.at (l ++ [olast]) 0 hs i o (by simpa using ho) (by simp;omega)
        rw [Nat.zero_add] at hst
        refine wpOp_step ho (fun K' hK=>hst vs (ownM (l ++ [olast]) lo hi) w hb (fun d hdep=>?_) K' (fun v w' hv hbw=>?_))
        · obtain ⟨e,he,h2,h3⟩:=depB_spec hdep
          subst h2
          exact (hf _ (hall e he h3)).2
        · refine hK _ _ ?_
          have hset:(A vs).put o.dst v=A (fun i'=>if i'=i then v else vs i'):=by
            rw [← hA,← hA]
            exact puts_set vs v i (l ++ [olast]) 0 a0 o hd (Nat.zero_le _) (by simpa using ho)
          rw [hset]
          refine ih _ _ (fun i'=>if i'=i then w.heap.size else lo i') (fun i'=>if i'=i then w'.heap.size else hi i') _ (by simpa using hsz) (by rw [getD_set_ne true hil];exact hlast) ?_ (bthen hb hbw) (fun k hk=>?_) (fun j k hj hk hjk=>?_) (fun k ok hok hk j hdep=>?_)
          · have:=falses_set hun
            omega
          · have h9:=hbw.size
            have h8:=hb.size
            by_cases hki:k=i
            · subst hki
              refine ⟨by simp only [if_pos];exact ⟨h8,Nat.le_refl _⟩,?_⟩
              have hv2:=hF.at k _ (ownM (l ++ [olast]) (fun i'=>if i'=k then w.heap.size else lo i') (fun i'=>if i'=k then w'.heap.size else hi i') k) _ _ _ hv (fun b hb'=>?_) (Below.refl _ _)
              · simpa using hv2
              · rcases hb' with ⟨d,hdep,f,j,hanc,h3,h4⟩ | hb'
                · obtain ⟨e,he,h5,h6⟩:=depB_spec hdep
                  have hdl:listed.getD d false=true:=by
                    have:=hall e he h6
                    rw [h5] at this
                    exact this
                  have hjl:=ancB_listed hdn f d j hdl hanc
                  have hjk:j≠k:=fun e5=>by
                    subst e5
                    have h7:j < listed.size:=by omega
                    simp [h7] at hun hjl
                    rw [hun] at hjl
                    cases hjl
                  have hd2:d < (l ++ [olast]).length:=by
                    rcases Nat.lt_or_ge d listed.size with h7 | h7
                    · simp;omega
                    · simp [Array.getElem?_eq_none h7] at hdl
                  refine ⟨f+1,j,ancB_dep (by simpa using ho) hdep hd2 hanc,?_,?_⟩
                  · simp only [if_neg hjk];exact h3
                  · simp only [if_neg hjk];exact h4
                · exact ⟨0,k,ancB_self _ _ _,by simp only [if_pos];exact hb'.1,by simp only [if_pos];exact hb'.2⟩
            · rcases getD_set_self hk with h5 | h5
              · exact absurd h5 hki
              · have h6:=(hf k h5).1
                refine ⟨by simp only [if_neg hki];exact ⟨h6.1,by omega⟩,?_⟩
                simp only [if_neg hki]
                refine hF.at k _ _ _ _ _ (hf k h5).2 (fun b hb'=>?_) hbw
                obtain ⟨f,j,hanc,h3,h4⟩:=hb'
                have hjl:=ancB_listed hdn f k j h5 hanc
                have hji:j≠i:=fun e5=>by
                  subst e5
                  have h7:j < listed.size:=by omega
                  simp [h7] at hun hjl
                  rw [hun] at hjl
                  cases hjl
                refine ⟨f,j,hanc,?_,?_⟩
                · simp only [if_neg hji];exact h3
                · simp only [if_neg hji];exact h4
          · rcases getD_set_self hj with h5 | h5 <;> rcases getD_set_self hk with h6 | h6
            · omega
            · subst h5
              by_cases hki:k=j
              · omega
              · simp only [if_neg hki,if_pos]
                exact .inr (hf k h6).1.2
            · subst h6
              by_cases hji:j=k
              · omega
              · simp only [if_neg hji,if_pos]
                exact .inl (hf j h5).1.2
            · by_cases hki:k=i
              · subst hki
                by_cases hji:j=k
                · omega
                · simp only [if_neg hji,if_pos]
                  exact .inl (hf j h5).1.2
              · by_cases hji:j=i
                · subst hji
                  simp only [if_neg hki,if_pos]
                  exact .inr (hf k h6).1.2
                · simp only [if_neg hki,if_neg hji]
                  exact hap j k h5 h6 hjk
          · rcases getD_set_self hk with h5 | h5
            · subst h5
              have:ok=o:=by
                have h7:(l ++ [olast])[k]? = some o:=by simpa using ho
                rw [h7] at hok
                exact (Option.some.inj hok).symm
              subst this
              obtain ⟨e,he,h2,h3⟩:=depB_spec hdep
              have:=hall e he h3
              rw [h2] at this
              exact getD_set_true this
            · exact getD_set_true (hdn k ok hok h5 j hdep)
    refine ⟨fun hnil=>?_,hnext⟩
    exfalso
    obtain ⟨m,hm,hpm,hmin⟩:=least (p:=fun j=>listed.getD j true=false) l.length hlast
    have hmo:∃ o,(l ++ [olast]).toArray[m]? = some o:=by
      rw [List.getElem?_toArray]
      exact ⟨_,List.getElem?_eq_getElem (by simp;omega)⟩
    obtain ⟨o,ho⟩:=hmo
    have hin:m ∈ Region.ready .any (l ++ [olast]).toArray listed:=mem_ready.2 ⟨hpm,o,ho,fun e he hbn=>by
      have h1:=backB_at (l ++ [olast]) 0 hbk m o (by simpa using ho) e he hbn
      have h2:=hmin e.on (by omega)
      have h3:e.on < listed.size:=by omega
      simp [h3] at h2 ⊢
      exact h2⟩
    rw [hnil] at hin
    cases hin
theorem wp_region_factsM {P:Program} {id:Nat} {L:List Oper} {olast:Oper} {Q:Exit→Act→World→Prop} (Fs:List FactM) {a0:Act} {w0:World} {A:(Nat→Value)→Act} (hm:P.follows .mixedOrders=true) (hL:L.getLast? = some olast)
    (hA:∀ vs,puts vs 0 L a0=A vs) (hd:dstB L=true) (hbk:backB 0 L=true) (hc:coverB L=true) (hlen:Fs.length=L.length - 1) (hF:MonoMAll Fs)
    (hs:∀ Q',StepsM P L.toArray Q' Fs A w0 0 L)
    (hl:∀ vs lo hi w,Below w0.heap.size w0 w→(∀ k,k < L.length - 1→w0.heap.size≤lo k∧hi k≤w.heap.size)→(∀ j k,j < L.length - 1→k < L.length - 1→j≠k→hi j≤lo k∨hi k≤lo j)→AllFM vs (ownM L lo hi) w 0 Fs→∀ (K':Act→World→Prop) (Q':Exit→Act→World→Prop),Shut (∀ a w,Q .normal a w→K' a w) →
      if Region.wanted olast (yielded L.toArray (A vs).tmps)=true then Oper.wp P olast (A vs) w K' Q' else K' ((A vs).put olast.dst undef) w) :
    (Code.region id L.toArray true).wp P Q a0 w0:=by
  obtain ⟨l,rfl⟩:∃ l,L=l ++ [olast]:=by
    obtain ⟨l,hl⟩:=List.getLast?_eq_some_iff.1 hL
    exact ⟨l,hl⟩
  have hn:(l ++ [olast]).length - 1=l.length:=by simp
  rw [hn] at hlen hl
  refine wp_region_any hm ?_
  obtain ⟨vs,hvs⟩:∃ vs:Nat→Value,∀ i o,(l ++ [olast])[i]? = some o→vs (0+i)=own a0 o :=
    ⟨fun i=>match (l ++ [olast])[i]? with | some o=>own a0 o | none=>undef,fun i o ho=>by simp only [Nat.zero_add,ho]⟩
  have e:a0=A vs:=by rw [← hA,puts_own a0 vs _ 0 hvs]
  have h:=wpAny_factsM hA hd hbk hc hF hlen (hs Q) (fun vs lo hi w hb h1 h2 hf=>wpOp_step (by simp) (fun K' hK=>hl vs lo hi w hb h1 h2 hf K' Q hK)) (l ++ [olast]).toArray.size (Array.replicate (l ++ [olast]).toArray.size false) vs (fun _=>0) (fun _=>0) w0.drew (by simp) (by simp)
    (Nat.le_trans List.count_le_length (by simp)) (Below.refl _ _).drew (fun k hk=>by simp [Array.getD] at hk) (fun j k hk=>by simp [Array.getD] at hk) (fun k o _ hk=>by simp [Array.getD] at hk)
  rw [← e] at h
  exact h
end Go.Proofs.YtapcmbbhhclepaaGreatDoor
namespace Go.Proofs.YtapcmbbhhclepaaGreatDoor
open Go.RowKit
theorem ancB_le {L:List Oper} (hbk:backB 0 L=true):∀ (f k j:Nat),ancB L f k j=true→j≤k
  | 0, k, j, h => by have e:k=j:=by simpa [ancB] using h
                     omega
  | f+1,k,j,h=>by
    rw [ancB] at h
    rcases Bool.or_eq_true .. ▸ h with h | h
    · have e:k=j:=by simpa using h
      omega
    · cases ho:L[k]? with
      | none=>rw [ho] at h;cases h
      | some o =>
        rw [ho] at h
        obtain ⟨d,hd,h2⟩:=List.any_eq_true.1 h
        have h3:=(Bool.and_eq_true ..).mp h2
        obtain ⟨e,he,h5,h6⟩:=depB_spec h3.1
        have h7:=backB_at L 0 hbk k o ho e he h6
        have h8:=ancB_le hbk f d j h3.2
        omega
theorem ownM_apart {L:List Oper} {lo hi:Nat→Nat} (hbk:backB 0 L=true) {k g:Nat} (kb:Nat) (hkb:k < kb) (hap:∀ j,j≤k→hi j≤lo kb∨hi kb≤lo j) (hg:lo kb≤g∧g < hi kb):¬ ownM L lo hi k g:=by
  rintro ⟨f,j,h1,h2,h3⟩
  have:=hap j (ancB_le hbk f k j h1)
  omega
theorem ownM_alone {L:List Oper} {lo hi:Nat→Nat} {k:Nat} {o:Oper} (ho:L[k]? = some o) (hn:o.after=#[]) {b:Nat} (h:ownM L lo hi k b):lo k≤b∧b < hi k:=by
  obtain ⟨f,j,h1,h2,h3⟩:=h
  have e:k=j:=by
    cases f with
    | zero=>simpa [ancB] using h1
    | succ f =>
      rw [ancB,ho] at h1
      have h4:∀ d,depB o d=false:=fun d=>by simp [depB,hn]
      simpa [h4] using h1
  subst e
  exact ⟨h2,h3⟩
theorem ownM_box {L:List Oper} {lo hi:Nat→Nat} (kb:Nat) {k g:Nat} {o:Oper} (hm:ownM L lo hi kb g) (hbk:backB 0 L=true) (ho:L[kb]? = some o) (hn:o.after=#[]) (hkb:k < kb) (hap:∀ j,j≤k→hi j≤lo kb∨hi kb≤lo j):¬ ownM L lo hi k g∧lo kb≤g∧g < hi kb :=
  ⟨ownM_apart hbk kb hkb hap (ownM_alone ho hn hm),ownM_alone ho hn hm⟩
def ValM (G:Nat) (x:V):FactM:=fun M v w=>∃ k n t a1 n1 c1 a2 n2 c2,v=.agg #[.int .i64 k,.int .i64 n,.string t,.slice a1 n1 c1,.slice a2 n2 c2]∧Hid (Is w (fun b=>b < G∨M b) (.agg #[.int .i64 k,.int .i64 n,.string t,.slice a1 n1 c1,.slice a2 n2 c2]) x)
theorem monoM_val (G:Nat) (x:V):MonoM (ValM G x):=by
  rintro M M' v w w' ⟨k,n,t,a1,n1,c1,a2,n2,c2,h1,h2⟩ hs b
  exact ⟨k,n,t,a1,n1,c1,a2,n2,c2,h1,hide ((h2.out.below b).weak (fun b _ hb=>hb.imp id (hs b)))⟩
def BoxM:FactM:=fun M v w=>∃ g,v=.pointer (some ⟨g,0,none⟩)∧M g∧Hid (B5 w g (.int .i64 0) (.int .i64 0) (.string ⟨#[]⟩) (.slice none 0 0) (.slice none 0 0))
theorem monoM_box:MonoM BoxM:=by
  rintro M M' v w w' ⟨g,h1,h2,h3⟩ hs b
  exact ⟨g,h1,hs g h2,hide (h3.out.keep b)⟩
theorem B5.lt {w:World} {g:Nat} {c0 c1 c2 c3 c4:Value} (h:B5 w g c0 c1 c2 c3 c4):g < w.heap.size:=(Array.getElem?_eq_some_iff.1 h).1
namespace Xr
theorem kindN_size (k:Int):(kindN k).size≤20:=key_small kindsL 20 (by decide) _
theorem kindN_utf (k:Int):V.utf (kindN k)=true:=utf_list kindsL (by kernel_rfl) _
theorem bodyX_cost (zs:List Int) (len:Nat) (k:Int) (i:Nat):cost (bodyX zs len k i)≤6400:=by
  unfold bodyX
  split
  · rw [cost_str];have:=key_small words5 10 (by decide) (zs.getD i 0 / 10 % 5).toNat;omega
  · split
    · rw [cost_str];have:=key_small words3 10 (by decide) (zs.getD i 0 / 10 % 3).toNat;omega
    · split
      · exact cost_part _ _ _
      · rw [cost_num];omega
theorem bodyTo_cost (zs:List Int) (len:Nat) (k:Int):∀ i,cost (bodyTo zs len k i)≤24+6500 * i
  | 0=>by show cost V.none5≤_;unfold V.none5;rw [cost_mk];decide
  | i+1=>by
    have h1:=bodyTo_cost zs len k i
    have h2:=cost_with (bodyTo zs len k i) (bodyKeys.getD (zs.getD i 0 % 10).toNat ByteArray.empty) (bodyX zs len k i)
    have h3:=bodyX_cost zs len k i
    have h4:=bodyKey_size (zs.getD i 0 % 10).toNat
    simp only [bodyTo]
    omega
theorem body_cost (zs:List Int) (len:Nat) (k:Int):cost (body zs len k)≤40000:=by have:=bodyTo_cost zs len k (min 6 len);unfold body;omega
theorem body_wt (zs:List Int) (len:Nat) (k:Int):V.wt (body zs len k)≤25000:=by have:=bodyTo_wt zs len k (min 6 len);unfold body;omega
theorem body_right {zs:List Int} (h:∀ n ∈ zs,(Lit.int .u8 n).wf=true) (len:Nat) (k:Int):V.right (body zs len k)=true:=bodyTo_right h len k _
theorem body_5 (zs:List Int) (len:Nat) (k:Int):(body zs len k).kind=5:=bodyTo_5 zs len k _
def evV (B:V) (KD:ByteArray):V:=V.withV (V.withV ⟨0,0,⟨#[]⟩,[],[]⟩ kContent B) kType ⟨3,0,KD,[],[]⟩
theorem evV_right {B:V} {KD:ByteArray} (hB:V.right B=true) (hK:V.utf KD=true):V.right (evV B KD)=true∧(evV B KD).kind=5:=by
  have h1:=V.one_key kContent B
  have h2:V.withV ⟨0,0,⟨#[]⟩,[],[]⟩ kContent B=⟨5,0,⟨#[]⟩,[kContent],[B]⟩:=h1
  unfold evV
  rw [h2]
  exact ⟨V.right_with (V.one_right utf_content hB) rfl utf_type (V.right_str hK),V.kind5_with _ _ _⟩
theorem evV_get {B:V} {KD:ByteArray} (hB:V.right B=true) (hK:V.utf KD=true) (o:ByteArray):V.get (evV B KD) o=if o=kType then some (V.str KD) else if o=kContent then some B else none:=by
  have h1:=V.one_key kContent B
  have h2:V.withV ⟨0,0,⟨#[]⟩,[],[]⟩ kContent B=⟨5,0,⟨#[]⟩,[kContent],[B]⟩:=h1
  unfold evV
  have h3:=V.get_with (V.one_right utf_content hB) rfl utf_type (V.right_str hK) o
  unfold V.str at h3
  rw [h2,h3]
  by_cases e:o=kType
  · rw [if_pos e,if_pos e];rfl
  · rw [if_neg e,if_neg e]
    by_cases e2:o=kContent
    · rw [if_pos e2,e2,V.one_get]
    · rw [if_neg e2,V.get_miss 0 _ o rfl (by simpa using e2)]
theorem evV_size {B:V} {KD:ByteArray} (hB:V.wt B≤25000) (hc:cost B≤40000) (hK:KD.size≤20):V.wt (evV B KD)≤26000∧cost (evV B KD)≤41000:=by
  have e7:kContent.size=7:=rfl
  have e4:kType.size=4:=rfl
  have w0:V.wt ⟨0,0,⟨#[]⟩,[],[]⟩=1:=by rw [V.wt_mk];decide
  have c0:cost ⟨0,0,⟨#[]⟩,[],[]⟩=24:=by rw [cost_mk];decide
  have ws:V.wt ⟨3,0,KD,[],[]⟩=1+KD.size:=wt_str KD
  have cs:cost ⟨3,0,KD,[],[]⟩=24+6 * KD.size:=cost_str KD
  have h1:=V.wt_with_le ⟨0,0,⟨#[]⟩,[],[]⟩ kContent B
  have h2:=V.wt_with_le (V.withV ⟨0,0,⟨#[]⟩,[],[]⟩ kContent B) kType ⟨3,0,KD,[],[]⟩
  have h3:=cost_with ⟨0,0,⟨#[]⟩,[],[]⟩ kContent B
  have h4:=cost_with (V.withV ⟨0,0,⟨#[]⟩,[],[]⟩ kContent B) kType ⟨3,0,KD,[],[]⟩
  unfold evV
  omega
theorem evV_kind {B:V} {KD:ByteArray} (hB:V.right B=true) (hK:V.utf KD=true):kindOf (evV B KD)=KD:=by
  unfold kindOf
  rw [evV_get hB hK,if_pos rfl]
  rfl
end Xr
end Go.Proofs.YtapcmbbhhclepaaGreatDoor
namespace Go.Proofs.YtapcmbbhhclepaaGreatDoor
theorem tab_of_vars {P:Program} {W:World} {name:String} {k:IntKind} {zs:List Int} {g:Nat} {t e:TypeId} {n:Nat}
    (hg:P.globalNamed name=some g) (hty:(P.globals[g]?).map (·.type)=some t) (ht:P.underlying t=some (.array n e)) (he:P.underlying e=some (.int k)) (hce:P.cellsOf e=1) (hct:P.cellsOf t=n) :
    ∀ {laid:List (String×DataW Unit)} {ps:List MemPlace},DataW.LaidVars P W laid ps→(name,Lib.tabData k zs) ∈ laid→Lib.TabIs P W name k zs
  | [],_,_,h=>by cases h
  | (nm,d) :: r,_,h,hm=>by
    obtain ⟨g',t',cs,fuel,p,q,hg',ht',hvar,hd,hr,_⟩:=h
    rcases List.mem_cons.1 hm with hm | hm
    · cases hm
      obtain rfl:=Option.some.inj (hg.symm.trans hg')
      obtain rfl:=Option.some.inj (hty.symm.trans ht')
      unfold Lib.TabIs
      rw [hvar,← Lib.cells_of_tab ht he hce hct hd]
    · exact tab_of_vars hg hty ht he hce hct hr hm
theorem var_lt {P:Program} {W:World} {n:String} {g:Nat} {cs:Array Value} (hg:P.globalNamed n=some g) (h:W.var? P n=some cs):g < W.heap.size:=by
  unfold World.var? at h
  rw [hg] at h
  simp only [Option.bind_some] at h
  rcases Nat.lt_or_ge g W.heap.size with h1 | h1
  · exact h1
  · rw [Array.getElem?_eq_none h1] at h
    cases h
theorem gCubes : Tryz.prog.globalNamed "heliast/digest.cubes" = some 0 := by kernel_rfl
theorem gPow : Tryz.prog.globalNamed "internal/strconv.uint64pow10" = some 2 := by kernel_rfl
theorem tabs_of {W : World} {laid : List (String × DataW Unit)} {ps : List MemPlace} (h : DataW.LaidVars Tryz.prog W laid ps) (h1 : ("internal/strconv.uint64pow10", Lib.tabData .u64 Lib.pow10Tab) ∈ laid) (h2 : ("heliast/digest.cubes", Lib.tabData .u32 Dig.Dg.K) ∈ laid) : Tabs W := by
  have t1:=tab_of_vars gPow (t:=160) (by kernel_rfl) Tryz.underlying160 Tryz.underlying110 (by kernel_rfl) (by kernel_rfl) h h1
  have t2:=tab_of_vars gCubes (t:=147) (by kernel_rfl) Tryz.underlying147 Tryz.underlying123 (by kernel_rfl) (by kernel_rfl) h h2
  refine ⟨fun i hi=>?_,fun w2 b2=>var?_below b2 gPow (var_lt gPow t1) t1⟩
  rw [t2.cell gCubes i hi]
  simp
end Go.Proofs.YtapcmbbhhclepaaGreatDoor
namespace Go.Proofs.YtapcmbbhhclepaaGreatDoor
open Go.RowKit
namespace Xr
theorem cost_with_hit {t:V} (ht:V.right t=true) (h5:t.kind=5) {key:ByteArray} {c:V} (hg:V.get t key=some c) (y:V):cost (V.withV t key y)+cost c=cost t+cost y:=by
  have hin:=(V.get_keys ht h5 key c hg).1
  obtain ⟨ks,l,rfl,hu,hl,ha⟩:=V.obj_open ht h5
  obtain ⟨ka,kb,la,z,lb,rfl,rfl,h1,h2⟩:=V.split_at hl hin
  have h3:=V.get_hit 0 ⟨#[]⟩ key z h1 h2 hu
  rw [h3] at hg
  cases hg
  rw [(V.hit_form 0 ⟨#[]⟩ key c h1 h2 hu).2.1 y,cost_mk,cost_mk,costL_append,costL_cons,costL_append,costL_cons]
  omega
theorem cost_redact_le {x:V} (h:V.right x=true):cost (redact x)≤cost x:=by
  by_cases h5:x.kind=5
  · have ht:=taken_right h h5 lEvent
    have hc:=cost_taken x lEvent
    unfold redact
    rw [if_pos h5]
    by_cases hk:(content x).kind=5
    · rw [if_pos hk]
      have hg:∃ c,V.get x kContent=some c:=by
        unfold content at hk
        cases hg:V.get x kContent with
        | none=>rw [hg] at hk;simp [V.nul] at hk
        | some c=>exact ⟨c,rfl⟩
      obtain ⟨c,hg⟩:=hg
      have e:content x=c:=by unfold content;rw [hg];rfl
      rw [e]
      have h1:=cost_with_hit ht.1 ht.2 (key:=kContent) (c:=c) (by rw [get_taken h h5,if_pos contentE];exact hg) (ofContent c (kindOf x))
      have h2:cost (ofContent c (kindOf x))≤cost c:=by
        unfold ofContent
        split
        · exact Nat.le_refl _
        · exact cost_taken _ _
      omega
    · rw [if_neg hk];exact hc
  · rw [redact_no5 h5]
    have e:cost V.nul=24:=by unfold V.nul;rw [cost_mk];rfl
    rw [e]
    exact cost_pos x
end Xr
set_option maxHeartbeats 2000000 in
theorem id_any2 {v:Value} {x:V} {w:World} {S:Nat→Prop} (h:Is w S v x) (hr:V.right x=true) (hwt:V.wt x≤10000000) (hc:Xr.cost x≤900000) (hT:Tabs w) :
    Calls Tryz.prog 21 #[v] w fun e w'=>e=.returned (.string (Xr.ident x))∧Below w.heap.size w w':=by
  obtain ⟨kv,lv,rfl,h2,h8,_⟩:=id h.open
  obtain ⟨a1,c1,rfl,_⟩:=id h2
  obtain ⟨a2,c2,_,rfl,_⟩:=id h8
  clear h2 h8
  have b0:=below_alloc w (.cells #[.int .i64 x.kind,.int .i64 x.num,.string x.text,.slice a1 x.keys.length c1,.slice a2 x.list.length c2] 27)
  have HI:=hide (h.below b0)
  have HT:=hide (hT.below b0)
  have B0:=hide b0
  have HWT:=hide hwt
  have HR:=hide (Xr.redact_right hr)
  have HP:Hid ((Cn.print (Xr.redact x)).length≤900100):=hide (by have h1:=Xr.print_cost (Xr.redact x);have h2:=Xr.cost_redact_le hr;omega)
  have HW4:Hid (V.wt (Xr.redact x)≤4294967296):=hide (by have h1:=Xr.wt_redact x;omega)
  unfold Xr.ident
  obtain ⟨R,hR⟩:∃ R:ByteArray,R=⟨(Cn.print (Xr.redact x)).toArray⟩:=⟨_,rfl⟩
  have hRl:R.data.toList=Cn.print (Xr.redact x):=by rw [hR]
  have HRS:Hid (R.size≤1000000):=hide (by have h1:=HP.out;rw [← hRl,Xr.data_len] at h1;omega)
  rw [← hRl]
  have HRR:=hide hR
  clear hR hRl b0 h hT hr hwt hc
  go_enter Tryz.func21,Tryz.ntmps21
  go_wp2_with fail
  refine (redact_any HI.out (Nat.le_trans HWT.out (by decide))).mono ?_
  rintro e w1 ⟨k3,n3,t3,a3,m3,c3,a4,m4,c4,rfl,h3,b3⟩
  have I3:=hide h3
  have T3:=hide (HT.out.below b3)
  have B3:=hide (bthen B0.out b3)
  clear h3 b3
  go_wp2_with fail
  refine (print_any I3.out HR.out HW4.out (Nat.le_trans HP.out (by decide)) T3.out.tab R HRR.out).mono ?_
  rintro e w3 ⟨rfl,b7⟩
  have T8:=hide (T3.out.below b7)
  have B8:=hide (bthen B3.out b7)
  clear b7
  go_wp2_with fail
  refine (Dig.ident_any R w3 HRS.out T8.out.cubes).mono ?_
  rintro e w9 ⟨rfl,b9⟩
  go_wp2_with fail
  go_ret
  exact ⟨rfl,bthen B8.out b9⟩
end Go.Proofs.YtapcmbbhhclepaaGreatDoor
namespace Go.Proofs.YtapcmbbhhclepaaGreatDoor
open V
namespace Xr
theorem redact_len {x:V} (h:right x=true) (h5:x.kind=5):(redact x).keys.length=(redact x).list.length:=by
  obtain ⟨ks,l,e,hu,hl,ha⟩:=obj_open (redact_right h) (redact_5 h h5)
  rw [e]
  exact hl
theorem once_get {x:V} (h:right x=true) (h5:x.kind=5) {i:Nat} (hi:i < (redact x).keys.length) (hj:i < (redact x).list.length) (hn:(redact x).keys[i]≠kContent):(get x (redact x).keys[i]).getD nul=(redact x).list[i]:=by
  obtain ⟨ks,l,e,hu,hl,ha⟩:=obj_open (redact_right h) (redact_5 h h5)
  have hg:get (redact x) (redact x).keys[i]=some (redact x).list[i]:=by
    generalize hr:redact x=r at *
    subst e
    refine (get_mem 0 _ hl hu _ _).2 ?_
    have hz:i < (ks.zip l).length:=by rw [List.length_zip];simp only at hi hj;omega
    have:=List.getElem_mem hz
    rwa [List.getElem_zip] at this
  generalize (redact x).keys[i]=o at *
  generalize (redact x).list[i]=z at *
  rw [get_redact h h5,if_neg hn] at hg
  by_cases c:Lib.containsS lEvent o=true
  · rw [if_pos c] at hg
    rw [hg]
    rfl
  · rw [if_neg c] at hg
    cases hg
end Xr
end Go.Proofs.YtapcmbbhhclepaaGreatDoor
namespace Go.Proofs.YtapcmbbhhclepaaGreatDoor
open Go.RowKit Go.Sort
set_option maxHeartbeats 2000000 in
theorem refGet_S {v:Value} {x:V} {w:World} {S:Nat→Prop} (h:Is w S v x) (key:ByteArray) (hwt:V.wt x≤4294967296) :
    Calls Tryz.prog 19 #[v,.string key] w fun e w'=>∃ k n t a1 n1 c1 a2 n2 c2 is,e=.returned (.tuple #[.agg #[.int .i64 k,.int .i64 n,.string t,.slice a1 n1 c1,.slice a2 n2 c2],.bool is])∧is=(V.get x key).isSome∧Is w' S (.agg #[.int .i64 k,.int .i64 n,.string t,.slice a1 n1 c1,.slice a2 n2 c2]) ((V.get x key).getD V.nul)∧Below w.heap.size w w':=by
  replace h:=h.weak (S':=fun b=>b < w.heap.size∧S b) (fun b hb hs=>⟨hb,hs⟩)
  obtain ⟨kv,lv,rfl,h2,h8,_⟩:=id h.open
  obtain ⟨a1,c1,rfl,h3,h4,_,h5⟩:=id h2
  obtain ⟨a,cap,c,rfl,h6,h7,_⟩:=id h8
  obtain ⟨p,hp⟩:∃ p,V.place x key=p:=⟨_,rfl⟩
  have hlen:x.list.length≤4294967296:=by have:=V.len_wt x;omega
  have HP:=hide hp
  have H8:=hide h8
  have HH:=hide h
  clear hp h5 h4 h7 h8 h2 h
  have b0:Below w.heap.size w ((w.alloc (.cells #[.int .i64 x.kind,.int .i64 x.num,.string x.text,.slice a1 x.keys.length c1,.slice a x.list.length cap] 27)).alloc (.cells #[.int .i64 0,.int .i64 0,.string ⟨#[]⟩,.slice none 0 0,.slice none 0 0] 27)):=bthen (below_alloc _ _) (below_alloc _ _)
  have HB0:=hide b0
  clear b0
  obtain ⟨x0,x1,x2,x3,x4⟩:Box5 ((w.alloc (.cells #[.int .i64 x.kind,.int .i64 x.num,.string x.text,.slice a1 x.keys.length c1,.slice a x.list.length cap] 27)).alloc (.cells #[.int .i64 0,.int .i64 0,.string ⟨#[]⟩,.slice none 0 0,.slice none 0 0] 27)) w.heap.size _ _ _ _ _:=(box5_new w _ _ _ _ _ 27).keep (below_alloc _ _)
  go_enter Tryz.func19,Tryz.ntmps19
  go_wp2_with fail
  clear x0 x1 x2 x3 x4
  refine (refPlace_any (HH.out.below HB0.out) hwt key p HP.out).mono ?_
  rintro e w1 ⟨rfl,b1⟩
  have q:BoxF w1 (w.heap.size+1) _ _ _ _ _:=(boxF_at _ _ _ _ _ _ 27 _ (by simp)).keep b1
  have hbx:Box5 w1 w.heap.size _ _ _ _ _:=((box5_new w _ _ _ _ _ 27).keep (below_alloc _ _)).keep b1
  have HQ:=hide q
  have bb:=bthen HB0.out b1
  have HBB:=hide bb
  clear b1
  obtain ⟨⟨y0,y1,y2,y3,y4⟩,g0,g1,g2,g3,g4⟩:=id q
  clear q
  by_cases hneg:p < 0
  · clear bb
    go_wp2_with fail
    obtain ⟨u0,u1,u2,u3,u4⟩:=Box5.all HQ.out.1 (.int .i64 0) (.int .i64 0) (.string ⟨#[]⟩) (.slice none 0 0) (.slice none 0 0)
    refine bodyPost_ret (v:=.tuple #[.agg #[.int .i64 0,.int .i64 0,.string ⟨#[]⟩,.slice none 0 0,.slice none 0 0],.bool false]) (by simp [results,Tryz.results19,go_sem,u0,u1,u2,u3,u4]) rfl ?_
    have e1:V.get x key=none:=by rw [V.get_eq',HP.out,if_pos hneg]
    rw [e1]
    exact ⟨_,_,_,_,_,_,_,_,_,_,rfl,rfl,is_plain _ _ 0 0 ⟨#[]⟩ (by decide),((((HBB.out.setCell (Nat.le_succ _) _).setCell (Nat.le_succ _) _).setCell (Nat.le_succ _) _).setCell (Nat.le_succ _) _).setCell (Nat.le_succ _) _⟩
  · have hpl:=(V.place_lt x key (by rw [HP.out];omega)).2
    rw [HP.out] at hpl
    obtain ⟨m,hm⟩:∃ m:Nat,p.toNat=m:=⟨_,rfl⟩
    have hpm:p=(m:Int):=by omega
    have hml:m < x.list.length:=by omega
    subst hpm
    clear hm hpl
    obtain ⟨b,off,k',n',t',a1',n1',c1',a2',n2',c2',rfl,hel,e0,e1,e2,e3,e4⟩:=isL_open H8.out bb hml
    have HEL:=hide hel
    have hget:V.get x key=some x.list[m]:=by rw [V.get_eq',HP.out,if_neg (by omega),Int.toNat_natCast,List.getElem?_eq_getElem hml]
    have HG:=hide hget
    clear hel hget bb
    obtain ⟨x0,x1,x2,x3,x4⟩:=hbx
    go_wp2_with fail
    obtain ⟨u0,u1,u2,u3,u4⟩:=Box5.all HQ.out.1 (.int .i64 k') (.int .i64 n') (.string t') (.slice a1' n1' c1') (.slice a2' n2' c2')
    refine bodyPost_ret (v:=.tuple #[.agg #[.int .i64 k',.int .i64 n',.string t',.slice a1' n1' c1',.slice a2' n2' c2'],.bool true]) (by simp [results,Tryz.results19,go_sem,u0,u1,u2,u3,u4]) rfl ?_
    rw [HG.out]
    refine ⟨_,_,_,_,_,_,_,_,_,_,rfl,rfl,?_,((((HBB.out.setCell (Nat.le_succ _) _).setCell (Nat.le_succ _) _).setCell (Nat.le_succ _) _).setCell (Nat.le_succ _) _).setCell (Nat.le_succ _) _⟩
    have kp:=keeps_set5 (S:=fun b=>b < w.heap.size∧S b) (w:=w1) (g:=w.heap.size+1) (o:=0) (.int .i64 k') (.int .i64 n') (.string t') (.slice a1' n1' c1') (.slice a2' n2' c2') (fun hh=>by have:=hh.1;omega)
    exact (HEL.out.keep kp).weak (fun _ _ hs=>hs.2)
end Go.Proofs.YtapcmbbhhclepaaGreatDoor
namespace Go.Proofs.YtapcmbbhhclepaaGreatDoor
open Go.RowKit
theorem wpAny_factsP {P:Program} {L:List Oper} {n:Nat} {Q:Exit→Act→World→Prop} {Fs:List Fact} {a0:Act} {w0:World} {A:(Nat→Value)→Act}
    (hA:∀ vs,puts vs 0 L a0=A vs) (hd:dstB L=true) (hbk:backB 0 L=true) (hn:n < L.length) (p:Nat) (hp:p < n) (hwt:((List.range n).all fun i=>i == p || Region.waitsFor .any L.toArray n i)=true) (hr2:Region.ready .any L.toArray (((Array.replicate n true ++ Array.replicate (L.length - n) false).setIfInBounds p false).setIfInBounds n true)=[p])
    (hseq2:Region.seqB .any L.toArray (L.drop (n+1)).length (n+1) ((((Array.replicate n true ++ Array.replicate (L.length - n) false).setIfInBounds p false).setIfInBounds n true).setIfInBounds p true)=true)
    (hch:Region.chainB .any L.toArray n=true)
    (hseq:Region.seqB .any L.toArray (L.drop n).length n (Array.replicate n true ++ Array.replicate (L.length - n) false)=true) (hF:MonoAll Fs) (hlen:Fs.length=n)
    (hs:StepsH P L.toArray Q Fs A w0 0 (L.take n))
    (hl:∀ vs lo hi w,Below w0.heap.size w0 w→(∀ k,k < n→w0.heap.size≤lo k∧hi k≤w.heap.size)→AllF vs lo hi w 0 Fs→wpList P L.toArray Q (L.drop n) (A vs) w)
    (hl2:∀ (vs:Nat→Value) (lo hi:Nat→Nat) (w:World),Below w0.heap.size w0 w→(∀ k,k < n→k≠p→w0.heap.size≤lo k∧hi k≤w.heap.size)→(∀ k,k < n→k≠p→fct Fs k (lo k) (hi k) (vs k) w)→∀ on op,L[n]? = some on→L[p]? = some op→wpList P L.toArray Q (on :: op :: L.drop (n+1)) (A vs) w) :
    ∀ (fuel:Nat) (listed:Array Bool) (vs:Nat→Value) (lo hi:Nat→Nat) (w:World),HeadInv .any L.toArray n listed→listed.toList.count false≤fuel→Below w0.heap.size w0 w →
      (∀ k,listed.getD k false=true→(w0.heap.size≤lo k∧hi k≤w.heap.size)∧fct Fs k (lo k) (hi k) (vs k) w)→wpAny P .any L.toArray Q fuel listed (A vs) w:=by
  intro fuel
  induction fuel with
  | zero =>
    intro listed vs lo hi w inv hcnt
    have ht:=inv.tail n (Nat.le_refl _) (by simpa using hn)
    have hi:n < listed.size:=by rw [inv.size];simpa using hn
    have hv:listed[n]=false:=by simpa [hi] using ht
    have h3:0 < listed.toList.count false:=List.count_pos_iff.2 (by rw [← hv,← Array.getElem_toList];exact List.getElem_mem _)
    omega
  | succ fuel ih =>
    intro listed vs lo hi w inv hcnt hb hf
    by_cases hall:∀ i,i < n→listed.getD i false=true
    · have hls:listed=Array.replicate n true ++ Array.replicate (L.length - n) false:=by
        have hsz:=inv.size
        apply Array.ext
        · rw [hsz];simp;omega
        · intro i h1 h2
          by_cases hin:i < n
          · have h3:=hall i hin
            rw [Array.getElem_append_left (by simpa using hin)]
            simpa [h1] using h3
          · have h3:=inv.tail i (by omega) (by rw [← hsz];exact h1)
            rw [Array.getElem_append_right (by simp;omega)]
            simpa [h1] using h3
      have hcm:(L.drop n).length≤fuel+1:=by
        rw [hls] at hcnt
        simp [List.count_replicate] at hcnt ⊢
        omega
      obtain ⟨f,hf'⟩:∃ f,fuel+1=f+(L.drop n).length:=⟨fuel+1 - (L.drop n).length,by omega⟩
      rw [hf',hls]
      refine wpAny_seqF (L.drop n) n f _ _ _ (fun j=>by simp) hseq ?_
      exact hl vs lo hi w hb (fun k hk=>(hf k (hall k hk)).1) (allF_of Fs 0 (fun i hi'=>by rw [Nat.zero_add];exact (hf i (hall i (by omega))).2))
    · have hun:∃ i,i < n∧listed.getD i true=false:=by
        apply Classical.byContradiction
        intro h
        apply hall
        intro i hi'
        cases hc:listed.getD i false with
        | true=>rfl
        | false=>exact (h ⟨i,hi',getD_in (by rw [inv.size];simp;omega) hc⟩).elim
      obtain ⟨i0,hi0,hu0⟩:=hun
      have hnext:∀ i,i ∈ Region.ready .any L.toArray listed→wpOp P L.toArray Q i (wpAny P .any L.toArray Q fuel (listed.setIfInBounds i true)) (A vs) w:=by
        intro i hrd
        rcases Nat.lt_or_ge i n with hin | hge
        · obtain ⟨hun,o,ho,hallr⟩:=mem_ready.1 hrd
          have ho':L[i]? = some o:=by simpa using ho
          have hst:=StepsH.at (L.take n) 0 hs i o (by rw [List.getElem?_take,if_pos hin];exact ho')
          rw [Nat.zero_add] at hst
          refine wpOp_step ho (fun K' hK=>hst vs lo hi w hb (fun d hdep=>?_) K' (fun v w' hv hbw=>?_))
          · obtain ⟨e,he,h2,h3⟩:=depB_spec hdep
            subst h2
            exact (hf _ (hallr e he h3)).2
          · refine hK _ _ ?_
            have hset:(A vs).put o.dst v=A (fun i'=>if i'=i then v else vs i'):=by
              rw [← hA,← hA]
              exact puts_set vs v i L 0 a0 o hd (Nat.zero_le _) ho'
            rw [hset]
            refine ih _ _ (fun i'=>if i'=i then w.heap.size else lo i') (fun i'=>if i'=i then w'.heap.size else hi i') _ (inv.set hrd hin) ?_ (bthen hb hbw) (fun k hk=>?_)
            · have:=falses_set hun
              omega
            · have h9:=hbw.size
              have h8:=hb.size
              by_cases hki:k=i
              · subst hki
                simp only [if_pos]
                exact ⟨⟨h8,Nat.le_refl _⟩,hv⟩
              · simp only [if_neg hki]
                rcases getD_set_self hk with h5 | h5
                · exact absurd h5 hki
                · have h6:=(hf k h5).1
                  exact ⟨⟨h6.1,by omega⟩,hF.at k _ _ _ _ _ (hf k h5).2 hbw⟩
        · obtain ⟨hun,o,ho,hallr⟩:=mem_ready.1 hrd
          have hil:i < L.length:=by
            rcases Nat.lt_or_ge i L.length with h | h
            · exact h
            · simp [List.getElem?_eq_none h] at ho
          have hin:i=n:=by
            rcases Nat.eq_or_lt_of_le hge with h | h
            · exact h.symm
            · exfalso
              have hc:=List.all_eq_true.1 hch i (List.mem_range.2 (by simpa using hil))
              rcases Bool.or_eq_true .. ▸ hc with h9 | h9
              · have:=of_decide_eq_true h9;omega
              · obtain ⟨oj,hoj,e,he,hb9,hon⟩:=Region.waitsFor_spec h9
                obtain rfl:=Option.some.inj (hoj.symm.trans ho)
                have h8:=hallr e he hb9
                rw [hon] at h8
                have h7:=getD_both (inv.tail (i - 1) (by omega) (by simp;omega))
                rw [h7] at h8
                cases h8
          subst hin
          have hk:∀ k,k < i→k≠p→listed.getD k false=true:=fun k hk hkp=>by
            have hc:=List.all_eq_true.1 hwt k (List.mem_range.2 hk)
            rcases Bool.or_eq_true .. ▸ hc with h9 | h9
            · exact absurd (by simpa using h9) hkp
            · obtain ⟨oj,hoj,e,he,hb9,hon⟩:=Region.waitsFor_spec h9
              obtain rfl:=Option.some.inj (hoj.symm.trans ho)
              have h8:=hallr e he hb9
              rwa [hon] at h8
          have hpu:listed.getD p true=false:=by
            by_cases h:i0=p
            · rw [← h];exact hu0
            · have h1:=hk i0 hi0 h
              have h2:=getD_both hu0
              rw [h2] at h1
              cases h1
          have hls:listed=(Array.replicate i true ++ Array.replicate (L.length - i) false).setIfInBounds p false:=by
            have hsz:=inv.size
            apply Array.ext
            · rw [hsz];simp;omega
            · intro k h1 h2
              rw [Array.getElem_setIfInBounds (by simpa using h2)]
              by_cases hkp:k=p
              · subst hkp
                rw [if_pos rfl]
                simpa [h1] using hpu
              · rw [if_neg (fun h=>hkp h.symm)]
                by_cases hki:k < i
                · rw [Array.getElem_append_left (by simpa using hki)]
                  have h3:=hk k hki hkp
                  simpa [h1] using h3
                · rw [Array.getElem_append_right (by simp;omega)]
                  have h3:=inv.tail k (by omega) (by rw [← hsz];exact h1)
                  simpa [h1] using h3
          have hpo:L[p]? = some L[p]:=List.getElem?_eq_getElem (by omega)
          have h:=hl2 vs lo hi w hb (fun k h1 h2=>(hf k (hk k h1 h2)).1) (fun k h1 h2=>(hf k (hk k h1 h2)).2) o L[p] (by simpa using ho) hpo
          have hw1:wpOp P L.toArray Q i (wpList P L.toArray Q (L[p] :: L.drop (i+1))) (A vs) w:=by unfold wpOp;simp only [ho];exact h
          refine wpOp_mono (fun a' w' h'=>?_) hw1
          have hfu:(L.drop (i+1)).length+1≤fuel:=by
            rw [hls] at hcnt
            have h5:((Array.replicate i true ++ Array.replicate (L.length - i) false).setIfInBounds p false).toList.count false=(L.length - i)+1:=by
              have h6:=falses_set (listed:=(Array.replicate i true ++ Array.replicate (L.length - i) false).setIfInBounds p false) (i:=p) (by simp;omega)
              have h7:((Array.replicate i true ++ Array.replicate (L.length - i) false).setIfInBounds p false).setIfInBounds p true=Array.replicate i true ++ Array.replicate (L.length - i) false:=by
                apply Array.ext
                · simp
                · intro k h1 h2
                  rw [Array.getElem_setIfInBounds (by simpa using h2)]
                  by_cases hkp:p=k
                  · subst hkp
                    rw [if_pos rfl,Array.getElem_append_left (by simpa using hp)]
                    simp
                  · rw [if_neg hkp,Array.getElem_setIfInBounds (by simpa using h2),if_neg hkp]
              rw [h7] at h6
              rw [← h6]
              simp [List.count_replicate]
            rw [h5] at hcnt
            rw [List.length_drop]
            omega
          obtain ⟨f,hf'⟩:∃ f,fuel=(f+(L.drop (i+1)).length)+1:=⟨fuel - ((L.drop (i+1)).length+1),by omega⟩
          rw [hf',hls]
          refine ⟨fun h1=>(by rw [hr2] at h1;cases h1),fun j hj=>?_⟩
          rw [hr2] at hj
          have hjp:j=p:=by simpa using hj
          subst hjp
          have hw2:wpOp P L.toArray Q j (wpList P L.toArray Q (L.drop (i+1))) a' w':=by unfold wpOp;simp only [List.getElem?_toArray,hpo];exact h'
          exact wpOp_mono (fun a'' w'' h''=>wpAny_seqF (L.drop (i+1)) (i+1) f _ a'' w'' (fun m=>by simp) hseq2 h'') hw2
      refine ⟨fun hnil=>?_,hnext⟩
      exfalso
      obtain ⟨m,hm,hpm,hmin⟩:=least (p:=fun j=>listed.getD j true=false) i0 hu0
      have hmo:∃ o,L.toArray[m]? = some o:=by
        rw [List.getElem?_toArray]
        exact ⟨_,List.getElem?_eq_getElem (by omega)⟩
      obtain ⟨o,ho⟩:=hmo
      have hin:m ∈ Region.ready .any L.toArray listed:=mem_ready.2 ⟨hpm,o,ho,fun e he hbn=>by
        have h1:=backB_at L 0 hbk m o (by simpa using ho) e he hbn
        have h2:=hmin e.on (by omega)
        have h3:e.on < listed.size:=by rw [inv.size];simp;omega
        simp [h3] at h2 ⊢
        exact h2⟩
      rw [hnil] at hin
      cases hin
theorem wp_region_factsP {P:Program} {id:Nat} {L:List Oper} {Q:Exit→Act→World→Prop} (n p:Nat) (Fs:List Fact) {a0:Act} {w0:World} {A:(Nat→Value)→Act} (hm:P.follows .mixedOrders=true) (hA:∀ vs,puts vs 0 L a0=A vs)
    (hB:(dstB L && backB 0 L && decide (n < L.length) && decide (p < n) && ((List.range n).all fun i=>i == p || Region.waitsFor .any L.toArray n i) && decide (Region.ready .any L.toArray (((Array.replicate n true ++ Array.replicate (L.length - n) false).setIfInBounds p false).setIfInBounds n true)=[p]) && Region.seqB .any L.toArray (L.drop (n+1)).length (n+1) ((((Array.replicate n true ++ Array.replicate (L.length - n) false).setIfInBounds p false).setIfInBounds n true).setIfInBounds p true) && Region.chainB .any L.toArray n && Region.seqB .any L.toArray (L.drop n).length n (Array.replicate n true ++ Array.replicate (L.length - n) false))=true)
    (hlen:Fs.length=n) (hF:MonoAll Fs)
    (hs:∀ Q',StepsH P L.toArray Q' Fs A w0 0 (L.take n))
    (hl:∀ vs lo hi w,Below w0.heap.size w0 w→(∀ k,k < n→w0.heap.size≤lo k∧hi k≤w.heap.size)→AllF vs lo hi w 0 Fs→wpList P L.toArray Q (L.drop n) (A vs) w)
    (hl2:∀ (vs:Nat→Value) (lo hi:Nat→Nat) (w:World),Below w0.heap.size w0 w→(∀ k,k < n→k≠p→w0.heap.size≤lo k∧hi k≤w.heap.size)→(∀ k,k < n→k≠p→fct Fs k (lo k) (hi k) (vs k) w)→∀ on op,L[n]? = some on→L[p]? = some op→wpList P L.toArray Q (on :: op :: L.drop (n+1)) (A vs) w) :
    (Code.region id L.toArray true).wp P Q a0 w0:=by
  simp only [Bool.and_eq_true,decide_eq_true_eq] at hB
  obtain ⟨⟨⟨⟨⟨⟨⟨⟨hd,hbk⟩,hn⟩,hp⟩,hwt⟩,hr2⟩,hseq2⟩,hch⟩,hseq⟩:=hB
  refine wp_region_any hm ?_
  obtain ⟨vs,hvs⟩:∃ vs:Nat→Value,∀ i o,L[i]? = some o→vs (0+i)=own a0 o :=
    ⟨fun i=>match L[i]? with | some o=>own a0 o | none=>undef,fun i o ho=>by simp only [Nat.zero_add,ho]⟩
  have e:a0=A vs:=by rw [← hA,puts_own a0 vs _ 0 hvs]
  have inv0:HeadInv .any L.toArray n (Array.replicate L.toArray.size false) :=
    ⟨by simp,fun j oj _ hl=>(by rw [getD_replicate_false] at hl;cases hl),fun t _ ht=>getD_in (by simpa using ht) (getD_replicate_false _ _)⟩
  have h:=wpAny_factsP hA hd hbk hn p hp hwt hr2 hseq2 hch hseq hF hlen (hs Q) hl hl2 L.toArray.size (Array.replicate L.toArray.size false) vs (fun _=>0) (fun _=>0) w0.drew inv0
    (Nat.le_trans List.count_le_length (by simp)) (Below.refl _ _).drew (fun k hk=>by simp [Array.getD] at hk)
  rw [← e] at h
  exact h
end Go.Proofs.YtapcmbbhhclepaaGreatDoor
namespace Go.Proofs.YtapcmbbhhclepaaGreatDoor
namespace Xr
theorem kept_len {B:V} (hB:V.right B=true) (h5:B.kind=5) (KD:ByteArray):(ofContent B KD).keys.length=B.keys.countP (keptB KD):=by
  obtain ⟨ks,l,rfl,hu,hl,ha⟩:=V.obj_open hB h5
  unfold ofContent
  by_cases e:(KD.toList == kCreate.toList)=true
  · rw [if_pos e]
    have h:∀ k ∈ ks,keptB KD k=true:=fun k _=>by unfold keptB;rw [e];rfl
    exact (List.countP_eq_length.2 h).symm
  · rw [if_neg e]
    have hk:keptB KD=Lib.containsS (keptL KD):=by
      funext k
      unfold keptB
      rw [Bool.not_eq_true] at e
      rw [e,Bool.false_or]
    rw [hk]
    unfold taken stays
    simp only [List.length_map]
    rw [← List.countP_eq_length_filter]
    have h1:(ks.zip l).map Prod.fst=ks:=List.map_fst_zip (by omega)
    conv=>rhs;rw [← h1]
    rw [List.countP_map]
    rfl
theorem get_at {B:V} (hB:V.right B=true) (h5:B.kind=5) {i:Nat} (hi:i < B.keys.length) (hj:i < B.list.length):V.get B B.keys[i]=some B.list[i]:=by
  obtain ⟨ks,l,rfl,hu,hl,ha⟩:=V.obj_open hB h5
  refine (V.get_mem 0 _ hl hu _ _).2 ?_
  have hz:i < (ks.zip l).length:=by rw [List.length_zip];simp only at hi hj;omega
  have:=List.getElem_mem hz
  rwa [List.getElem_zip] at this
structure Fk (B VV LV:V) (KD:ByteArray):Prop where
  br:V.right B=true
  b5:B.kind=5
  bw:V.wt B≤25000
  bl:B.keys.length=B.list.length
  bn:B.keys.length≤25000
  vr:V.right VV=true
  vw:V.wt VV≤26000
  rw:V.wt (redact VV)≤4294967296
  lg:V.get (redact VV) kContent=some LV
  lw:V.wt LV≤4294967296
  lk:LV.keys.length=B.keys.countP (keptB KD)
  le:∀ (i:Nat) (hi:i < B.keys.length) (hj:i < B.list.length),V.get LV B.keys[i]=if keptB KD B.keys[i]=true then some B.list[i] else none
  lc:(KD.toList == kCreate.toList)=true→redact VV=VV
theorem keeps_facts {zs:List Int} (hz:∀ n ∈ zs,(Lit.int .u8 n).wf=true) (len:Nat) (k j:Int) (B:V) (hB:body zs len k=B) (KD:ByteArray) (hK:kindN j=KD) (VV:V) (hV:V.withV (V.withV ⟨0,0,⟨#[]⟩,[],[]⟩ kContent B) kType ⟨3,0,KD,[],[]⟩=VV) (LV:V) (hL:ofContent B KD=LV):Fk B VV LV KD:=by
  have br:V.right B=true:=by rw [← hB];exact body_right hz len k
  have b5:B.kind=5:=by rw [← hB];exact body_5 zs len k
  have bw:V.wt B≤25000:=by rw [← hB];exact body_wt zs len k
  have bc:cost B≤40000:=by rw [← hB];exact body_cost zs len k
  have ku:V.utf KD=true:=by rw [← hK];exact kindN_utf j
  have ks:KD.size≤20:=by rw [← hK];exact kindN_size j
  have vv:VV=evV B KD:=hV.symm
  have e1:=evV_right br ku
  have e2:=evV_size (KD:=KD) bw bc ks
  have e3:=evV_kind br ku
  have e4:=evV_get br ku
  rw [← vv] at e1 e2 e3 e4
  have r1:=wt_redact VV
  have gk:keep KD B=ofContent B KD:=by unfold keep;rw [if_pos b5]
  have lg:V.get (redact VV) kContent=some LV:=by
    rw [get_redact e1.1 e1.2,if_pos contentE,if_pos rfl,e4,if_neg type_ne.symm,if_pos rfl,e3]
    simp only [Option.map_some]
    rw [gk,hL]
  have lw:=wt_get lg
  have bl:B.keys.length=B.list.length:=by
    obtain ⟨ks,l,e,hu,hl,ha⟩:=V.obj_open br b5
    rw [e]
    exact hl
  refine ⟨br,b5,bw,bl,?_,e1.1,by omega,by omega,lg,by omega,by rw [← hL];exact kept_len br b5 KD,?_,?_⟩
  · have h1:=Nat.le_trans (V.wtK_len B.keys) (Nat.le_of_lt (V.wtK_keys B));omega
  · intro i hi hj
    rw [← hL,get_ofContent br b5,get_at br b5 hi hj]
  · intro hc
    refine V.ext5 (redact_right e1.1) e1.1 (redact_5 e1.1 e1.2) e1.2 (fun o=>?_)
    rw [get_redact e1.1 e1.2]
    by_cases c:Lib.containsS lEvent o=true
    · rw [if_pos c]
      by_cases e:o=kContent
      · subst e
        rw [if_pos rfl,e4,if_neg type_ne.symm,if_pos rfl,e3]
        simp only [Option.map_some]
        rw [gk]
        unfold ofContent
        rw [if_pos hc]
      · rw [if_neg e]
    · rw [if_neg c,e4]
      by_cases e:o=kType
      · subst e;exact absurd typeE c
      · rw [if_neg e]
        by_cases e2:o=kContent
        · subst e2;exact absurd contentE c
        · rw [if_neg e2]
end Xr
end Go.Proofs.YtapcmbbhhclepaaGreatDoor
