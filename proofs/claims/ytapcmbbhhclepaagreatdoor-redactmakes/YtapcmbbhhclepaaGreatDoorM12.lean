/-
  What this claim takes of the earlier layers' texts: RFacts RVal RefV WWith.
-/
import Derived.Test.YtapcmbbhhclepaaGreatDoorM11
import Derived.Deep.RegionHeld3
import Derived.Deep.DeepCutAuto
import Derived.BigQuiet
import Derived.Deep.QuietTactic
import Derived.Lib.QuietBelow
set_option linter.unusedVariables false
set_option linter.unusedSimpArgs false
set_option maxRecDepth 100000
namespace Go.Proofs.YtapcmbbhhclepaaGreatDoor
open Go.RowKit
abbrev Fact:=Nat→Nat→Value→World→Prop
def fct (Fs:List Fact) (k:Nat):Fact:=Fs.getD k (fun _ _ _ _=>True)
def Mono (f:Fact):Prop:=∀ lo hi v (w w':World),f lo hi v w→Below w.heap.size w w'→f lo hi v w'
def MonoAll:List Fact→Prop
  | []=>True
  | f :: l=>Mono f∧MonoAll l
theorem mono_eq (x:Value):Mono (fun _ _ v _=>v=x):=fun _ _ _ _ _ h _=>h
theorem mono_true:Mono (fun _ _ _ _=>True):=fun _ _ _ _ _ _ _=>trivial
theorem MonoAll.at {Fs:List Fact} (h:MonoAll Fs) (k:Nat):Mono (fct Fs k):=by
  induction Fs generalizing k with
  | nil=>exact mono_true
  | cons f l ih =>
    cases k with
    | zero=>exact h.1
    | succ k=>exact ih h.2 k
def AllF (vs:Nat→Value) (lo hi:Nat→Nat) (w:World):Nat→List Fact→Prop
  | _,[]=>True
  | k,f :: l=>f (lo k) (hi k) (vs k) w∧AllF vs lo hi w (k+1) l
theorem allF_of {vs:Nat→Value} {lo hi:Nat→Nat} {w:World}:∀ (l:List Fact) (k:Nat),(∀ i,i < l.length→fct l i (lo (k+i)) (hi (k+i)) (vs (k+i)) w)→AllF vs lo hi w k l
  | [],_,_=>trivial
  | f :: l,k,h=>⟨h 0 (by simp),allF_of l (k+1) (fun i hi=>by
      have:=h (i+1) (by simp;omega)
      rw [show k+(i+1)=k+1+i by omega] at this
      exact this)⟩
def puts (vs:Nat→Value):Nat→List Oper→Act→Act
  | _,[],a=>a
  | k,o :: l,a=>puts vs (k+1) l (a.put o.dst (vs k))
theorem put_put (a:Act) (d:Option Tmp) (x v:Value):(a.put d x).put d v=a.put d v:=by
  cases d <;> simp [Act.put]
theorem puts_put (vs:Nat→Value) (d:Option Tmp) (v:Value):∀ (l:List Oper) (m:Nat) (a:Act),(∀ o ∈ l,∀ x,d=some x→o.dst≠some x)→(puts vs m l a).put d v=puts vs m l (a.put d v)
  | [],_,_,_=>rfl
  | o :: l,m,a,h=>by
    simp only [puts];rw [puts_put vs d v l (m+1) _ (fun o ho=>h o (List.mem_cons_of_mem _ ho)),← Act.put_comm a v (vs m) (h o (List.mem_cons_self ..))]
theorem puts_congr {vs vs':Nat→Value}:∀ (l:List Oper) (m:Nat) (a:Act),(∀ i,m≤i→vs i=vs' i)→puts vs m l a=puts vs' m l a
  | [],_,_,_=>rfl
  | o :: l,m,a,h=>by
    simp only [puts];rw [h m (Nat.le_refl _),puts_congr l (m+1) _ (fun i hi=>h i (by omega))]
def dstB:List Oper→Bool
  | []=>true
  | o :: l=>(match o.dst with | some x=>l.all (fun o'=>o'.dst != some x) | none=>true) && dstB l
theorem dstB_cons {o:Oper} {l:List Oper} (h:dstB (o :: l)=true):(∀ o' ∈ l,∀ x,o.dst=some x→o'.dst≠some x)∧dstB l=true:=by
  simp only [dstB,Bool.and_eq_true] at h;refine ⟨fun o' ho' x hx=>?_,h.2⟩;have h1:=h.1;rw [hx] at h1;simp only [List.all_eq_true,bne_iff_ne] at h1;exact h1 o' ho'
theorem puts_set (vs:Nat→Value) (v:Value) (k:Nat):∀ (l:List Oper) (m:Nat) (a:Act) (o:Oper),dstB l=true→m≤k→l[k - m]? = some o →
    (puts vs m l a).put o.dst v=puts (fun i=>if i=k then v else vs i) m l a
  | [],_,_,_,_,_,h=>by simp at h
  | o' :: l,m,a,o,hd,hm,h=>by
    obtain ⟨h1,h2⟩:=dstB_cons hd;simp only [puts]
    by_cases hk:k=m
    · subst hk
      simp at h;subst h;rw [puts_put vs _ v l (k+1) _ h1,put_put,if_pos rfl];exact puts_congr l (k+1) _ (fun i hi=>by rw [if_neg (by omega)])
    · rw [if_neg (fun e=>hk e.symm)]
      refine puts_set vs v k l (m+1) _ o h2 (by omega) ?_;rw [show k - m=(k - (m+1))+1 by omega,List.getElem?_cons_succ] at h;exact h
def own (a:Act) (o:Oper):Value:=match o.dst with | some d=>a.tmps.getD d undef | none=>undef
theorem put_own (a:Act) (o:Oper):a.put o.dst (own a o)=a:=by
  unfold own;cases hd:o.dst with
  | none=>rfl
  | some d =>
    simp only [Act.put];obtain ⟨tmps,defers⟩:=a
    congr 1
    apply Array.ext
    · simp
    · intro i h1 h2
      rw [Array.getElem_setIfInBounds h2]
      split
      · rename_i e
        subst e;simp [h2]
      · rfl
theorem puts_own (a:Act) (vs:Nat→Value):∀ (l:List Oper) (m:Nat),(∀ i o,l[i]? = some o→vs (m+i)=own a o)→puts vs m l a=a
  | [],_,_=>rfl
  | o :: l,m,h=>by
    simp only [puts];rw [show vs m=own a o from h 0 o rfl,put_own]
    exact puts_own a vs l (m+1) (fun i o' ho=>by
      have:=h (i+1) o' (by simpa using ho)
      rw [show m+(i+1)=m+1+i by omega] at this
      exact this)
def depB (o:Oper) (d:Nat):Bool:=o.after.toList.any (fun e=>e.on == d && Region.binds .any e)
theorem depB_spec {o:Oper} {d:Nat} (h:depB o d=true):∃ e,e ∈ o.after∧e.on=d∧Region.binds .any e=true:=by
  simp only [depB,List.any_eq_true,Bool.and_eq_true,beq_iff_eq] at h;obtain ⟨e,he,h2,h3⟩:=h;exact ⟨e,by simpa using he,h2,h3⟩
def backB:Nat→List Oper→Bool
  | _,[]=>true
  | k,o :: l=>o.after.toList.all (fun e=>!Region.binds .any e || decide (e.on < k)) && backB (k+1) l
theorem backB_at:∀ (l:List Oper) (m:Nat),backB m l=true→∀ i o,l[i]? = some o→∀ e ∈ o.after,Region.binds .any e=true→e.on < m+i
  | [],_,_,_,_,h=>by simp at h
  | o :: l,m,hb,i,x,hx=>by
    simp only [backB,Bool.and_eq_true,List.all_eq_true,Bool.or_eq_true,Bool.not_eq_true',decide_eq_true_eq] at hb;cases i with
    | zero =>
      simp at hx;subst hx;intro e he hbn;rcases hb.1 e (by simpa using he) with h | h
      · rw [h] at hbn;cases hbn
      · exact h
    | succ i =>
      intro e he hbn;have:=backB_at l (m+1) hb.2 i x (by simpa using hx) e he hbn
      omega
def coverB (L:List Oper):Bool:=(List.range (L.length - 1)).all (fun j=>(List.range L.length).any (fun k=>decide (j < k) && (match L[k]? with | some o=>depB o j | none=>false)))
theorem coverB_at {L:List Oper} (h:coverB L=true) (j:Nat) (hj:j < L.length - 1):∃ k o,j < k∧L[k]? = some o∧depB o j=true:=by
  have h1:=(List.all_eq_true.1 h) j (List.mem_range.2 hj);obtain ⟨k,_,hk⟩:=List.any_eq_true.1 h1;simp only [Bool.and_eq_true,decide_eq_true_eq] at hk;cases ho:L[k]? with
  | none=>rw [ho] at hk;simp at hk
  | some o=>rw [ho] at hk;exact ⟨k,o,hk.1,ho,hk.2⟩
theorem least {p:Nat→Prop}:∀ n,p n→∃ m,m≤n∧p m∧∀ i,i < m→¬ p i:=by
  intro n
  induction n using Nat.strongRecOn with
  | ind n ih =>
    intro hp
    by_cases h:∃ i,i < n∧p i
    · obtain ⟨i,hi,hpi⟩:=h
      obtain ⟨m,h1,h2,h3⟩:=ih i hi hpi;exact ⟨m,by omega,h2,h3⟩
    · exact ⟨n,Nat.le_refl _,hp,fun i hi hpi=>h ⟨i,hi,hpi⟩⟩
def Step (P:Program) (ops:Array Oper) (Q:Exit→Act→World→Prop) (Fs:List Fact) (A:(Nat→Value)→Act) (w0:World) (k:Nat) (o:Oper):Prop :=
  ∀ (vs:Nat→Value) (lo hi:Nat→Nat) (w:World),Below w0.heap.size w0 w→(∀ d,depB o d=true→fct Fs d (lo d) (hi d) (vs d) w)→∀ K':Act→World→Prop,
    Shut (∀ v w',fct Fs k w.heap.size w'.heap.size v w'→Below w.heap.size w w'→K' ((A vs).put o.dst v) w') →
    if Region.wanted o (yielded ops (A vs).tmps)=true then Oper.wp P o (A vs) w K' Q else K' ((A vs).put o.dst undef) w
def Steps (P:Program) (ops:Array Oper) (Q:Exit→Act→World→Prop) (Fs:List Fact) (A:(Nat→Value)→Act) (w0:World):Nat→List Oper→Prop
  | _,[]=>True
  | _,[_]=>True
  | k,o :: o' :: l=>Step P ops Q Fs A w0 k o∧Steps P ops Q Fs A w0 (k+1) (o' :: l)
theorem Steps.at {P:Program} {ops:Array Oper} {Q:Exit→Act→World→Prop} {Fs:List Fact} {A:(Nat→Value)→Act} {w0:World}:∀ (l:List Oper) (m:Nat),Steps P ops Q Fs A w0 m l→∀ i o,l[i]? = some o→i+1 < l.length→Step P ops Q Fs A w0 (m+i) o
  | [],_,_,_,_,_,h=>by simp at h
  | [_],_,_,i,_,_,h=>by simp at h
  | o :: o' :: l,m,h,i,x,hx,hi=>by
    cases i with
    | zero =>
      simp at hx;subst hx;exact h.1
    | succ i =>
      have:=Steps.at (o' :: l) (m+1) h.2 i x (by simpa using hx) (by simp at hi ⊢;omega)
      rw [show m+1+i=m+(i+1) by omega] at this;exact this
theorem getD_set_self {listed:Array Bool} {i j:Nat} (h:(listed.setIfInBounds i true).getD j false=true):j=i∨listed.getD j false=true:=by
  by_cases e:i=j
  · exact .inl e.symm
  · rw [getD_set_ne false e] at h
    exact .inr h
theorem falses_set {listed:Array Bool} {i:Nat} (h:listed.getD i true=false):(listed.setIfInBounds i true).toList.count false+1=listed.toList.count false:=by
  have hi:i < listed.size:=by
    rcases Nat.lt_or_ge i listed.size with h' | h'
    · exact h'
    · simp [Array.getElem?_eq_none h'] at h
  have hv:listed[i]=false:=by simpa [hi] using h
  rw [Array.toList_setIfInBounds,List.count_set (by simpa using hi)];have h2:listed.toList[i]'(by simpa using hi)=false:=by simpa using hv
  rw [h2];have h3:0 < listed.toList.count false:=List.count_pos_iff.2 (by rw [← h2];exact List.getElem_mem _);have e1:(if (false == false)=true then 1 else 0)=1:=rfl;have e2:(if (true == false)=true then 1 else 0)=0:=rfl;rw [e1,e2];omega
theorem wpAny_facts {P:Program} {l:List Oper} {olast:Oper} {Q:Exit→Act→World→Prop} {Fs:List Fact} {a0:Act} {w0:World} {A:(Nat→Value)→Act}
    (hA:∀ vs,puts vs 0 (l ++ [olast]) a0=A vs) (hd:dstB (l ++ [olast])=true) (hbk:backB 0 (l ++ [olast])=true) (hc:coverB (l ++ [olast])=true) (hF:MonoAll Fs) (hlen:Fs.length=l.length)
    (hs:Steps P (l ++ [olast]).toArray Q Fs A w0 0 (l ++ [olast]))
    (hl:∀ vs lo hi w,Below w0.heap.size w0 w→(∀ k,k < l.length→w0.heap.size≤lo k∧hi k≤w.heap.size)→(∀ j k,j < l.length→k < l.length→j≠k→hi j≤lo k∨hi k≤lo j)→AllF vs lo hi w 0 Fs→wpOp P (l ++ [olast]).toArray Q l.length (fun a' w'=>Q .normal a' w') (A vs) w) :
    ∀ (fuel:Nat) (listed:Array Bool) (vs:Nat→Value) (lo hi:Nat→Nat) (w:World),listed.size=l.length+1→listed.getD l.length true=false→listed.toList.count false≤fuel→Below w0.heap.size w0 w →
      (∀ k,listed.getD k false=true→(w0.heap.size≤lo k∧hi k≤w.heap.size)∧fct Fs k (lo k) (hi k) (vs k) w)→(∀ j k,listed.getD j false=true→listed.getD k false=true→j≠k→hi j≤lo k∨hi k≤lo j)→(∀ k o,(l ++ [olast])[k]? = some o→listed.getD k false=true→∀ j,depB o j=true→listed.getD j false=true)→wpAny P .any (l ++ [olast]).toArray Q fuel listed (A vs) w:=by
  intro fuel
  induction fuel with
  | zero =>
    intro listed vs lo hi w hsz hlast hcnt;have hi:l.length < listed.size:=by omega
    have hv:listed[l.length]=false:=by simpa [hi] using hlast
    have h3:0 < listed.toList.count false:=List.count_pos_iff.2 (by rw [← hv,← Array.getElem_toList];exact List.getElem_mem _);omega
  | succ fuel ih =>
    intro listed vs lo hi w hsz hlast hcnt hb hf hap hdn
    have hnext:∀ i,i ∈ Region.ready .any (l ++ [olast]).toArray listed→wpOp P (l ++ [olast]).toArray Q i (wpAny P .any (l ++ [olast]).toArray Q fuel (listed.setIfInBounds i true)) (A vs) w:=by
      intro i hrd;obtain ⟨hun,o,ho,hall⟩:=mem_ready.1 hrd
      have hlt:i < l.length+1:=by
        have:=(Array.getElem?_eq_some_iff.1 ho).1
        simpa using this
      by_cases hil:i=l.length
      · subst hil
        have hol:o=olast:=by simpa using ho.symm
        subst hol
        have hthere:∀ d j,j < l.length→l.length - j≤d→listed.getD j false=true:=by
          intro d
          induction d with
          | zero=>intro j hj hd';omega
          | succ d ihd =>
            intro j hj hd';obtain ⟨k,ok,hjk,hok,hdep⟩:=coverB_at hc j (by simpa using hj)
            by_cases hkl:k=l.length
            · subst hkl
              have:ok=o:=by simpa using hok.symm
              subst this;obtain ⟨e,he,h2,h3⟩:=depB_spec hdep;have:=hall e he h3
              rw [h2] at this;exact this
            · have hkn:k < l.length:=by
                have:=(List.getElem?_eq_some_iff.1 hok).1
                simp at this;omega
              exact hdn k ok hok (ihd k hkn (by omega)) j hdep
        replace hthere:∀ j,j < l.length→listed.getD j false=true:=fun j hj=>hthere (l.length - j) j hj (Nat.le_refl _)
        refine wpOp_mono (fun a' w' hq=>?_) (hl vs lo hi w hb (fun k hk=>(hf k (hthere k hk)).1) (fun j k hj hk=>hap j k (hthere j hj) (hthere k hk)) (allF_of Fs 0 (fun i hi'=>by rw [Nat.zero_add];exact (hf i (hthere i (by omega))).2)))
        have hnone:Region.ready .any (l ++ [o]).toArray (listed.setIfInBounds l.length true)=[]:=by
          rw [List.eq_nil_iff_forall_not_mem];intro j hj;obtain ⟨h1,_⟩:=mem_ready.1 hj
          by_cases hjl:l.length=j
          · subst hjl
            have:l.length < listed.size:=by omega
            simp [this] at h1
          · rw [getD_set_ne true hjl] at h1
            have hjs:j < listed.size:=by
              rcases Nat.lt_or_ge j listed.size with h' | h'
              · exact h'
              · simp [Array.getElem?_eq_none h'] at h1
            have h4:=hthere j (by omega);simp [hjs] at h1 h4;rw [h1] at h4;cases h4
        exact wpAny_done hnone hq fuel
      · have hst:=Steps.at (l ++ [olast]) 0 hs i o (by simpa using ho) (by simp;omega)
        rw [Nat.zero_add] at hst;refine wpOp_step ho (fun K' hK=>hst vs lo hi w hb (fun d hdep=>?_) K' (fun v w' hv hbw=>?_))
        · obtain ⟨e,he,h2,h3⟩:=depB_spec hdep
          subst h2;exact (hf _ (hall e he h3)).2
        · refine hK _ _ ?_
          have hset:(A vs).put o.dst v=A (fun i'=>if i'=i then v else vs i'):=by
            rw [← hA,← hA];exact puts_set vs v i (l ++ [olast]) 0 a0 o hd (Nat.zero_le _) (by simpa using ho)
          rw [hset];refine ih _ _ (fun i'=>if i'=i then w.heap.size else lo i') (fun i'=>if i'=i then w'.heap.size else hi i') _ (by simpa using hsz) (by rw [getD_set_ne true hil];exact hlast) ?_ (bthen hb hbw) (fun k hk=>?_) (fun j k hj hk hjk=>?_) (fun k ok hok hk j hdep=>?_)
          · have:=falses_set hun
            omega
          · have h9:=hbw.size
            have h8:=hb.size
            by_cases hki:k=i
            · subst hki
              simp only [if_pos];exact ⟨⟨h8,Nat.le_refl _⟩,hv⟩
            · simp only [if_neg hki]
              rcases getD_set_self hk with h5 | h5
              · exact absurd h5 hki
              · have h6:=(hf k h5).1
                exact ⟨⟨h6.1,by omega⟩,hF.at k _ _ _ _ _ (hf k h5).2 hbw⟩
          · rcases getD_set_self hj with h5 | h5 <;> rcases getD_set_self hk with h6 | h6
            · omega
            · subst h5
              by_cases hki:k=j
              · omega
              · simp only [if_neg hki,if_pos]
                exact .inr (hf k h6).1.2
            · subst h6
              by_cases hji:j=k
              · omega
              · simp only [if_neg hji,if_pos]
                exact .inl (hf j h5).1.2
            · by_cases hki:k=i
              · subst hki
                by_cases hji:j=k
                · omega
                · simp only [if_neg hji,if_pos]
                  exact .inl (hf j h5).1.2
              · by_cases hji:j=i
                · subst hji
                  simp only [if_neg hki,if_pos];exact .inr (hf k h6).1.2
                · simp only [if_neg hki,if_neg hji]
                  exact hap j k h5 h6 hjk
          · rcases getD_set_self hk with h5 | h5
            · subst h5
              have:ok=o:=by
                have h7:(l ++ [olast])[k]? = some o:=by simpa using ho
                rw [h7] at hok;exact (Option.some.inj hok).symm
              subst this;obtain ⟨e,he,h2,h3⟩:=depB_spec hdep;have:=hall e he h3
              rw [h2] at this;exact getD_set_true this
            · exact getD_set_true (hdn k ok hok h5 j hdep)
    refine ⟨fun hnil=>?_,hnext⟩;exfalso
    obtain ⟨m,hm,hpm,hmin⟩:=least (p:=fun j=>listed.getD j true=false) l.length hlast
    have hmo:∃ o,(l ++ [olast]).toArray[m]? = some o:=by
      rw [List.getElem?_toArray];exact ⟨_,List.getElem?_eq_getElem (by simp;omega)⟩
    obtain ⟨o,ho⟩:=hmo
    have hin:m ∈ Region.ready .any (l ++ [olast]).toArray listed:=mem_ready.2 ⟨hpm,o,ho,fun e he hbn=>by
      have h1:=backB_at (l ++ [olast]) 0 hbk m o (by simpa using ho) e he hbn;have h2:=hmin e.on (by omega);have h3:e.on < listed.size:=by omega
      simp [h3] at h2 ⊢
      exact h2⟩
    rw [hnil] at hin;cases hin
theorem wp_region_facts {P:Program} {id:Nat} {L:List Oper} {olast:Oper} {Q:Exit→Act→World→Prop} (Fs:List Fact) {a0:Act} {w0:World} {A:(Nat→Value)→Act} (hm:P.follows .mixedOrders=true) (hL:L.getLast? = some olast)
    (hA:∀ vs,puts vs 0 L a0=A vs) (hd:dstB L=true) (hbk:backB 0 L=true) (hc:coverB L=true) (hlen:Fs.length=L.length - 1) (hF:MonoAll Fs)
    (hs:∀ Q',Steps P L.toArray Q' Fs A w0 0 L)
    (hl:∀ vs lo hi w,Below w0.heap.size w0 w→(∀ k,k < L.length - 1→w0.heap.size≤lo k∧hi k≤w.heap.size)→(∀ j k,j < L.length - 1→k < L.length - 1→j≠k→hi j≤lo k∨hi k≤lo j)→AllF vs lo hi w 0 Fs→∀ (K':Act→World→Prop) (Q':Exit→Act→World→Prop),Shut (∀ a w,Q .normal a w→K' a w) →
      if Region.wanted olast (yielded L.toArray (A vs).tmps)=true then Oper.wp P olast (A vs) w K' Q' else K' ((A vs).put olast.dst undef) w) :
    (Code.region id L.toArray true).wp P Q a0 w0:=by
  obtain ⟨l,rfl⟩:∃ l,L=l ++ [olast]:=by
    obtain ⟨l,hl⟩:=List.getLast?_eq_some_iff.1 hL;exact ⟨l,hl⟩
  have hn:(l ++ [olast]).length - 1=l.length:=by simp
  rw [hn] at hlen hl;refine wp_region_any hm ?_
  obtain ⟨vs,hvs⟩:∃ vs:Nat→Value,∀ i o,(l ++ [olast])[i]? = some o→vs (0+i)=own a0 o :=
    ⟨fun i=>match (l ++ [olast])[i]? with | some o=>own a0 o | none=>undef,fun i o ho=>by simp only [Nat.zero_add,ho]⟩
  have e:a0=A vs:=by rw [← hA,puts_own a0 vs _ 0 hvs]
  have h:=wpAny_facts hA hd hbk hc hF hlen (hs Q) (fun vs lo hi w hb h1 h2 hf=>wpOp_step (by simp) (fun K' hK=>hl vs lo hi w hb h1 h2 hf K' Q hK)) (l ++ [olast]).toArray.size (Array.replicate (l ++ [olast]).toArray.size false) vs (fun _=>0) (fun _=>0) w0.drew (by simp) (by simp)
    (Nat.le_trans List.count_le_length (by simp)) (Below.refl _ _).drew (fun k hk=>by simp [Array.getD] at hk) (fun j k hk=>by simp [Array.getD] at hk) (fun k o _ hk=>by simp [Array.getD] at hk)
  rw [← e] at h;exact h
end Go.Proofs.YtapcmbbhhclepaaGreatDoor
namespace Go.Proofs.YtapcmbbhhclepaaGreatDoor
open Go.RowKit
def WithF (x:V):Fact:=fun lo hi v w=>∃ k n t a1 n1 c1 a2 n2 c2,v=.agg #[.int .i64 k,.int .i64 n,.string t,.slice a1 n1 c1,.slice a2 n2 c2]∧Hid (Is w (fun b=>lo≤b∧b < hi) (.agg #[.int .i64 k,.int .i64 n,.string t,.slice a1 n1 c1,.slice a2 n2 c2]) x)
theorem mono_with (x:V):Mono (WithF x):=by
  rintro lo hi v w w' ⟨k,n,t,a1,n1,c1,a2,n2,c2,rfl,h⟩ b;exact ⟨k,n,t,a1,n1,c1,a2,n2,c2,rfl,h.out.below b⟩
theorem with_fact {w w':World} {k n:Int} {t:ByteArray} {a1:Option Addr} {n1 c1:Nat} {a2:Option Addr} {n2 c2:Nat} {x:V} (h:Is w' (fun b=>w.heap.size≤b) (.agg #[.int .i64 k,.int .i64 n,.string t,.slice a1 n1 c1,.slice a2 n2 c2]) x) :
    WithF x w.heap.size w'.heap.size (.agg #[.int .i64 k,.int .i64 n,.string t,.slice a1 n1 c1,.slice a2 n2 c2]) w' :=
  ⟨k,n,t,a1,n1,c1,a2,n2,c2,rfl,h.weak (fun b hb hs=>⟨hs,hb⟩)⟩
end Go.Proofs.YtapcmbbhhclepaaGreatDoor
namespace Go.Proofs.YtapcmbbhhclepaaGreatDoor
open Go.RowKit Go.Sort
theorem bytes_eq {t t':ByteArray} (h:t.toList=t'.toList):t=t':=by
  rw [Lib.toList_data,Lib.toList_data] at h;exact ByteArray.ext (Array.ext' h)
namespace V
theorem take_eq_succ {α:Type} {l l':List α} {j:Nat} (h:l.take j=l'.take j) (h1:j < l.length) (h2:j < l'.length) (he:l[j]=l'[j]):l.take (j+1)=l'.take (j+1):=by
  rw [List.take_succ_eq_append_getElem h1,List.take_succ_eq_append_getElem h2,h,he]
end V
set_option maxHeartbeats 1000000 in
set_option maxRecDepth 100000 in
theorem refStrings_any {a a':Option Addr} {n n' c c':Nat} {ks ks':List ByteArray} {w:World} {S S':Nat→Prop} (h:Strs w S (.slice a n c) ks) (h':Strs w S' (.slice a' n' c') ks') (hw:ks.length≤4294967296) (q:Bool) (hq:q=true ↔ ks=ks') :
    Calls Tryz.prog 48 #[.slice a n c,.slice a' n' c'] w fun e w'=>e=.returned (.bool q)∧Below w.heap.size w w':=by
  obtain ⟨rfl,_,_,_,hcell⟩:=h.out;obtain ⟨rfl,_,_,_,hcell'⟩:=h'.out;have HC:=hide hcell;have HC':=hide hcell';have HQ:=hide hq;clear hcell hcell' hq h h'
  by_cases hll:ks.length=ks'.length
  · have t1:(ks.length == ks'.length)=true:=by simp [hll]
    have HLL:=hide hll;rw [← hll];clear t1;have hln:∀ j,j < ks.length→j < ks'.length:=fun j hj=>by rw [← hll];exact hj
    clear hll;go_enter Tryz.func48,Tryz.ntmps48
    go_wp2_with fail
    go_loopg [5] ks.length (fun g i wr=>∃ j:Nat,j+g=ks.length∧i=.int .i64 j∧Hid (ks.take j=ks'.take j)∧Hid (Below w.heap.size w wr))
    case atStart=>exact ⟨0,by omega,rfl,rfl,Below.refl _ _⟩
    case round =>
      obtain ⟨j,hj,rfl,HT,HBJ⟩:=hrel
      by_cases hlt:j < ks.length
      · obtain ⟨b,off,K,rfl,hK,ej⟩:=str_at' HC.out HBJ.out hlt
        obtain ⟨b',off',K',rfl,hK',ej'⟩:=str_at' HC'.out HBJ.out (hln j hlt);have e1:ks.getD j ByteArray.empty=ks[j]:=by simp [List.getD,hlt]
        have e2:ks'.getD j ByteArray.empty=ks'[j]'(hln j hlt):=by simp [List.getD,hln j hlt]
        have HE1:=hide (hK.out.trans e1);have HE2:=hide (hK'.out.trans e2);clear e1 e2;cases hkk:(K.toList == K'.toList) with
        | true =>
          have e3:K.toList=K'.toList:=by simpa using hkk
          have e4:K=K':=bytes_eq e3;have HE4:=hide e4;clear e3 e4
          go_wp2_with fail
          go_quiet (fail)
          go_wp2_with fail
          go_roundg (gk - 1)
          case measure=>omega
          case rel=>exact ⟨j+1,by omega,rfl,V.take_eq_succ HT.out hlt (hln j hlt) (by rw [← HE1.out,← HE2.out,HE4.out]),below_drewN HBJ.out _⟩
        | false =>
          have e3:¬ K.toList=K'.toList:=by simpa using hkk
          go_wp2_with fail
          go_quiet (fail)
          go_wp2_with fail
          go_ret
          refine ⟨?_,below_drewN HBJ.out _⟩
          have:q=false:=by
            cases q with
            | false=>rfl
            | true =>
              have h1:=HQ.out.1 rfl;subst h1;exact absurd (by rw [HE1.out,HE2.out]) e3
          rw [this];rfl
      · have hje:j=ks.length:=by omega
        go_wp2_with fail
        go_ret
        refine ⟨?_,HBJ.out⟩
        have:q=true:=by
          refine HQ.out.2 ?_;have:=HT.out
          rw [hje,List.take_length,HLL.out,List.take_length] at this;exact this
        rw [this];rfl
  · have t1:(ks.length == ks'.length)=false:=by simp [hll]
    go_enter Tryz.func48,Tryz.ntmps48
    go_wp2_with fail
    go_ret
    refine ⟨?_,Below.refl _ _⟩
    have:q=false:=by
      cases q with
      | false=>rfl
      | true=>exact absurd (congrArg List.length (HQ.out.1 rfl)) hll
    rw [this];rfl
set_option maxHeartbeats 4000000 in
set_option maxRecDepth 100000 in
theorem refSameD (d:Nat):∀ (va vb:Value) (x y:V) (w:World) (S S':Nat→Prop) (q:Bool),IsD w S d va x→Is w S' vb y→V.wt x≤4294967296→V.wt y≤4294967296→(q=true ↔ x=y) →
    Calls Tryz.prog 20 #[va,vb] w fun e w'=>e=.returned (.bool q)∧Below w.heap.size w w':=by
  induction d with
  | zero=>intro va vb x y w S S' q h;exact h.elim
  | succ d ih =>
    intro va vb x y w S S' q h h' hwx hwy hq;obtain ⟨kv,a,cap,c,rfl,h2,h3,h4,h5,h6,h7⟩:=h;obtain ⟨kv',lv',rfl,h2',h8,h5'⟩:=h'.open;obtain ⟨k,n,t,ks,l⟩:=x;obtain ⟨k',n',t',ks',l'⟩:=y;simp only at *;rw [V.wt_mk] at hwx hwy;obtain ⟨a1,c1,rfl,_⟩:=id h2;obtain ⟨a1',c1',rfl,_⟩:=id h2';obtain ⟨a',cap',_,rfl,_⟩:=id h8;simp only [V.mk.injEq] at hq;have HW:=hide hwx;have HW':=hide hwy;have HQ:=hide hq;have H2:=hide h2;have H2':=hide h2';have H6:=hide h6;have H7:=hide h7;have H8:=hide h8;have hlen:l.length≤4294967296:=Nat.le_trans (V.wtL_len l) (by omega);clear hwx hwy hq h' h2 h2' h3 h4 h5 h5' h6 h7 h8;have bb2:Below w.heap.size w ((w.alloc (.cells #[.int .i64 k,.int .i64 n,.string t,.slice a1 ks.length c1,.slice a l.length cap] 27)).alloc (.cells #[.int .i64 k',.int .i64 n',.string t',.slice a1' ks'.length c1',.slice a' l'.length cap'] 27)):=bthen (below_alloc _ _) (below_alloc _ _);have hba:Box5 ((w.alloc (.cells #[.int .i64 k,.int .i64 n,.string t,.slice a1 ks.length c1,.slice a l.length cap] 27)).alloc (.cells #[.int .i64 k',.int .i64 n',.string t',.slice a1' ks'.length c1',.slice a' l'.length cap'] 27)) w.heap.size _ _ _ _ _:=(box5_new w _ _ _ _ _ 27).keep (below_alloc _ _);have hbb:Box5 ((w.alloc (.cells #[.int .i64 k,.int .i64 n,.string t,.slice a1 ks.length c1,.slice a l.length cap] 27)).alloc (.cells #[.int .i64 k',.int .i64 n',.string t',.slice a1' ks'.length c1',.slice a' l'.length cap'] 27)) (w.heap.size+1) _ _ _ _ _:=box5_at _ _ _ _ _ _ 27 _ (by simp);have HBB2:=hide bb2;have HBA0:=hide hba;have HBB0:=hide hbb;clear bb2 hba hbb
    have hno:∀ (P:Prop),(q=true→P)→¬ P→q=false:=fun P h1 h2=>by
      cases q with
      | false=>rfl
      | true=>exact absurd (h1 rfl) h2
    by_cases hk:k=k'
    case neg =>
      have hq':=hno _ (fun h=>(HQ.out.1 h).1) hk;have t1:(k != k')=true:=by simp [hk]
      clear hk hno;obtain ⟨x0,x1,x2,x3,x4⟩:=id HBA0.out;obtain ⟨y0,y1,y2,y3,y4⟩:=id HBB0.out;go_enter Tryz.func20,Tryz.ntmps20
      go_wp2_with fail
      go_ret
      exact ⟨by first | rfl | (rw [hq'];rfl),HBB2.out⟩
    subst hk
    by_cases hn:n=n'
    case neg =>
      have hq':=hno _ (fun h=>(HQ.out.1 h).2.1) hn;have t1:(n != n')=true:=by simp [hn]
      clear hn hno;obtain ⟨x0,x1,x2,x3,x4⟩:=id HBA0.out;obtain ⟨y0,y1,y2,y3,y4⟩:=id HBB0.out;go_enter Tryz.func20,Tryz.ntmps20
      go_wp2_with fail
      go_ret
      exact ⟨by first | rfl | (rw [hq'];rfl),HBB2.out⟩
    subst hn
    by_cases ht:t=t'
    case neg =>
      have hq':=hno _ (fun h=>(HQ.out.1 h).2.2.1) ht;have t1:=bytes_ne ht;have t2:¬ t.toList=t'.toList:=by simpa using t1
      have t3:(t.toList != t'.toList)=true:=by simpa using t2
      clear ht hno;obtain ⟨x0,x1,x2,x3,x4⟩:=id HBA0.out;obtain ⟨y0,y1,y2,y3,y4⟩:=id HBB0.out;go_enter Tryz.func20,Tryz.ntmps20
      go_wp2_with fail
      go_ret
      exact ⟨by first | rfl | (rw [hq'];rfl),HBB2.out⟩
    subst ht
    obtain ⟨qs,hqs⟩:∃ qs:Bool,qs=true ↔ ks=ks':=by
      by_cases h:ks=ks'
      · exact ⟨true,⟨fun _=>h,fun _=>rfl⟩⟩
      · exact ⟨false,⟨fun h'=>absurd h' (by decide),fun h'=>absurd h' h⟩⟩
    have HQS:=hide hqs;clear hqs;have HKL:Hid (ks.length≤4294967296):=hide (Nat.le_trans (V.wtK_len ks) (by have:=HW.out;omega));obtain ⟨x0,x1,x2,x3,x4⟩:=id HBA0.out;obtain ⟨y0,y1,y2,y3,y4⟩:=id HBB0.out;go_enter Tryz.func20,Tryz.ntmps20
    go_wp2_with fail
    clear x0 x1 x2 x3 x4 y0 y1 y2 y3 y4;refine (refStrings_any (H2.out.below HBB2.out) (H2'.out.below HBB2.out) HKL.out qs HQS.out).mono ?_;rintro e w1 ⟨rfl,b1⟩;have HB1:=hide (bthen HBB2.out b1);have HBA1:=hide (HBA0.out.keep b1);have HBB1:=hide (HBB0.out.keep b1);clear b1;obtain ⟨x0,x1,x2,x3,x4⟩:=id HBA1.out;obtain ⟨y0,y1,y2,y3,y4⟩:=id HBB1.out;cases qs with
    | false =>
      have hkk:¬ ks=ks':=fun h=>absurd (HQS.out.2 h) (by decide)
      have hq':=hno _ (fun h=>(HQ.out.1 h).2.2.2.1) hkk;clear hkk hno
      go_wp2_with fail
      go_ret
      exact ⟨by first | rfl | (rw [hq'];rfl),HB1.out⟩
    | true =>
      have hks:=HQS.out.1 rfl;have HQ1:Hid (q=true ↔ l=l'):=hide (by rw [HQ.out];simp [hks]);clear hks
      by_cases hll:l.length=l'.length
      case neg =>
        have hq':=hno _ (fun h=>congrArg List.length (HQ1.out.1 h)) hll;have t1:((l.length:Int) != (l'.length:Int))=true:=by simp;omega
        have t2:¬ (l.length:Int)=(l'.length:Int):=by omega
        clear hno
        go_wp2_with fail
        go_ret
        exact ⟨by first | rfl | (rw [hq'];rfl),HB1.out⟩
      have HLL:=hide hll;have hln:∀ j,j < l.length→j < l'.length:=fun j hj=>by rw [← hll];exact hj
      rw [← hll] at HBB1 y4 ⊢;have HIL:Hid (IsL w S' (.slice a' l.length cap') l'):=hide (by rw [hll];exact H8.out);clear hll H8 HBA0 HBB0 hno
      go_wp2_with fail
      clear x0 x1 x2 x3 x4 y0 y1 y2 y3 y4
      go_loopg [5] l.length (fun g i wr=>∃ j:Nat,j+g=l.length∧i=.int .i64 j∧Hid (l.take j=l'.take j)∧Hid (Below w.heap.size w wr)∧Hid (Box5 wr w.heap.size (.int .i64 k) (.int .i64 n) (.string t) (.slice a1 ks.length c1) (.slice a l.length cap))∧Hid (Box5 wr (w.heap.size+1) (.int .i64 k) (.int .i64 n) (.string t) (.slice a1' ks'.length c1') (.slice a' l.length cap')))
      case atStart=>exact ⟨0,by omega,rfl,rfl,HB1,HBA1,HBB1⟩
      case round =>
        clear HBA1 HBB1 HB1;obtain ⟨j,hj,rfl,HT,HBJ,HBA,HBB⟩:=hrel;obtain ⟨x0,x1,x2,x3,x4⟩:=id HBA.out
        by_cases hlt:j < l.length
        · have hlt':=hln j hlt
          obtain ⟨ab,ao,k3,m3,t3,a13,n13,c13,a23,n23,c23,rfl,hel,q0,q1,q2,q3,q4⟩:=elem_open H6.out HBJ.out hlt (H7.out j hlt);obtain ⟨bb,bo,k4,m4,t4,a14,n14,c14,a24,n24,c24,rfl,hem,p0,p1,p2,p3,p4⟩:=isL_open HIL.out HBJ.out hlt'
          obtain ⟨qj,hqj⟩:∃ qj:Bool,qj=true ↔ l[j]=l'[j]:=by
            by_cases h:l[j]=l'[j]
            · exact ⟨true,⟨fun _=>h,fun _=>rfl⟩⟩
            · exact ⟨false,⟨fun h'=>absurd h' (by decide),fun h'=>absurd h' h⟩⟩
          have HQJ:=hide hqj;have HW1:Hid (V.wt l[j]≤4294967296):=hide (by have h1:=V.wtL_mem (List.getElem_mem hlt);have h2:=HW.out;omega);have HW2:Hid (V.wt l'[j]≤4294967296):=hide (by have h1:=V.wtL_mem (List.getElem_mem hlt');have h2:=HW'.out;omega);have HEL:=hide hel;have HEM:=hide hem;have HQ0:=hide q0;have HQ11:=hide q1;have HQ2:=hide q2;have HQ3:=hide q3;have HQ4:=hide q4;have HP0:=hide p0;have HP1:=hide p1;have HP2:=hide p2;have HP3:=hide p3;have HP4:=hide p4;clear hel hem q0 q1 q2 q3 q4 p0 p1 p2 p3 p4 hqj
          go_upto_region 6 with fail
          clear x0 x1 x2 x3 x4;refine' wp_region_facts [(fun _ _ v _=>v=(.pointer (some ⟨w.heap.size,4,none⟩))),(fun _ _ v _=>v=(.slice (some ⟨ab,ao,none⟩) l.length cap)),(fun _ _ v _=>v=(.int .i64 (j:Int))),(fun _ _ v _=>v=(.pointer (some ⟨ab,ao+j * 5,none⟩))),(fun _ _ v _=>v=(.agg #[.int .i64 k3,.int .i64 m3,.string t3,.slice a13 n13 c13,.slice a23 n23 c23])),(fun _ _ v _=>v=(.pointer (some ⟨w.heap.size+1,4,none⟩))),(fun _ _ v _=>v=(.slice (some ⟨bb,bo,none⟩) l.length cap')),(fun _ _ v _=>v=(.int .i64 (j:Int))),(fun _ _ v _=>v=(.pointer (some ⟨bb,bo+j * 5,none⟩))),(fun _ _ v _=>v=(.agg #[.int .i64 k4,.int .i64 m4,.string t4,.slice a14 n14 c14,.slice a24 n24 c24])),(fun _ _ v _=>v=(.bool qj))] (by kernel_rfl) rfl ?hA (by kernel_rfl) (by kernel_rfl) (by kernel_rfl) rfl ?mono ?steps ?last
          case hA =>
            intro vs;simp only [puts,Act.put,List.setIfInBounds_toArray,List.set_cons_zero,List.set_cons_succ,Nat.zero_add,Nat.reduceAdd];rfl
          case mono=>exact ⟨mono_eq _,mono_eq _,mono_eq _,mono_eq _,mono_eq _,mono_eq _,mono_eq _,mono_eq _,mono_eq _,mono_eq _,mono_eq _,trivial⟩
          case steps =>
            intro Q';refine And.intro ?_ <| And.intro ?_ <| And.intro ?_ <| And.intro ?_ <| And.intro ?_ <| And.intro ?_ <| And.intro ?_ <| And.intro ?_ <| And.intro ?_ <| And.intro ?_ <| And.intro ?_ <| trivial
            all_goals
              intro vs lo hi w' hM hd K' hK;dsimp only at hK ⊢;simp only [Act.put,List.setIfInBounds_toArray,List.set_cons_zero,List.set_cons_succ] at hK
            · go_simp
              exact hK.out _ _ rfl (Below.refl _ _)
            · have e0:vs 0=(.pointer (some ⟨w.heap.size,4,none⟩)):=hd 0 (by kernel_rfl)
              simp only [e0] at hK ⊢;clear e0;obtain ⟨y0,y1,y2,y3,y4⟩:=HBA.out.keep hM;go_simp;exact hK.out _ _ rfl (Below.refl _ _)
            · go_simp
              exact hK.out _ _ rfl (Below.refl _ _)
            · have e1:vs 1=(.slice (some ⟨ab,ao,none⟩) l.length cap):=hd 1 (by kernel_rfl)
              have e2:vs 2=(.int .i64 (j:Int)):=hd 2 (by kernel_rfl);simp only [e1,e2] at hK ⊢;clear e1 e2;go_simp;exact hK.out _ _ rfl (Below.refl _ _)
            · have e3:vs 3=(.pointer (some ⟨ab,ao+j * 5,none⟩)):=hd 3 (by kernel_rfl)
              simp only [e3] at hK ⊢;clear e3;have q0:=cell_keep HQ0.out hM;have q1:=cell_keep HQ11.out hM;have q2:=cell_keep HQ2.out hM;have q3:=cell_keep HQ3.out hM;have q4:=cell_keep HQ4.out hM;go_simp;exact hK.out _ _ rfl (Below.refl _ _)
            · go_simp
              exact hK.out _ _ rfl (Below.refl _ _)
            · have e5:vs 5=(.pointer (some ⟨w.heap.size+1,4,none⟩)):=hd 5 (by kernel_rfl)
              simp only [e5] at hK ⊢;clear e5;obtain ⟨y0,y1,y2,y3,y4⟩:=HBB.out.keep hM;go_simp;exact hK.out _ _ rfl (Below.refl _ _)
            · go_simp
              exact hK.out _ _ rfl (Below.refl _ _)
            · have e6:vs 6=(.slice (some ⟨bb,bo,none⟩) l.length cap'):=hd 6 (by kernel_rfl)
              have e7:vs 7=(.int .i64 (j:Int)):=hd 7 (by kernel_rfl);simp only [e6,e7] at hK ⊢;clear e6 e7;go_simp;exact hK.out _ _ rfl (Below.refl _ _)
            · have e8:vs 8=(.pointer (some ⟨bb,bo+j * 5,none⟩)):=hd 8 (by kernel_rfl)
              simp only [e8] at hK ⊢;clear e8;have q0:=cell_keep HP0.out hM;have q1:=cell_keep HP1.out hM;have q2:=cell_keep HP2.out hM;have q3:=cell_keep HP3.out hM;have q4:=cell_keep HP4.out hM;go_simp;exact hK.out _ _ rfl (Below.refl _ _)
            · have e4:vs 4=(.agg #[.int .i64 k3,.int .i64 m3,.string t3,.slice a13 n13 c13,.slice a23 n23 c23]):=hd 4 (by kernel_rfl)
              have e9:vs 9=(.agg #[.int .i64 k4,.int .i64 m4,.string t4,.slice a14 n14 c14,.slice a24 n24 c24]):=hd 9 (by kernel_rfl);simp only [e4,e9] at hK ⊢;clear e4 e9;go_simp;refine (ih _ _ _ _ _ _ _ qj (HEL.out.keep (Keeps.of_below hM)) (HEM.out.below hM) HW1.out HW2.out HQJ.out).mono ?_;rintro e w7 ⟨rfl,b7⟩;exact hK.out _ _ rfl b7
          case last =>
            intro vs lo hi w' hM hlo hap hall K' Q' hK;have h10:vs 10=.bool qj:=hall.2.2.2.2.2.2.2.2.2.2.1;dsimp only;simp only [h10];clear h10 hall hap hlo;go_simp;refine hK.out _ _ ?_;clear hK;have HM:=hide hM;clear hM;cases qj with
            | true =>
              have hjj:=HQJ.out.1 rfl
              go_wp2_with fail
              go_roundg (gk - 1)
              case measure=>omega
              case rel=>exact ⟨j+1,by omega,rfl,V.take_eq_succ HT.out hlt hlt' hjj,bthen HBJ.out HM.out,HBA.out.keep HM.out,HBB.out.keep HM.out⟩
            | false =>
              have hjj:¬ l[j]=l'[j]:=fun h=>absurd (HQJ.out.2 h) (by decide)
              go_wp2_with fail
              go_ret
              refine ⟨?_,bthen HBJ.out HM.out⟩
              have:q=false:=by
                cases q with
                | false=>rfl
                | true =>
                  have h1:=HQ1.out.1 rfl;subst h1;exact absurd rfl hjj
              rw [this];rfl
        · have hje:j=l.length:=by omega
          go_wp2_with fail
          go_ret
          refine ⟨?_,HBJ.out⟩
          have:q=true:=by
            refine HQ1.out.2 ?_;have:=HT.out
            rw [hje,List.take_length,HLL.out,List.take_length] at this;exact this
          rw [this];rfl
theorem refSame_any {va vb:Value} {x y:V} {w:World} {S S':Nat→Prop} (h:Is w S va x) (h':Is w S' vb y) (hwx:V.wt x≤4294967296) (hwy:V.wt y≤4294967296) (q:Bool) (hq:q=true ↔ x=y) :
    Calls Tryz.prog 20 #[va,vb] w fun e w'=>e=.returned (.bool q)∧Below w.heap.size w w':=by
  obtain ⟨d,hd⟩:=h;exact refSameD d va vb x y w S S' q hd h' hwx hwy hq
end Go.Proofs.YtapcmbbhhclepaaGreatDoor
namespace Go.Proofs.YtapcmbbhhclepaaGreatDoor
open Go.RowKit
theorem V.place_hit (k n:Int) (t:ByteArray) (ks:List ByteArray) (l:List V) (key:ByteArray) (j:Nat) (hk:k=5) (hj:j < ks.length) (h1:ks.getD j ByteArray.empty=key) (h2:∀ i,i < j→ks.getD i ByteArray.empty≠key) :
    V.place ⟨k,n,t,ks,l⟩ key=if j < l.length then (j:Int) else -1:=by
  simp only [V.place];rw [if_pos hk]
  by_cases hl:j < l.length
  · rw [if_pos hl]
    exact Lib.idxOfS_hit ks (min ks.length l.length) j key (by omega) (by omega) h1 h2
  · rw [if_neg hl]
    exact Lib.idxOfS_miss ks _ key (fun i hi=>h2 i (by omega))
theorem V.place_miss (k n:Int) (t:ByteArray) (ks:List ByteArray) (l:List V) (key:ByteArray) (hk:k=5) (h2:∀ i,i < ks.length→ks.getD i ByteArray.empty≠key) :
    V.place ⟨k,n,t,ks,l⟩ key=-1:=by
  simp only [V.place];rw [if_pos hk];exact Lib.idxOfS_miss ks _ key (fun i hi=>h2 i (by omega))
set_option maxHeartbeats 4000000 in
theorem refPlace_any {v:Value} {x:V} {w:World} {S:Nat→Prop} (h:Is w S v x) (hwt:V.wt x≤4294967296) (key:ByteArray) (p:Int) (hp:V.place x key=p) :
    Calls Tryz.prog 47 #[v,.string key] w fun e w'=>e=.returned (.int .i64 p)∧Below w.heap.size w w':=by
  subst hp;have hkl:=V.klen_wt x;have hll:=V.len_wt x;obtain ⟨kv,lv,rfl,h2,h8,_⟩:=h.open;obtain ⟨k,n,t,ks,l⟩:=x;simp only at *;obtain ⟨a1,c1,rfl,h3,h4,_,h5⟩:=id h2;obtain ⟨a,cap,c,rfl,h6,h7,_⟩:=id h8;have hk32:ks.length≤4294967296:=by omega
  have hl32:l.length≤4294967296:=by omega
  have H5:=hide h5;clear h h2 h8 h5 h4 h7 hwt hkl hll
  by_cases hk:k=5
  · have HK:=hide hk
    have hk':(k != 5)=false:=by simp [hk]
    clear hk;go_enter Tryz.func47,Tryz.ntmps47
    go_wp2_with fail
    go_loopg [5] ks.length (fun g i wr=>∃ j:Nat,j+g=ks.length∧i=.int .i64 j∧Hid (∀ i,i < j→ks.getD i ByteArray.empty≠key)∧Below w.heap.size w wr∧Box5 wr w.heap.size (.int .i64 k) (.int .i64 n) (.string t) (.slice a1 ks.length c1) (.slice a l.length cap))
    case atStart=>exact ⟨0,by omega,rfl,fun i hi=>absurd hi (Nat.not_lt_zero _),below_alloc _ _,box5_new _ _ _ _ _ _ _⟩
    case round =>
      obtain ⟨j,hj,rfl,HA,bj,hbox⟩:=hrel;obtain ⟨x0,x1,x2,x3,x4⟩:=id hbox
      by_cases hlt:j < ks.length
      · obtain ⟨b,off,K,rfl,hK,ej⟩:=str_at' H5.out bj hlt
        by_cases hKe:K=key
        · have he:(K.toList == key.toList)=true:=by rw [hKe];simp
          have HE:=hide hKe;clear hKe
          by_cases hl:j < l.length
          · have hl':¬ (l.length:Int)≤(j:Int):=by omega
            go_wp2_with fail
            go_ret
            refine ⟨ret_int ?_,bj⟩;rw [V.place_hit k n t ks l key j HK.out hlt (by rw [← hK.out];exact HE.out) HA.out,if_pos hl]
          · have hl':(l.length:Int)≤(j:Int):=by omega
            go_wp2_with fail
            go_ret
            refine ⟨ret_int ?_,bj⟩;rw [V.place_hit k n t ks l key j HK.out hlt (by rw [← hK.out];exact HE.out) HA.out,if_neg (by omega)]
        · have he:=bytes_ne hKe
          have HE:=hide hKe;clear hKe
          go_wp2_with fail
          go_roundg (gk - 1)
          case measure=>omega
          case rel =>
            refine ⟨j+1,by omega,rfl,?_,bj,hbox⟩;intro i hi
            by_cases e:i=j
            · subst e;rw [← hK.out];exact HE.out
            · exact HA.out i (by omega)
      · have hje:j=ks.length:=by omega
        subst hje
        go_wp2_with fail
        go_ret
        refine ⟨ret_int ?_,bj⟩;rw [V.place_miss k n t ks l key HK.out HA.out]
  · have hk':(k != 5)=true:=by simp [hk]
    go_enter Tryz.func47,Tryz.ntmps47
    go_wp2_with fail
    go_ret
    refine ⟨ret_int ?_,below_alloc _ _⟩;simp only [V.place,if_neg hk]
theorem slice_mid_str (a:Option Addr) (n cap l h:Nat) (h1:l≤h) (h2:h≤cap) (W:World) :
    (Instr.slice 24 (.slice a n cap) (some (.int .i64 (l:Int))) (some (.int .i64 (h:Int))) none).run Tryz.prog W=.ok (.slice (tailAddr a cap l 1) (h - l) (cap - l)) W:=by
  rw [run_slice_lh (P:=Tryz.prog) W _ a n cap Tryz.underlying24 .i64 .i64 (l:Int) (h:Int) (by omega) (by omega) (by omega)];simp [sliced,go_sem,tailAddr]
theorem slice_mid_val (a:Option Addr) (n cap l h:Nat) (h1:l≤h) (h2:h≤cap) (W:World) :
    (Instr.slice 25 (.slice a n cap) (some (.int .i64 (l:Int))) (some (.int .i64 (h:Int))) none).run Tryz.prog W=.ok (.slice (tailAddr a cap l 5) (h - l) (cap - l)) W:=by
  rw [run_slice_lh (P:=Tryz.prog) W _ a n cap Tryz.underlying25 .i64 .i64 (l:Int) (h:Int) (by omega) (by omega) (by omega)];simp [sliced,go_sem,tailAddr]
theorem append3 {P:Program} {w:World} (t ty e:TypeId) (z:Value) (size bytes:Nat) (ht:P.underlying t=some (.slice e)) (hinfo:(P.info? e).map (fun i=>(i.zero,i.size,i.bytes))=some (some z,size,bytes)) (hzs:z.cells.size=size) (hsz:0 < size)
    {S:Nat→Prop} {x1 x2 x3:Value} {m1 m2 m3:Nat} {c1 c2 c3:List Value} (h1:Raw w S x1 size m1 c1) (h2:Raw w S x2 size m2 c2) (h3:Raw w S x3 size m3 c3)
    (hbytes:(m1+m2+m3) * bytes≤140737488355328) (h63:m1+m2+m3≤maxLen) :
    ∃ a1 n1 k1 w1 a2 n2 k2 w2 a3 n3 k3 w3,(Builtin.append_ #[t,t] ty #[.slice none 0 0,x1]).run P w=.ok (.slice a1 n1 k1) w1∧(Builtin.append_ #[t,t] ty #[.slice a1 n1 k1,x2]).run P w1=.ok (.slice a2 n2 k2) w2∧(Builtin.append_ #[t,t] ty #[.slice a2 n2 k2,x3]).run P w2=.ok (.slice a3 n3 k3) w3 ∧
      Raw w3 (fun b=>w.heap.size≤b) (.slice a3 n3 k3) size (m1+m2+m3) (c1 ++ c2 ++ c3)∧Below w.heap.size w w1∧Below w.heap.size w w2∧Below w.heap.size w w3:=by
  have hb1:(0+m1) * bytes≤140737488355328:=Nat.le_trans (Nat.mul_le_mul_right _ (by omega)) hbytes;have hb2:(0+m1+m2) * bytes≤140737488355328:=Nat.le_trans (Nat.mul_le_mul_right _ (by omega)) hbytes;have hb3:(0+m1+m2+m3) * bytes≤140737488355328:=Nat.le_trans (Nat.mul_le_mul_right _ (by omega)) hbytes;obtain ⟨v1,w1,r1,o1,g1⟩:=append_part t ty e z size bytes ht hinfo hzs hsz w.heap.size _ _ _ (World.ownsRow_nil w w.heap.size e size) h1 (by omega) hb1 (Nat.le_refl _);obtain ⟨a1,k1,rfl⟩:=own_shape o1;have b1:Below w.heap.size w w1:=(Below.refl _ _).grown g1 (Nat.le_refl _) (fun k hk=>by simp [Value.ownBlock] at hk);obtain ⟨v2,w2,r2,o2,g2⟩:=append_part t ty e z size bytes ht hinfo hzs hsz w.heap.size _ _ _ o1 (h2.below b1) (by omega) hb2 b1.size;obtain ⟨a2,k2,rfl⟩:=own_shape o2;have b2:Below w.heap.size w w2:=b1.grown g2 b1.size (own_block o1);obtain ⟨v3,w3,r3,o3,g3⟩:=append_part t ty e z size bytes ht hinfo hzs hsz w.heap.size _ _ _ o2 (h3.below b2) (by omega) hb3 b2.size;obtain ⟨a3,k3,rfl⟩:=own_shape o3;have b3:Below w.heap.size w w3:=b2.grown g3 b2.size (own_block o2);simp only [Nat.zero_add] at r1 r2 r3;refine ⟨_,_,_,w1,_,_,_,w2,_,_,_,w3,r1,r2,r3,?_,b1,b2,b3⟩
  have hraw:=Raw.of_own o3 (fun u hu=>by
    simp only [List.nil_append,List.mem_append] at hu;rcases hu with (hu | hu) | hu
    · obtain ⟨_,_,_,_,_,_,q,_⟩:=h1;exact q u hu
    · obtain ⟨_,_,_,_,_,_,q,_⟩:=h2;exact q u hu
    · obtain ⟨_,_,_,_,_,_,q,_⟩:=h3;exact q u hu)
  rw [List.nil_append,Nat.zero_add] at hraw;exact hraw
set_option maxHeartbeats 8000000 in
set_option maxRecDepth 100000 in
theorem refWith_core {v:Value} {x:V} {w:World} {S:Nat→Prop} (h:Is w S v x) (hwx:V.wt x≤1000000000) (h5:x.kind=5) (p q:Nat) (kv' lv':Value) (mk:List ByteArray) (ml:List V) (hk':Strs w S kv' mk) (hl':IsL w S lv' ml)
    (hpq:p+q≤min x.keys.length x.list.length) (hmk:mk.length≤10) (hml:ml.length≤10) :
    Calls Tryz.prog 55 #[v,.int .i64 p,.int .i64 q,kv',lv'] w fun e w'=>∃ k n t a1 n1 c1 a2 n2 c2,e=.returned (.agg #[.int .i64 k,.int .i64 n,.string t,.slice a1 n1 c1,.slice a2 n2 c2])∧Is w' (fun b=>S b∨w.heap.size≤b) (.agg #[.int .i64 k,.int .i64 n,.string t,.slice a1 n1 c1,.slice a2 n2 c2]) (V.laid x p (p+q) mk ml)∧Below w.heap.size w w':=by
  replace h:=h.weak (S':=fun b=>S b∧b < w.heap.size) (fun b hb hs=>⟨hs,hb⟩);replace hk':=hk'.weak (S':=fun b=>S b∧b < w.heap.size) (fun b hb hs=>⟨hs,hb⟩);replace hl':=hl'.weak (S':=fun b=>S b∧b < w.heap.size) (fun b hb hs=>⟨hs,hb⟩);have hkl:=V.klen_wt x;have hll:=V.len_wt x;obtain ⟨kv,lv,rfl,h2,h8,ht⟩:=id h.open;obtain ⟨k,n,t,ks,l⟩:=x;simp only at *;subst h5;obtain ⟨a1,c1,rfl,q1,_,hks,_⟩:=id h2;obtain ⟨a2,c2,_,rfl,q2,_⟩:=id h8;obtain ⟨a1',c1',rfl,_,_,hks',_⟩:=id hk';obtain ⟨a2',c2',_,rfl,_⟩:=id hl';obtain ⟨m,hm⟩:∃ m,min ks.length l.length=m:=⟨_,rfl⟩;rw [hm] at hpq;have hm32:m≤1000000000:=by omega
  have hmks:m≤ks.length:=by omega
  have hml':m≤l.length:=by omega
  have hmI:min (ks.length:Int) (l.length:Int)=(m:Int):=by omega
  have HM:=hide hm;have HK:=hide hks;have HK':=hide hks';have bb0:=bthen (below_alloc w (.cells #[.int .i64 5,.int .i64 n,.string t,.slice a1 ks.length c1,.slice a2 l.length c2] 27)) (below_alloc _ (.cells #[.int .i64 0,.int .i64 0,.string ⟨#[]⟩,.slice none 0 0,.slice none 0 0] 27));have pa0:=(boxF_at w (.int .i64 5) (.int .i64 n) (.string t) (.slice a1 ks.length c1) (.slice a2 l.length c2) 27 _ rfl).keep (below_alloc _ (.cells #[.int .i64 0,.int .i64 0,.string ⟨#[]⟩,.slice none 0 0,.slice none 0 0] 27));have pr0:=boxF_at (w.alloc (.cells #[.int .i64 5,.int .i64 n,.string t,.slice a1 ks.length c1,.slice a2 l.length c2] 27)) (.int .i64 0) (.int .i64 0) (.string ⟨#[]⟩) (.slice none 0 0) (.slice none 0 0) 27 (w.heap.size+1) (by simp);have sz0:((w.alloc (.cells #[.int .i64 5,.int .i64 n,.string t,.slice a1 ks.length c1,.slice a2 l.length c2] 27)).alloc (.cells #[.int .i64 0,.int .i64 0,.string ⟨#[]⟩,.slice none 0 0,.slice none 0 0] 27)).heap.size=w.heap.size+2:=by simp
  have rk0:=raw_of_strs (h2.below bb0);have rk1:=rk0.front (n:=p) (by omega);rw [Nat.mul_one,← List.map_take] at rk1;have rk3:=(rk0.front (n:=m) hmks).tail (n:=p+q) hpq;rw [Nat.mul_one,Nat.mul_one,← List.map_take,← List.map_drop] at rk3;obtain ⟨e1,f1,g1,W1,e2,f2,g2,W2,e3,f3,g3,W3,R1,R2,R3,rkf,bk1,bk2,bk3⟩:=append3 24 24 9 _ 1 16 Tryz.underlying24 info_str rfl (by decide) rk1 (raw_of_strs (hk'.below bb0)) rk3 (by omega) (by unfold maxLen;omega);obtain ⟨es,rl0,hes⟩:=raw_of_isL (h8.below (bthen bb0 bk3));obtain ⟨es',rl',hes'⟩:=raw_of_isL (hl'.below (bthen bb0 bk3));have rl1:=rl0.front (n:=p) (by omega);rw [cellsQ_take _ _ (by rw [hes.1];omega)] at rl1;have rl3:=(rl0.front (n:=m) hml').tail (n:=p+q) hpq;rw [cellsQ_take _ _ (by rw [hes.1];omega),cellsQ_drop _ _ (by rw [List.length_take,hes.1];omega)] at rl3;obtain ⟨e4,f4,g4,W4,e5,f5,g5,W5,e6,f6,g6,W6,R4,R5,R6,rlf,bl1,bl2,bl3⟩:=append3 25 25 27 _ 5 80 Tryz.underlying25 info_val rfl (by decide) rl1 rl' rl3 (by omega) (by unfold maxLen;omega);have s1:=slice_front_str a1 ks.length c1 p (by omega);have s2:=slice_mid_str a1 ks.length c1 (p+q) m hpq (by omega);have s3:=slice_front_val a2 l.length c2 p (by omega);have s4:=slice_mid_val a2 l.length c2 (p+q) m hpq (by omega);have hpqI:(p:Int)+(q:Int)=((p+q:Nat):Int):=by omega
  obtain ⟨pq,hpqe⟩:∃ r,p+q=r:=⟨_,rfl⟩;rw [hpqe] at s2 s4 hpqI rk3 rl3 R3 R6 rkf rlf hpq;have pa1:=pa0.keep bk1;have pa2:=pa0.keep bk2;have pa3:=pa0.keep bk3;have pa4:=pa3.keep bl1;have pa5:=pa3.keep bl2;have pa6:=pa3.keep bl3;have pr6:=(pr0.keep bk3).keep bl3;have q1':=(pa1.1);obtain ⟨_,_,_,y1,_⟩:=pa1.1;obtain ⟨_,_,_,y2,_⟩:=pa2.1;obtain ⟨_,_,_,_,y3⟩:=pa3.1;obtain ⟨_,_,_,_,y4⟩:=pa4.1;obtain ⟨_,_,_,_,y5⟩:=pa5.1;obtain ⟨_,y6,y7,_,_⟩:=pa6.1;obtain ⟨⟨z0,z1,z2,z3,z4⟩,g0',g1',g2',g3',g4'⟩:=id pr6;have HR1:=hide R1;have HR2:=hide R2;have HR3:=hide R3;have HR4:=hide R4;have HR5:=hide R5;have HR6:=hide R6;have HPQ:=hide hpqe;have BF:=bthen (bthen bb0 bk3) bl3;have HKF:=hide rkf;have HLF:=hide rlf;have HES:=hide hes;have HES':=hide hes';have HBL:=hide bl3;have HBK:=hide bk3;clear R1 R2 R3 R4 R5 R6 rk0 rk1 rk3 rl0 rl1 rl' rl3 rkf rlf pa0 pa1 pa2 pa3 pa4 pa5 pa6 pr0 q1' bk1 bk2 bl1 bl2 bb0 hm hes hes' hpqe h h2 h8 hk' hl' hks hks' bl3 bk3;go_enter Tryz.func55,Tryz.ntmps55
  go_wp2_with (first
    | (at_builtin;refine Lib.wpList_append_run _ rfl (.tmp 21) (.tmp 25) 24 24 rfl _ _ (by simp [Act.eval,Act.put]) (by simp [Act.eval,Act.put]) _ _ HR1.out ?_)
    | (at_builtin;refine Lib.wpList_append_run _ rfl (.tmp 27) (.tmp 28) 24 24 rfl _ _ (by simp [Act.eval,Act.put]) (by simp [Act.eval,Act.put]) _ _ HR2.out ?_)
    | (at_builtin;refine Lib.wpList_append_run _ rfl (.tmp 30) (.tmp 37) 24 24 rfl _ _ (by simp [Act.eval,Act.put]) (by simp [Act.eval,Act.put]) _ _ HR3.out ?_)
    | (at_builtin;refine Lib.wpList_append_run _ rfl (.tmp 39) (.tmp 43) 25 25 rfl _ _ (by simp [Act.eval,Act.put]) (by simp [Act.eval,Act.put]) _ _ HR4.out ?_)
    | (at_builtin;refine Lib.wpList_append_run _ rfl (.tmp 45) (.tmp 46) 25 25 rfl _ _ (by simp [Act.eval,Act.put]) (by simp [Act.eval,Act.put]) _ _ HR5.out ?_)
    | (at_builtin;refine Lib.wpList_append_run _ rfl (.tmp 48) (.tmp 55) 25 25 rfl _ _ (by simp [Act.eval,Act.put]) (by simp [Act.eval,Act.put]) _ _ HR6.out ?_))
  obtain ⟨u0,u1,u2,u3,u4⟩:=Box5.all pr6.1 (.int .i64 5) (.int .i64 n) (.string t) (.slice e3 f3 g3) (.slice e6 f6 g6);refine bodyPost_ret (v:=.agg #[.int .i64 5,.int .i64 n,.string t,.slice e3 f3 g3,.slice e6 f6 g6]) (by simp [results,Tryz.results55,go_sem,u0,u1,u2,u3,u4]) rfl ?_;refine ⟨5,n,t,e3,f3,g3,e6,f6,g6,rfl,?_,?_⟩
  · have kp:Keeps (fun b=>b≠w.heap.size+1) W6 _:=keeps_set5 (S:=fun b=>b≠w.heap.size+1) (w:=W6) (g:=w.heap.size+1) (o:=0) (.int .i64 5) (.int .i64 n) (.string t) (.slice e3 f3 g3) (.slice e6 f6 g6) (by simp)
    have sz3:=HBK.out.size;rw [sz0] at sz3;refine Is.shut (x:=V.laid ⟨5,n,t,ks,l⟩ p (p+q) mk ml) ?_ ?_ ht
    · simp only [V.laid,HM.out]
      have hr:=(HKF.out.below HBL.out).weak (S':=fun b=>b≠w.heap.size+1∧w.heap.size≤b) (fun b _ hb=>by rw [sz0] at hb;omega);rw [← HPQ.out,← List.map_append,← List.map_append,show List.take p ks=List.take p (List.take m ks) by rw [List.take_take,Nat.min_eq_left (by omega)]] at hr;have e1:List.take p (List.take m ks) ++ mk ++ List.drop (p+q) (List.take m ks)=V.splice (ks.take m) p (p+q) mk:=rfl;rw [e1] at hr;refine strs_of_raw ((hr.keep (fun b hb hl=>kp b hb.1 hl)).weak (fun b _ hb=>.inr hb.2)) ?_;intro u hu;simp only [V.splice,List.mem_append] at hu;rcases hu with (hu | hu) | hu
      · exact HK.out u (List.mem_of_mem_take (List.mem_of_mem_take hu))
      · exact HK'.out u hu
      · exact HK.out u (List.mem_of_mem_take (List.mem_of_mem_drop hu))
    · simp only [V.laid,HM.out]
      have hr:=HLF.out.weak (S':=fun b=>b≠w.heap.size+1∧(S b∨w.heap.size≤b)) (fun b _ hb=>⟨by omega,.inr (by omega)⟩);rw [← HPQ.out,← cellsQ_append,← cellsQ_append,show List.take p es=List.take p (List.take m es) by rw [List.take_take,Nat.min_eq_left (by omega)]] at hr;have k0:Els W6 (fun b=>b≠w.heap.size+1∧(S b∨w.heap.size≤b)) es l:=(HES.out.keep (Keeps.of_below HBL.out)).weak (fun b _ hb=>⟨by omega,.inl hb.1⟩);have k0':Els W6 (fun b=>b≠w.heap.size+1∧(S b∨w.heap.size≤b)) es' ml:=(HES'.out.keep (Keeps.of_below HBL.out)).weak (fun b _ hb=>⟨by omega,.inl hb.1⟩);have k3:=(((k0.take m).take p).append k0').append ((k0.take m).drop (p+q));exact (isL_of_raw (hr.keep (fun b hb hl=>kp b hb.1 hl)) (k3.keep (fun b hb hl=>kp b hb.1 hl))).weak (fun b _ hb=>hb.2)
  · have le2:w.heap.size≤w.heap.size+1:=by omega
    exact ((((BF.setCell le2 _).setCell le2 _).setCell le2 _).setCell le2 _).setCell le2 _
end Go.Proofs.YtapcmbbhhclepaaGreatDoor
