/-
  What this claim takes of the earlier layers' texts: DPivot DRefB.
-/
import Derived.Test.YtapcmbbhhclepaaGreatDoorM4
import Derived.Deep.DeepCutAuto
import Derived.Deep.CutBlock
set_option linter.unusedVariables false
set_option linter.unusedSimpArgs false
set_option maxRecDepth 100000
namespace Go.Proofs.YtapcmbbhhclepaaGreatDoor.Dig
open Go.RowKit
theorem wpAny_pivot {P:Program} {l:List Oper} {op:Oper} {tail:List Oper} {tl:List Bool} {Q:Exit→Act→World→Prop} {Fs:List Fact} {a0:Act} {w0:World} {A:(Nat→Value)→Act}
    (hA:∀ vs,puts vs 0 l a0=A vs) (hd:dstB l=true) (hbk:backB 0 (l ++ [op])=true) (hc:coverB (l ++ [op])=true) (hF:MonoAll Fs) (hlen:Fs.length=l.length) (htl:tl.length=tail.length)
    (htd:∀ i o,tail[i]? = some o→tl.getD i true=false→depB o l.length=true)
    (hs:Steps P (l ++ op :: tail).toArray Q Fs A w0 0 (l ++ [op]))
    (hl:∀ vs lo hi w,Below w0.heap.size w0 w→(∀ k,k < l.length→w0.heap.size≤lo k∧hi k≤w.heap.size)→(∀ j k,j < l.length→k < l.length→j≠k→hi j≤lo k∨hi k≤lo j)→AllF vs lo hi w 0 Fs →
      wpOp P (l ++ op :: tail).toArray Q l.length (fun a' w'=>∀ fuel,tl.count false≤fuel→wpAny P .any (l ++ op :: tail).toArray Q fuel (List.replicate (l.length+1) true ++ tl).toArray a' w') (A vs) w) :
    ∀ (fuel:Nat) (listed:Array Bool) (vs:Nat→Value) (lo hi:Nat→Nat) (w:World),listed.size=l.length+1+tl.length→listed.getD l.length true=false→(∀ i,listed.getD (l.length+1+i) true=tl.getD i true)→listed.toList.count false≤fuel→Below w0.heap.size w0 w →
      (∀ k,k < l.length→listed.getD k false=true→(w0.heap.size≤lo k∧hi k≤w.heap.size)∧fct Fs k (lo k) (hi k) (vs k) w)→(∀ j k,j < l.length→k < l.length→listed.getD j false=true→listed.getD k false=true→j≠k→hi j≤lo k∨hi k≤lo j) →
      (∀ k o,(l ++ [op])[k]? = some o→k < l.length→listed.getD k false=true→∀ j,depB o j=true→listed.getD j false=true)→wpAny P .any (l ++ op :: tail).toArray Q fuel listed (A vs) w:=by
  intro fuel
  induction fuel with
  | zero =>
    intro listed vs lo hi w hsz hlast _ hcnt;have hi:l.length < listed.size:=by omega
    have hv:listed[l.length]=false:=by simpa [hi] using hlast
    have h3:0 < listed.toList.count false:=List.count_pos_iff.2 (by rw [← hv,← Array.getElem_toList];exact List.getElem_mem _);omega
  | succ fuel ih =>
    intro listed vs lo hi w hsz hlast htail hcnt hb hf hap hdn
    have hget:∀ i,i≤l.length→(l ++ op :: tail)[i]? = (l ++ [op])[i]? := fun i hi'=>by
      by_cases h:i < l.length
      · rw [List.getElem?_append_left h,List.getElem?_append_left h]
      · have:i=l.length:=by omega
        subst this;simp
    have hnext:∀ i,i ∈ Region.ready .any (l ++ op :: tail).toArray listed→wpOp P (l ++ op :: tail).toArray Q i (wpAny P .any (l ++ op :: tail).toArray Q fuel (listed.setIfInBounds i true)) (A vs) w:=by
      intro i hrd;obtain ⟨hun,o,ho,hall⟩:=mem_ready.1 hrd;have ho2:(l ++ op :: tail)[i]? = some o:=by simpa using ho
      by_cases hgt:l.length < i
      · exfalso
        obtain ⟨j,rfl⟩:∃ j,i=l.length+1+j:=⟨i - l.length - 1,by omega⟩;have h1:=htail j;rw [hun] at h1
        have h2:tail[j]? = some o:=by
          rw [List.getElem?_append_right (by omega),show l.length+1+j - l.length=j+1 by omega,List.getElem?_cons_succ] at ho2;exact ho2
        obtain ⟨e,he,h3,h4⟩:=depB_spec (htd j o h2 h1.symm);have h5:=hall e he h4;rw [h3] at h5;have h6:l.length < listed.size:=by omega
        simp [h6] at h5 hlast;rw [hlast] at h5;cases h5
      by_cases hil:i=l.length
      · subst hil
        have hol:o=op:=by simpa using ho2.symm
        subst hol
        have hthere:∀ d j,j < l.length→l.length - j≤d→listed.getD j false=true:=by
          intro d
          induction d with
          | zero=>intro j hj hd';omega
          | succ d ihd =>
            intro j hj hd';obtain ⟨k,ok,hjk,hok,hdep⟩:=coverB_at hc j (by simpa using hj)
            by_cases hkl:k=l.length
            · subst hkl
              have:ok=o:=by simpa using hok.symm
              subst this;obtain ⟨e,he,h2,h3⟩:=depB_spec hdep;have:=hall e he h3
              rw [h2] at this;exact this
            · have hkn:k < l.length:=by
                have:=(List.getElem?_eq_some_iff.1 hok).1
                simp at this;omega
              exact hdn k ok hok hkn (ihd k hkn (by omega)) j hdep
        replace hthere:∀ j,j < l.length→listed.getD j false=true:=fun j hj=>hthere (l.length - j) j hj (Nat.le_refl _)
        refine wpOp_mono (fun a' w' hq=>?_) (hl vs lo hi w hb (fun k hk=>(hf k hk (hthere k hk)).1) (fun j k hj hk=>hap j k hj hk (hthere j hj) (hthere k hk)) (allF_of Fs 0 (fun i hi'=>by rw [Nat.zero_add];exact (hf i (by omega) (hthere i (by omega))).2)))
        have heq:listed.setIfInBounds l.length true=(List.replicate (l.length+1) true ++ tl).toArray:=by
          apply Array.ext
          · simp [hsz]
          · intro j h1 h2
            rw [Array.getElem_setIfInBounds (by simpa using h1)];simp only [List.getElem_toArray]
            by_cases hjl:j < l.length+1
            · rw [List.getElem_append_left (by simpa using hjl),List.getElem_replicate]
              split
              · rfl
              · have h4:=hthere j (by omega)
                have h5:j < listed.size:=by simpa using h1
                simpa [h5] using h4
            · rw [if_neg (by omega),List.getElem_append_right (by simp;omega)]
              have h5:j < listed.size:=by simpa using h1
              have h6:=htail (j - l.length - 1);rw [show l.length+1+(j - l.length - 1)=j by omega] at h6;have h7:j - l.length - 1 < tl.length:=by omega
              simp [h5,h7] at h6
              simpa [Nat.sub_sub] using h6
        have hcz:=falses_set hun;rw [heq] at hcz ⊢;refine hq fuel ?_
        have:(List.replicate (l.length+1) true ++ tl).toArray.toList.count false=tl.count false:=by
          rw [List.toList_toArray,List.count_append,List.count_replicate];simp
        omega
      · have hlt:i < l.length:=by omega
        have hst:=Steps.at (l ++ [op]) 0 hs i o (by rw [← hget i (by omega)];exact ho2) (by simp;omega);rw [Nat.zero_add] at hst;refine wpOp_step ho (fun K' hK=>hst vs lo hi w hb (fun d hdep=>?_) K' (fun v w' hv hbw=>?_))
        · obtain ⟨e,he,h2,h3⟩:=depB_spec hdep
          subst h2;have hlt2:=backB_at (l ++ [op]) 0 hbk i o (by rw [← hget i (by omega)];exact ho2) e he h3;exact (hf _ (by omega) (hall e he h3)).2
        · refine hK _ _ ?_
          have hli:l[i]? = some o:=by
            rw [List.getElem?_append_left hlt] at ho2;exact ho2
          have hset:(A vs).put o.dst v=A (fun i'=>if i'=i then v else vs i'):=by
            rw [← hA,← hA];exact puts_set vs v i l 0 a0 o hd (Nat.zero_le _) (by simpa using hli)
          rw [hset];refine ih _ _ (fun i'=>if i'=i then w.heap.size else lo i') (fun i'=>if i'=i then w'.heap.size else hi i') _ (by simpa using hsz) (by rw [getD_set_ne true hil];exact hlast) (fun k=>by rw [getD_set_ne true (by omega)];exact htail k) ?_ (bthen hb hbw) (fun k hkl hk=>?_) (fun j k hjl hkl hj hk hjk=>?_) (fun k ok hok hkl hk j hdep=>?_)
          · have:=falses_set hun
            omega
          · have h9:=hbw.size
            have h8:=hb.size
            by_cases hki:k=i
            · subst hki
              simp only [if_pos];exact ⟨⟨h8,Nat.le_refl _⟩,hv⟩
            · simp only [if_neg hki]
              rcases getD_set_self hk with h5 | h5
              · exact absurd h5 hki
              · have h6:=(hf k hkl h5).1
                exact ⟨⟨h6.1,by omega⟩,hF.at k _ _ _ _ _ (hf k hkl h5).2 hbw⟩
          · by_cases hki:k=i
            · by_cases hji:j=i
              · omega
              · rcases getD_set_self hj with h5 | h5
                · exact absurd h5 hji
                · subst hki
                  simp only [if_neg hji,if_pos];exact .inl (hf j hjl h5).1.2
            · rcases getD_set_self hk with h6 | h6
              · exact absurd h6 hki
              · by_cases hji:j=i
                · subst hji
                  simp only [if_neg hki,if_pos];exact .inr (hf k hkl h6).1.2
                · rcases getD_set_self hj with h5 | h5
                  · exact absurd h5 hji
                  · simp only [if_neg hki,if_neg hji]
                    exact hap j k hjl hkl h5 h6 hjk
          · rcases getD_set_self hk with h5 | h5
            · subst h5
              have:ok=o:=by
                rw [← hget k (by omega),ho2] at hok;exact (Option.some.inj hok).symm
              subst this;obtain ⟨e,he,h2,h3⟩:=depB_spec hdep;have:=hall e he h3
              rw [h2] at this;exact getD_set_true this
            · exact getD_set_true (hdn k ok hok hkl h5 j hdep)
    refine ⟨fun hnil=>?_,hnext⟩;exfalso
    obtain ⟨m,hm,hpm,hmin⟩:=least (p:=fun j=>listed.getD j true=false) l.length hlast
    have hmo:∃ o,(l ++ op :: tail).toArray[m]? = some o:=by
      rw [List.getElem?_toArray];exact ⟨_,List.getElem?_eq_getElem (by simp;omega)⟩
    obtain ⟨o,ho⟩:=hmo;have ho2:(l ++ [op])[m]? = some o:=by rw [← hget m hm];simpa using ho
    have hin:m ∈ Region.ready .any (l ++ op :: tail).toArray listed:=mem_ready.2 ⟨hpm,o,ho,fun e he hbn=>by
      have h1:=backB_at (l ++ [op]) 0 hbk m o ho2 e he hbn;have h2:=hmin e.on (by omega);have h3:e.on < listed.size:=by omega
      simp [h3] at h2 ⊢
      exact h2⟩
    rw [hnil] at hin;cases hin
theorem wpAny_pivot_start {P:Program} {l:List Oper} {op:Oper} {tail:List Oper} {tl:List Bool} {Q:Exit→Act→World→Prop} (Fs:List Fact) {a0:Act} {w0:World} {A:(Nat→Value)→Act} {fuel:Nat}
    (hA:∀ vs,puts vs 0 l a0=A vs) (hd:dstB l=true) (hbk:backB 0 (l ++ [op])=true) (hc:coverB (l ++ [op])=true) (hlen:Fs.length=l.length) (htl:tl.length=tail.length)
    (htd:((tail.zip tl).all (fun x=>x.2 || depB x.1 l.length))=true) (hfuel:l.length+1+tl.count false≤fuel) (hF:MonoAll Fs)
    (hs:∀ Q',Steps P (l ++ op :: tail).toArray Q' Fs A w0 0 (l ++ [op]))
    (hl:∀ vs lo hi w,Below w0.heap.size w0 w→(∀ k,k < l.length→w0.heap.size≤lo k∧hi k≤w.heap.size)→(∀ j k,j < l.length→k < l.length→j≠k→hi j≤lo k∨hi k≤lo j)→AllF vs lo hi w 0 Fs→∀ (K':Act→World→Prop) (Q':Exit→Act→World→Prop),
      Shut (∀ a' w',(∀ fuel,tl.count false≤fuel→wpAny P .any (l ++ op :: tail).toArray Q fuel (List.replicate (l.length+1) true ++ tl).toArray a' w')→K' a' w') →
      if Region.wanted op (yielded (l ++ op :: tail).toArray (A vs).tmps)=true then Oper.wp P op (A vs) w K' Q' else K' ((A vs).put op.dst undef) w) :
    wpAny P .any (l ++ op :: tail).toArray Q fuel (List.replicate (l.length+1) false ++ tl).toArray a0 w0:=by
  obtain ⟨vs,hvs⟩:∃ vs:Nat→Value,∀ i o,l[i]? = some o→vs (0+i)=own a0 o :=
    ⟨fun i=>match l[i]? with | some o=>own a0 o | none=>undef,fun i o ho=>by simp only [Nat.zero_add,ho]⟩
  have e:a0=A vs:=by rw [← hA,puts_own a0 vs _ 0 hvs]
  have hno:∀ k,k < l.length+1→(List.replicate (l.length+1) false ++ tl).toArray.getD k false=false:=fun k hk=>by
    have h1:k < (List.replicate (l.length+1) false ++ tl).toArray.size:=by simp;omega
    simp only [Array.getD,h1,dite_true];simp only [Array.getInternal_eq_getElem,List.getElem_toArray];rw [List.getElem_append_left (by simpa using hk),List.getElem_replicate]
  have h:=wpAny_pivot (tl:=tl) (tail:=tail) hA hd hbk hc hF hlen htl (fun i o ho hf=>by
      have hi:i < tail.length:=(List.getElem?_eq_some_iff.1 ho).1;have hi2:i < tl.length:=by omega
      have h1:=(List.all_eq_true.1 htd) (tail[i],tl[i]) (by
        rw [List.mem_iff_getElem]
        exact ⟨i,by simp;omega,by simp⟩)
      have h2:tl[i]=false:=by simpa [List.getD,hi2] using hf
      have h3:tail[i]=o:=(List.getElem?_eq_some_iff.1 ho).2
      simpa [h2,h3] using h1) (hs Q) (fun vs lo hi w hb h1 h2 hf=>wpOp_step (by simp) (fun K' hK=>hl vs lo hi w hb h1 h2 hf K' Q hK)) fuel (List.replicate (l.length+1) false ++ tl).toArray vs (fun _=>0) (fun _=>0) w0 (by simp) (by
        have h1:l.length < (List.replicate (l.length+1) false ++ tl).toArray.size:=by simp;omega
        simp only [Array.getD,h1,dite_true];simp only [Array.getInternal_eq_getElem,List.getElem_toArray];rw [List.getElem_append_left (by simp),List.getElem_replicate]) (fun i=>by
        simp only [Array.getD_eq_getD_getElem?,List.getElem?_toArray];rw [List.getElem?_append_right (by simp)];simp only [List.length_replicate,List.getD]
        congr 2
        omega) (by
        rw [List.toList_toArray,List.count_append,List.count_replicate];simp
        omega) (Below.refl _ _) (fun k hk hk2=>by rw [hno k (by omega)] at hk2;cases hk2) (fun j k hj _ hj2=>by rw [hno j (by omega)] at hj2;cases hj2) (fun k o _ hk hk2=>by rw [hno k (by omega)] at hk2;cases hk2)
  rw [← e] at h;exact h
theorem wpAny_pivot_at {P:Program} (p:Nat) {L:List Oper} {op:Oper} (tl:List Bool) {Q:Exit→Act→World→Prop} (Fs:List Fact) {a0:Act} {w0:World} {A:(Nat→Value)→Act} {fuel:Nat} {listed:Array Bool} (hop:L[p]? = some op)
    (hls:listed=(List.replicate (p+1) false ++ tl).toArray) (hA:∀ vs,puts vs 0 (L.take p) a0=A vs) (hd:dstB (L.take p)=true) (hbk:backB 0 (L.take p ++ [op])=true) (hc:coverB (L.take p ++ [op])=true) (hlen:Fs.length=p) (htl:tl.length=(L.drop (p+1)).length)
    (htd:(((L.drop (p+1)).zip tl).all (fun x=>x.2 || depB x.1 p))=true) (hfuel:p+1+tl.count false≤fuel) (hF:MonoAll Fs)
    (hs:∀ Q',Steps P L.toArray Q' Fs A w0 0 (L.take p ++ [op]))
    (hl:∀ vs lo hi w,Below w0.heap.size w0 w→(∀ k,k < p→w0.heap.size≤lo k∧hi k≤w.heap.size)→(∀ j k,j < p→k < p→j≠k→hi j≤lo k∨hi k≤lo j)→AllF vs lo hi w 0 Fs→∀ (K':Act→World→Prop) (Q':Exit→Act→World→Prop),
      Shut (∀ a' w',(∀ fuel,tl.count false≤fuel→wpAny P .any L.toArray Q fuel (List.replicate (p+1) true ++ tl).toArray a' w')→K' a' w') →
      if Region.wanted op (yielded L.toArray (A vs).tmps)=true then Oper.wp P op (A vs) w K' Q' else K' ((A vs).put op.dst undef) w) :
    wpAny P .any L.toArray Q fuel listed a0 w0:=by
  have hp:p < L.length:=(List.getElem?_eq_some_iff.1 hop).1;have hlp:(L.take p).length=p:=by rw [List.length_take];omega
  have hL:L.take p ++ op :: L.drop (p+1)=L:=by
    rw [← (List.getElem?_eq_some_iff.1 hop).2,← List.drop_eq_getElem_cons hp,List.take_append_drop]
  have h:=wpAny_pivot_start (P:=P) (l:=L.take p) (op:=op) (tail:=L.drop (p+1)) (tl:=tl) (Q:=Q) Fs (a0:=a0) (w0:=w0) (A:=A) (fuel:=fuel) hA hd hbk hc (by rw [hlp];exact hlen) htl (by rw [hlp];exact htd) (by rw [hlp];exact hfuel) hF (by rw [hL];exact hs) (by rw [hL,hlp];exact hl);rw [hL,hlp] at h;rw [hls];exact h
end Go.Proofs.YtapcmbbhhclepaaGreatDoor.Dig
namespace Go.Proofs.YtapcmbbhhclepaaGreatDoor.Dig
open Go.RowKit
def OneW (x:Int):Fact:=fun lo hi v w=>v=.slice (some ⟨lo,0,none⟩) 1 1∧Hid (∀ j u,[w32 x][j]? = some u→w.cell? ⟨lo,j,none⟩=some u)
theorem mono_oneW (x:Int):Mono (OneW x):=by
  rintro lo hi v w w' ⟨rfl,h⟩ b;exact ⟨rfl,fun j u hu=>(b.cell (p:=⟨lo,j,none⟩) (block_lt_of_cell (h.out j u hu))).trans (h.out j u hu)⟩
theorem oneW_fact (x:Int) (w:World):OneW x w.heap.size (w.alloc (.cells #[.int .u32 x] 93)).heap.size (.slice (some ⟨w.heap.size,0,none⟩) 1 1) (w.alloc (.cells #[.int .u32 x] 93)) :=
  ⟨rfl,one_cell w (.int .u32 x) 93⟩
theorem own_read {w:World} {base n c:Nat} {a:Option Addr} {l:List Int} (h:w.ownsRow base 93 1 (.slice a n c) n (l.map w32)) (hn:0 < n):∃ g,a=some ⟨g,0,none⟩∧base≤g∧g < w.heap.size∧n≤c∧c≤maxLen∧∀ i,i < n→w.cell? ⟨g,i,none⟩=some (w32 (l[i]?.getD 0)):=by
  obtain ⟨h1,h2⟩:=h;have hlen:l.length=n:=by simpa using h1
  rcases h2 with ⟨h2,h3⟩ | ⟨g',cap,cur,hv,hg,hh,hnc,hm,hs,ht⟩
  · omega
  · simp only [Value.slice.injEq] at hv
    obtain ⟨rfl,_,rfl⟩:=hv;refine ⟨g',rfl,hg,(Array.getElem?_eq_some_iff.1 hh).1,hnc,hm,fun i hi=>?_⟩;rw [cell_of_row w g' i cur 93 _ hh];have e:(cur.toList.take (n * 1))[i]? = (l.map w32)[i]? := by rw [ht]
    rw [List.getElem?_take,if_pos (by omega),Array.getElem?_toList,List.getElem?_map,List.getElem?_eq_getElem (by omega)] at e;rw [e,List.getElem?_eq_getElem (by omega)];rfl
set_option maxRecDepth 100000 in
set_option maxHeartbeats 2000000 in
theorem refWords_any (b o cap:Nat) (bs:List Int) (w:World) (hl:bs.length=64) (hcap:64≤cap) (hr:Rd w b o bs) (h8:Dg.B8 bs) :
    Calls Tryz.prog 127 #[.slice (some ⟨b,o,none⟩) 64 cap] w fun e w'=>∃ a c,e=.returned (.slice a 64 c)∧w'.ownsRow w.heap.size 93 1 (.slice a 64 c) 64 ((Dg.spread bs).map w32)∧Below w.heap.size w w':=by
  have HL:=hide hl;have HR:=hide hr;have H8:=hide h8;have HLt:Hid (b < w.heap.size):=hr.lt (by omega);clear hl hr h8;go_enter Tryz.func127,Tryz.ntmps127
  go_wp2_with fail
  go_loopw [3,4] (fun v i wr=>∃ (j:Nat) (la:Option Addr) (lc:Nat),Hid (j≤16)∧i=.int .i64 j∧v=.slice la j lc∧Hid (wr.ownsRow w.heap.size 93 1 (.slice la j lc) j (((List.range j).map (Dg.wd bs)).map w32))∧Hid (Below w.heap.size w wr)) (fun _ i _=>16 - (intOf i).toNat)
  case atStart=>exact ⟨0,none,0,Nat.zero_le _,rfl,rfl,World.ownsRow_nil ..,Below.refl _ _⟩
  case round =>
    obtain ⟨j,la,lc,Hj16,rfl,rfl,HOWN,HBJ⟩:=hrel
    by_cases hlt:j < 16
    · have hR:=HR.out.below HBJ.out
      obtain ⟨y0,e0⟩:∃ y,y=bs[4 * j]?.getD 0:=⟨_,rfl⟩;obtain ⟨y1,e1⟩:∃ y,y=bs[4 * j+1]?.getD 0:=⟨_,rfl⟩;obtain ⟨y2,e2⟩:∃ y,y=bs[4 * j+2]?.getD 0:=⟨_,rfl⟩;obtain ⟨y3,e3⟩:∃ y,y=bs[4 * j+3]?.getD 0:=⟨_,rfl⟩;have HY0:Hid (wr.cell? ⟨b,o+(4 * j),none⟩=some (.int .u8 y0)):=by rw [e0];exact hR (4 * j) (by rw [HL.out];omega)
      have HY1:Hid (wr.cell? ⟨b,o+(4 * j+1),none⟩=some (.int .u8 y1)):=by rw [e1];exact hR (4 * j+1) (by rw [HL.out];omega)
      have HY2:Hid (wr.cell? ⟨b,o+(4 * j+2),none⟩=some (.int .u8 y2)):=by rw [e2];exact hR (4 * j+2) (by rw [HL.out];omega)
      have HY3:Hid (wr.cell? ⟨b,o+(4 * j+3),none⟩=some (.int .u8 y3)):=by rw [e3];exact hR (4 * j+3) (by rw [HL.out];omega)
      have Hy0:Hid (0≤y0∧y0≤255):=by rw [e0];exact H8.out _
      have Hy1:Hid (0≤y1∧y1≤255):=by rw [e1];exact H8.out _
      have Hy2:Hid (0≤y2∧y2≤255):=by rw [e2];exact H8.out _
      have Hy3:Hid (0≤y3∧y3≤255):=by rw [e3];exact H8.out _
      have HYE0:=hide e0;have HYE1:=hide e1;have HYE2:=hide e2;have HYE3:=hide e3;clear e0 e1 e2 e3 hR
      go_upto_region 5 with fail
      generalize decide ((j:Int) < 16)=bt;have Hj:=hide hlt;clear hlt;refine wp_region_any (by kernel_rfl) ?_
      change wpAny _ _ _ _ _ _ _ wr.drew
      have hb0:Below wr.heap.size wr wr.drew:=(Below.refl _ _).drew;replace HY0:Hid (wr.drew.cell? ⟨b,o+(4 * j),none⟩=some (.int .u8 y0)):=HY0;replace HY1:Hid (wr.drew.cell? ⟨b,o+(4 * j+1),none⟩=some (.int .u8 y1)):=HY1;replace HY2:Hid (wr.drew.cell? ⟨b,o+(4 * j+2),none⟩=some (.int .u8 y2)):=HY2;replace HY3:Hid (wr.drew.cell? ⟨b,o+(4 * j+3),none⟩=some (.int .u8 y3)):=HY3;replace HOWN:=hide (own_below HOWN.out hb0);replace HBJ:=hide (bthen HBJ.out hb0);clear hb0;generalize wr.drew=wq at HY0 HY1 HY2 HY3 HOWN HBJ ⊢;have HLT:Hid (b < wq.heap.size):=Nat.lt_of_lt_of_le HLt.out HBJ.out.size;refine' wpAny_pivot_at 35 [false] [(fun _ _ v _=>v=(.slice la j lc)),(fun _ _ v _=>v=(.slice (some ⟨b,o,none⟩) 64 cap)),(fun _ _ v _=>v=(.int .i64 (j:Int))),(fun _ _ v _=>v=(.int .i64 (4 * (j:Int)))),(fun _ _ v _=>v=(.pointer (some ⟨b,o+(4 * j),none⟩))),(fun _ _ v _=>v=(.int .u8 y0)),(fun _ _ v _=>v=(.int .u32 y0)),(fun _ _ v _=>v=(.int .u32 (y0 * 16777216))),(fun _ _ v _=>v=(.slice (some ⟨b,o,none⟩) 64 cap)),(fun _ _ v _=>v=(.int .i64 (j:Int))),(fun _ _ v _=>v=(.int .i64 (4 * (j:Int)))),(fun _ _ v _=>v=(.int .i64 (4 * (j:Int)+1))),(fun _ _ v _=>v=(.pointer (some ⟨b,o+(4 * j+1),none⟩))),(fun _ _ v _=>v=(.int .u8 y1)),(fun _ _ v _=>v=(.int .u32 y1)),(fun _ _ v _=>v=(.int .u32 (y1 * 65536))),(fun _ _ v _=>v=(.int .u32 (bits .or .u32 (y0 * 16777216) (y1 * 65536)))),(fun _ _ v _=>v=(.slice (some ⟨b,o,none⟩) 64 cap)),(fun _ _ v _=>v=(.int .i64 (j:Int))),(fun _ _ v _=>v=(.int .i64 (4 * (j:Int)))),(fun _ _ v _=>v=(.int .i64 (4 * (j:Int)+2))),(fun _ _ v _=>v=(.pointer (some ⟨b,o+(4 * j+2),none⟩))),(fun _ _ v _=>v=(.int .u8 y2)),(fun _ _ v _=>v=(.int .u32 y2)),(fun _ _ v _=>v=(.int .u32 (y2 * 256))),(fun _ _ v _=>v=(.int .u32 (bits .or .u32 (bits .or .u32 (y0 * 16777216) (y1 * 65536)) (y2 * 256)))),(fun _ _ v _=>v=(.slice (some ⟨b,o,none⟩) 64 cap)),(fun _ _ v _=>v=(.int .i64 (j:Int))),(fun _ _ v _=>v=(.int .i64 (4 * (j:Int)))),(fun _ _ v _=>v=(.int .i64 (4 * (j:Int)+3))),(fun _ _ v _=>v=(.pointer (some ⟨b,o+(4 * j+3),none⟩))),(fun _ _ v _=>v=(.int .u8 y3)),(fun _ _ v _=>v=(.int .u32 y3)),(fun _ _ v _=>v=(.int .u32 (bits .or .u32 (bits .or .u32 (bits .or .u32 (y0 * 16777216) (y1 * 65536)) (y2 * 256)) y3))),(OneW (bits .or .u32 (bits .or .u32 (bits .or .u32 (y0 * 16777216) (y1 * 65536)) (y2 * 256)) y3))] rfl (by kernel_rfl) ?hA (by kernel_rfl) (by kernel_rfl) (by kernel_rfl) rfl rfl (by kernel_rfl) (by decide) ?mono ?steps ?last
      case hA =>
        intro vs;simp only [List.take_succ_cons,List.take_zero,puts,Act.put,List.setIfInBounds_toArray,List.set_cons_zero,List.set_cons_succ,Nat.zero_add,Nat.reduceAdd];rfl
      case mono=>exact ⟨mono_eq _,mono_eq _,mono_eq _,mono_eq _,mono_eq _,mono_eq _,mono_eq _,mono_eq _,mono_eq _,mono_eq _,mono_eq _,mono_eq _,mono_eq _,mono_eq _,mono_eq _,mono_eq _,mono_eq _,mono_eq _,mono_eq _,mono_eq _,mono_eq _,mono_eq _,mono_eq _,mono_eq _,mono_eq _,mono_eq _,mono_eq _,mono_eq _,mono_eq _,mono_eq _,mono_eq _,mono_eq _,mono_eq _,mono_eq _,mono_oneW (bits .or .u32 (bits .or .u32 (bits .or .u32 (y0 * 16777216) (y1 * 65536)) (y2 * 256)) y3),trivial⟩
      case steps =>
        intro Q';refine And.intro ?_ <| And.intro ?_ <| And.intro ?_ <| And.intro ?_ <| And.intro ?_ <| And.intro ?_ <| And.intro ?_ <| And.intro ?_ <| And.intro ?_ <| And.intro ?_ <| And.intro ?_ <| And.intro ?_ <| And.intro ?_ <| And.intro ?_ <| And.intro ?_ <| And.intro ?_ <| And.intro ?_ <| And.intro ?_ <| And.intro ?_ <| And.intro ?_ <| And.intro ?_ <| And.intro ?_ <| And.intro ?_ <| And.intro ?_ <| And.intro ?_ <| And.intro ?_ <| And.intro ?_ <| And.intro ?_ <| And.intro ?_ <| And.intro ?_ <| And.intro ?_ <| And.intro ?_ <| And.intro ?_ <| And.intro ?_ <| And.intro ?_ <| trivial
        all_goals
          intro vs lo hi w' hM hd K' hK;dsimp only at hK ⊢;simp only [Act.put,List.setIfInBounds_toArray,List.set_cons_zero,List.set_cons_succ] at hK
        · go_simp
          exact hK.out _ _ rfl (Below.refl _ _)
        · go_simp
          exact hK.out _ _ rfl (Below.refl _ _)
        · go_simp
          exact hK.out _ _ rfl (Below.refl _ _)
        · have e2:vs 2=(.int .i64 (j:Int)):=hd 2 (by kernel_rfl)
          simp only [e2] at hK ⊢;clear e2;have g0:(0:Int)≤(j:Int):=by omega
          have g1:(j:Int) < 16:=by have:=Hj.out;omega
          go_simp;exact hK.out _ _ (int_i64 rfl (by omega) (by omega)) (Below.refl _ _)
        · have e1:vs 1=(.slice (some ⟨b,o,none⟩) 64 cap):=hd 1 (by kernel_rfl)
          have e3:vs 3=(.int .i64 (4 * (j:Int))):=hd 3 (by kernel_rfl);simp only [e1,e3] at hK ⊢;clear e1 e3;have g0:(0:Int)≤(j:Int):=by omega
          have g1:(j:Int) < 16:=by have:=Hj.out;omega
          have g2:((4 * (j:Int))).toNat=4 * j:=by omega
          have g3:(4 * (j:Int)) < 64:=by omega
          have g4:(0:Int)≤(4 * (j:Int)):=by omega
          go_simp;exact hK.out _ _ rfl (Below.refl _ _)
        · have e4:vs 4=(.pointer (some ⟨b,o+(4 * j),none⟩)):=hd 4 (by kernel_rfl)
          simp only [e4] at hK ⊢;clear e4;have q0:=(hM.cell (p:=⟨b,o+(4 * j),none⟩) HLT.out).trans HY0.out;go_simp;exact hK.out _ _ rfl (Below.refl _ _)
        · have e5:vs 5=(.int .u8 y0):=hd 5 (by kernel_rfl)
          simp only [e5] at hK ⊢;clear e5;go_simp;exact hK.out _ _ (int_u32 (by have:=Hy0.out;omega)) (Below.refl _ _)
        · have e6:vs 6=(.int .u32 y0):=hd 6 (by kernel_rfl)
          simp only [e6] at hK ⊢;clear e6;go_simp;exact hK.out _ _ (int_u32 (by have:=Hy0.out;omega)) (Below.refl _ _)
        · go_simp
          exact hK.out _ _ rfl (Below.refl _ _)
        · go_simp
          exact hK.out _ _ rfl (Below.refl _ _)
        · have e9:vs 9=(.int .i64 (j:Int)):=hd 9 (by kernel_rfl)
          simp only [e9] at hK ⊢;clear e9;have g0:(0:Int)≤(j:Int):=by omega
          have g1:(j:Int) < 16:=by have:=Hj.out;omega
          go_simp;exact hK.out _ _ (int_i64 rfl (by omega) (by omega)) (Below.refl _ _)
        · have e10:vs 10=(.int .i64 (4 * (j:Int))):=hd 10 (by kernel_rfl)
          simp only [e10] at hK ⊢;clear e10;have g0:(0:Int)≤(j:Int):=by omega
          have g1:(j:Int) < 16:=by have:=Hj.out;omega
          go_simp;exact hK.out _ _ (int_i64 rfl (by omega) (by omega)) (Below.refl _ _)
        · have e8:vs 8=(.slice (some ⟨b,o,none⟩) 64 cap):=hd 8 (by kernel_rfl)
          have e11:vs 11=(.int .i64 (4 * (j:Int)+1)):=hd 11 (by kernel_rfl);simp only [e8,e11] at hK ⊢;clear e8 e11;have g0:(0:Int)≤(j:Int):=by omega
          have g1:(j:Int) < 16:=by have:=Hj.out;omega
          have g2:((4 * (j:Int)+1)).toNat=4 * j+1:=by omega
          have g3:(4 * (j:Int)+1) < 64:=by omega
          have g4:(0:Int)≤(4 * (j:Int)+1):=by omega
          go_simp;exact hK.out _ _ rfl (Below.refl _ _)
        · have e12:vs 12=(.pointer (some ⟨b,o+(4 * j+1),none⟩)):=hd 12 (by kernel_rfl)
          simp only [e12] at hK ⊢;clear e12;have q0:=(hM.cell (p:=⟨b,o+(4 * j+1),none⟩) HLT.out).trans HY1.out;go_simp;exact hK.out _ _ rfl (Below.refl _ _)
        · have e13:vs 13=(.int .u8 y1):=hd 13 (by kernel_rfl)
          simp only [e13] at hK ⊢;clear e13;go_simp;exact hK.out _ _ (int_u32 (by have:=Hy1.out;omega)) (Below.refl _ _)
        · have e14:vs 14=(.int .u32 y1):=hd 14 (by kernel_rfl)
          simp only [e14] at hK ⊢;clear e14;go_simp;exact hK.out _ _ (int_u32 (by have:=Hy1.out;omega)) (Below.refl _ _)
        · have e7:vs 7=(.int .u32 (y0 * 16777216)):=hd 7 (by kernel_rfl)
          have e15:vs 15=(.int .u32 (y1 * 65536)):=hd 15 (by kernel_rfl);simp only [e7,e15] at hK ⊢;clear e7 e15;go_simp;exact hK.out _ _ rfl (Below.refl _ _)
        · go_simp
          exact hK.out _ _ rfl (Below.refl _ _)
        · go_simp
          exact hK.out _ _ rfl (Below.refl _ _)
        · have e18:vs 18=(.int .i64 (j:Int)):=hd 18 (by kernel_rfl)
          simp only [e18] at hK ⊢;clear e18;have g0:(0:Int)≤(j:Int):=by omega
          have g1:(j:Int) < 16:=by have:=Hj.out;omega
          go_simp;exact hK.out _ _ (int_i64 rfl (by omega) (by omega)) (Below.refl _ _)
        · have e19:vs 19=(.int .i64 (4 * (j:Int))):=hd 19 (by kernel_rfl)
          simp only [e19] at hK ⊢;clear e19;have g0:(0:Int)≤(j:Int):=by omega
          have g1:(j:Int) < 16:=by have:=Hj.out;omega
          go_simp;exact hK.out _ _ (int_i64 rfl (by omega) (by omega)) (Below.refl _ _)
        · have e17:vs 17=(.slice (some ⟨b,o,none⟩) 64 cap):=hd 17 (by kernel_rfl)
          have e20:vs 20=(.int .i64 (4 * (j:Int)+2)):=hd 20 (by kernel_rfl);simp only [e17,e20] at hK ⊢;clear e17 e20;have g0:(0:Int)≤(j:Int):=by omega
          have g1:(j:Int) < 16:=by have:=Hj.out;omega
          have g2:((4 * (j:Int)+2)).toNat=4 * j+2:=by omega
          have g3:(4 * (j:Int)+2) < 64:=by omega
          have g4:(0:Int)≤(4 * (j:Int)+2):=by omega
          go_simp;exact hK.out _ _ rfl (Below.refl _ _)
        · have e21:vs 21=(.pointer (some ⟨b,o+(4 * j+2),none⟩)):=hd 21 (by kernel_rfl)
          simp only [e21] at hK ⊢;clear e21;have q0:=(hM.cell (p:=⟨b,o+(4 * j+2),none⟩) HLT.out).trans HY2.out;go_simp;exact hK.out _ _ rfl (Below.refl _ _)
        · have e22:vs 22=(.int .u8 y2):=hd 22 (by kernel_rfl)
          simp only [e22] at hK ⊢;clear e22;go_simp;exact hK.out _ _ (int_u32 (by have:=Hy2.out;omega)) (Below.refl _ _)
        · have e23:vs 23=(.int .u32 y2):=hd 23 (by kernel_rfl)
          simp only [e23] at hK ⊢;clear e23;go_simp;exact hK.out _ _ (int_u32 (by have:=Hy2.out;omega)) (Below.refl _ _)
        · have e16:vs 16=(.int .u32 (bits .or .u32 (y0 * 16777216) (y1 * 65536))):=hd 16 (by kernel_rfl)
          have e24:vs 24=(.int .u32 (y2 * 256)):=hd 24 (by kernel_rfl);simp only [e16,e24] at hK ⊢;clear e16 e24;go_simp;exact hK.out _ _ rfl (Below.refl _ _)
        · go_simp
          exact hK.out _ _ rfl (Below.refl _ _)
        · go_simp
          exact hK.out _ _ rfl (Below.refl _ _)
        · have e27:vs 27=(.int .i64 (j:Int)):=hd 27 (by kernel_rfl)
          simp only [e27] at hK ⊢;clear e27;have g0:(0:Int)≤(j:Int):=by omega
          have g1:(j:Int) < 16:=by have:=Hj.out;omega
          go_simp;exact hK.out _ _ (int_i64 rfl (by omega) (by omega)) (Below.refl _ _)
        · have e28:vs 28=(.int .i64 (4 * (j:Int))):=hd 28 (by kernel_rfl)
          simp only [e28] at hK ⊢;clear e28;have g0:(0:Int)≤(j:Int):=by omega
          have g1:(j:Int) < 16:=by have:=Hj.out;omega
          go_simp;exact hK.out _ _ (int_i64 rfl (by omega) (by omega)) (Below.refl _ _)
        · have e26:vs 26=(.slice (some ⟨b,o,none⟩) 64 cap):=hd 26 (by kernel_rfl)
          have e29:vs 29=(.int .i64 (4 * (j:Int)+3)):=hd 29 (by kernel_rfl);simp only [e26,e29] at hK ⊢;clear e26 e29;have g0:(0:Int)≤(j:Int):=by omega
          have g1:(j:Int) < 16:=by have:=Hj.out;omega
          have g2:((4 * (j:Int)+3)).toNat=4 * j+3:=by omega
          have g3:(4 * (j:Int)+3) < 64:=by omega
          have g4:(0:Int)≤(4 * (j:Int)+3):=by omega
          go_simp;exact hK.out _ _ rfl (Below.refl _ _)
        · have e30:vs 30=(.pointer (some ⟨b,o+(4 * j+3),none⟩)):=hd 30 (by kernel_rfl)
          simp only [e30] at hK ⊢;clear e30;have q0:=(hM.cell (p:=⟨b,o+(4 * j+3),none⟩) HLT.out).trans HY3.out;go_simp;exact hK.out _ _ rfl (Below.refl _ _)
        · have e31:vs 31=(.int .u8 y3):=hd 31 (by kernel_rfl)
          simp only [e31] at hK ⊢;clear e31;go_simp;exact hK.out _ _ (int_u32 (by have:=Hy3.out;omega)) (Below.refl _ _)
        · have e25:vs 25=(.int .u32 (bits .or .u32 (bits .or .u32 (y0 * 16777216) (y1 * 65536)) (y2 * 256))):=hd 25 (by kernel_rfl)
          have e32:vs 32=(.int .u32 y3):=hd 32 (by kernel_rfl);simp only [e25,e32] at hK ⊢;clear e25 e32;go_simp;exact hK.out _ _ rfl (Below.refl _ _)
        · have e33:vs 33=(.int .u32 (bits .or .u32 (bits .or .u32 (bits .or .u32 (y0 * 16777216) (y1 * 65536)) (y2 * 256)) y3)):=hd 33 (by kernel_rfl)
          simp only [e33] at hK ⊢;clear e33;go_simp;exact hK.out _ _ (oneW_fact (bits .or .u32 (bits .or .u32 (bits .or .u32 (y0 * 16777216) (y1 * 65536)) (y2 * 256)) y3) _) ((Below.refl _ _).alloc (Nat.le_refl _) _)
      case last =>
        intro vs lo hi w' hM hlo hap hall K' Q' hK;have h0:vs 0=(.slice la j lc):=hall.1;obtain ⟨e1,H1⟩:=hall.2.2.2.2.2.2.2.2.2.2.2.2.2.2.2.2.2.2.2.2.2.2.2.2.2.2.2.2.2.2.2.2.2.2.1;dsimp only;simp only [h0,e1];clear h0 e1 hap;have hown:=own_below HOWN.out hM;obtain ⟨a2,c2,wA,hrun,hown',hgr⟩:=append_one (w:=w') 111 93 (.int .u32 0) 4 Tryz.underlying111 infoWord rfl w.heap.size _ _ _ hown (m:=1) (c:=1) (news:=[w32 (bits .or .u32 (bits .or .u32 (bits .or .u32 (y0 * 16777216) (y1 * 65536)) (y2 * 256)) y3)]) rfl H1.out (by simp [Value.oneCell']) (by have:=Hj.out;omega) (by have:=Hj.out;omega) (by have h1:=hM.size;have h2:=HBJ.out.size;omega);rw [if_pos (by rfl)];refine Lib.wp_append_run _ (.tmp 14) (.tmp 48) 111 111 rfl _ _ (by simp [Act.eval]) (by simp [Act.eval]) _ _ hrun ?_;have HBA:Hid (Below w.heap.size w wA):=(HBJ.out.trans (hM.mono HBJ.out.size)).grown hgr (by have h1:=hM.size;have h2:=HBJ.out.size;omega) (own_block hown);have HOWNA:=hide hown';clear hown hrun hown' hgr;refine hK.out _ _ (fun fuel hfuel=>?_);obtain ⟨f,rfl⟩:∃ f,fuel=f+1:=⟨fuel - 1,by have:1≤fuel:=hfuel;omega⟩;clear hK hM hlo H1 hall;simp only [Act.put,List.setIfInBounds_toArray,List.set_cons_zero,List.set_cons_succ];refine wpAny_ready (rs:=[36]) (by kernel_rfl) (by simp) ?_;refine AllReady.cons rfl (fun K2 hK2=>?_) AllReady.nil;have HK2:=hide hK2;clear hK2;go_simp;refine HK2.out _ _ ?_;clear HK2;refine wpAny_done (by kernel_rfl) ?_ _;have hj:=Hj.out
        go_wp2_with fail
        go_roundw
        case rel =>
          refine ⟨j+1,a2,c2,by show j+1≤16;omega,by go_num,rfl,?_,HBA⟩;unfold Hid
          have e:(List.range (j+1)).map (Dg.wd bs)=(List.range j).map (Dg.wd bs) ++ [bits .or .u32 (bits .or .u32 (bits .or .u32 (y0 * 16777216) (y1 * 65536)) (y2 * 256)) y3]:=by
            rw [List.range_succ,List.map_append,HYE0.out,HYE1.out,HYE2.out,HYE3.out];rfl
          rw [e,List.map_append];exact HOWNA.out
        case measure=>simp [intOf];omega
    · have hj16:j=16:=by have:=Hj16.out;omega
      have HO16:Hid (wr.ownsRow w.heap.size 93 1 (.slice la j lc) j (((Dg.spread bs).take j).map w32)):=by
        have e:(List.range j).map (Dg.wd bs)=(Dg.spread bs).take j:=by
          rw [hj16]
          apply List.ext_getElem?
          intro i;rw [List.getElem?_take]
          split
          · rename_i hi
            rw [List.getElem?_map,List.getElem?_range hi,List.getElem?_eq_getElem (by rw [Dg.spread_length];omega)];have:=Dg.spread_front bs H8.out i hi
            rw [List.getElem?_eq_getElem (by rw [Dg.spread_length];omega)] at this
            simpa using this.symm
          · rw [List.getElem?_eq_none (by simp;omega)]
        unfold Hid;rw [← e];exact HOWN.out
      have HJ16:=hide hj16;clear hj16
      go_wp2_with fail
      generalize decide ((j:Int) < 16)=bt0
      go_loopw [3,5] (fun v i wq=>∃ (j:Nat) (la:Option Addr) (lc:Nat),Hid (16≤j∧j≤64)∧i=.int .i64 j∧v=.slice la j lc∧Hid (wq.ownsRow w.heap.size 93 1 (.slice la j lc) j (((Dg.spread bs).take j).map w32))∧Hid (Below w.heap.size w wq)) (fun _ i _=>64 - (intOf i).toNat)
      case atStart=>exact ⟨j,la,lc,by have:=HJ16.out;show 16≤j∧j≤64;omega,by rw [HJ16.out];rfl,rfl,HO16,HBJ⟩
      case round =>
        rename_i wr0 _
        clear HO16 HBJ HOWN;obtain ⟨j,la,lc,Hj64,rfl,rfl,HOWN,HBJ⟩:=hrel
        by_cases hlt:j < 64
        · have hj16:=Hj64.out.1
          obtain ⟨g,rfl,hgb,hgl,hjc,hcm,hcell⟩:=own_read HOWN.out (by omega)
          have hat:∀ i,i < j→wr.cell? ⟨g,i,none⟩=some (w32 ((Dg.spread bs)[i]?.getD 0)):=fun i hi=>by
            have:=hcell i hi
            rw [List.getElem?_take,if_pos hi] at this;exact this
          obtain ⟨x2,e2⟩:∃ x,x=(Dg.spread bs)[j - 2]?.getD 0:=⟨_,rfl⟩;obtain ⟨x7,e7⟩:∃ x,x=(Dg.spread bs)[j - 7]?.getD 0:=⟨_,rfl⟩;obtain ⟨x15,e15⟩:∃ x,x=(Dg.spread bs)[j - 15]?.getD 0:=⟨_,rfl⟩;obtain ⟨x16,e16⟩:∃ x,x=(Dg.spread bs)[j - 16]?.getD 0:=⟨_,rfl⟩;have c15:wr.cell? ⟨g,j - 15,none⟩=some (.int .u32 x15):=by rw [e15];exact hat _ (by omega)
          have c2:wr.cell? ⟨g,j - 2,none⟩=some (.int .u32 x2):=by rw [e2];exact hat _ (by omega)
          have HX7:Hid (wr.cell? ⟨g,j - 7,none⟩=some (.int .u32 x7)):=by rw [e7];exact hat _ (by omega)
          have HX16:Hid (wr.cell? ⟨g,j - 16,none⟩=some (.int .u32 x16)):=by rw [e16];exact hat _ (by omega)
          have HXE2:=hide e2;have HXE7:=hide e7;have HXE15:=hide e15;have HXE16:=hide e16;have i15:((j:Int) - 15).toNat=j - 15:=by omega
          have i2:((j:Int) - 2).toNat=j - 2:=by omega
          clear e2 e7 e15 e16 hcell hat
          go_upto_region 13 with (go_at_call 129;refine (refTurn_same _ _ _ (by omega) (by omega)).mono ?_;rintro e wr ⟨rfl,rfl⟩)
          have es0:bits .xor .u32 (bits .xor .u32 (Dg.rotr x15 7) (Dg.rotr x15 18)) (x15 / 8)=Dg.s0 x15:=rfl;have es1:bits .xor .u32 (bits .xor .u32 (Dg.rotr x2 17) (Dg.rotr x2 19)) (x2 / 1024)=Dg.s1 x2:=rfl;rw [es0,es1];clear es0 es1 c15 c2 i15 i2;generalize decide ((j:Int) < 64)=bt;have Hj:Hid (16≤j∧j < 64):=⟨hj16,hlt⟩;clear hj16 hlt;refine wp_region_any (by kernel_rfl) ?_
          change wpAny _ _ _ _ _ _ _ wr.drew
          have hb0:Below wr.heap.size wr wr.drew:=(Below.refl _ _).drew;replace HX7:Hid (wr.drew.cell? ⟨g,j - 7,none⟩=some (.int .u32 x7)):=HX7;replace HX16:Hid (wr.drew.cell? ⟨g,j - 16,none⟩=some (.int .u32 x16)):=HX16;replace HOWN:=hide (own_below HOWN.out hb0);replace HBJ:=hide (bthen HBJ.out hb0);have HLTg:Hid (g < wr.drew.heap.size):=hgl;clear hb0 hgl;generalize wr.drew=wq at HX7 HX16 HOWN HBJ HLTg ⊢;refine' wpAny_pivot_at 17 [false] [(fun _ _ v _=>v=(.slice (some ⟨g,0,none⟩) j lc)),(fun _ _ v _=>v=(.int .u32 (Dg.s1 x2))),(fun _ _ v _=>v=(.slice (some ⟨g,0,none⟩) j lc)),(fun _ _ v _=>v=(.int .i64 (j:Int))),(fun _ _ v _=>v=(.int .i64 ((j:Int) - 7))),(fun _ _ v _=>v=(.pointer (some ⟨g,j - 7,none⟩))),(fun _ _ v _=>v=(.int .u32 x7)),(fun _ _ v _=>v=(.int .u32 ((Dg.s1 x2+x7) % 4294967296))),(fun _ _ v _=>v=(.int .u32 (Dg.s0 x15))),(fun _ _ v _=>v=(.int .u32 ((Dg.s1 x2+x7+Dg.s0 x15) % 4294967296))),(fun _ _ v _=>v=(.slice (some ⟨g,0,none⟩) j lc)),(fun _ _ v _=>v=(.int .i64 (j:Int))),(fun _ _ v _=>v=(.int .i64 ((j:Int) - 16))),(fun _ _ v _=>v=(.pointer (some ⟨g,j - 16,none⟩))),(fun _ _ v _=>v=(.int .u32 x16)),(fun _ _ v _=>v=(.int .u32 ((Dg.s1 x2+x7+Dg.s0 x15+x16) % 4294967296))),(OneW ((Dg.s1 x2+x7+Dg.s0 x15+x16) % 4294967296))] rfl (by kernel_rfl) ?hA (by kernel_rfl) (by kernel_rfl) (by kernel_rfl) rfl rfl (by kernel_rfl) (by decide) ?mono ?steps ?last
          case hA =>
            intro vs;simp only [List.take_succ_cons,List.take_zero,puts,Act.put,List.setIfInBounds_toArray,List.set_cons_zero,List.set_cons_succ,Nat.zero_add,Nat.reduceAdd];rfl
          case mono=>exact ⟨mono_eq _,mono_eq _,mono_eq _,mono_eq _,mono_eq _,mono_eq _,mono_eq _,mono_eq _,mono_eq _,mono_eq _,mono_eq _,mono_eq _,mono_eq _,mono_eq _,mono_eq _,mono_eq _,mono_oneW ((Dg.s1 x2+x7+Dg.s0 x15+x16) % 4294967296),trivial⟩
          case steps =>
            intro Q';refine And.intro ?_ <| And.intro ?_ <| And.intro ?_ <| And.intro ?_ <| And.intro ?_ <| And.intro ?_ <| And.intro ?_ <| And.intro ?_ <| And.intro ?_ <| And.intro ?_ <| And.intro ?_ <| And.intro ?_ <| And.intro ?_ <| And.intro ?_ <| And.intro ?_ <| And.intro ?_ <| And.intro ?_ <| trivial
            all_goals
              intro vs lo hi w' hM hd K' hK;dsimp only at hK ⊢;simp only [Act.put,List.setIfInBounds_toArray,List.set_cons_zero,List.set_cons_succ] at hK
            · go_simp
              exact hK.out _ _ rfl (Below.refl _ _)
            · go_simp
              exact hK.out _ _ rfl (Below.refl _ _)
            · go_simp
              exact hK.out _ _ rfl (Below.refl _ _)
            · go_simp
              exact hK.out _ _ rfl (Below.refl _ _)
            · have e3:vs 3=(.int .i64 (j:Int)):=hd 3 (by kernel_rfl)
              simp only [e3] at hK ⊢;clear e3;have g0:(16:Int)≤(j:Int):=by have:=Hj.out;omega
              have g1:(j:Int) < 64:=by have:=Hj.out;omega
              go_simp;exact hK.out _ _ (int_i64 rfl (by omega) (by omega)) (Below.refl _ _)
            · have e2:vs 2=(.slice (some ⟨g,0,none⟩) j lc):=hd 2 (by kernel_rfl)
              have e4:vs 4=(.int .i64 ((j:Int) - 7)):=hd 4 (by kernel_rfl);simp only [e2,e4] at hK ⊢;clear e2 e4;have g0:(16:Int)≤(j:Int):=by have:=Hj.out;omega
              have g1:(j:Int) < 64:=by have:=Hj.out;omega
              have g2:((j:Int) - 7).toNat=j - 7:=by omega
              have g3:(j:Int) - 7 < (j:Int):=by omega
              have g4:(7:Int)≤(j:Int):=by omega
              go_simp;exact hK.out _ _ rfl (Below.refl _ _)
            · have e5:vs 5=(.pointer (some ⟨g,j - 7,none⟩)):=hd 5 (by kernel_rfl)
              simp only [e5] at hK ⊢;clear e5;have q0:=(hM.cell (p:=⟨g,j - 7,none⟩) HLTg.out).trans HX7.out;go_simp;exact hK.out _ _ rfl (Below.refl _ _)
            · have e1:vs 1=(.int .u32 (Dg.s1 x2)):=hd 1 (by kernel_rfl)
              have e6:vs 6=(.int .u32 x7):=hd 6 (by kernel_rfl);simp only [e1,e6] at hK ⊢;clear e1 e6;go_simp;exact hK.out _ _ (int_u32 (by omega)) (Below.refl _ _)
            · go_simp
              exact hK.out _ _ rfl (Below.refl _ _)
            · have e7:vs 7=(.int .u32 ((Dg.s1 x2+x7) % 4294967296)):=hd 7 (by kernel_rfl)
              have e8:vs 8=(.int .u32 (Dg.s0 x15)):=hd 8 (by kernel_rfl);simp only [e7,e8] at hK ⊢;clear e7 e8;go_simp;exact hK.out _ _ (int_u32 (by omega)) (Below.refl _ _)
            · go_simp
              exact hK.out _ _ rfl (Below.refl _ _)
            · go_simp
              exact hK.out _ _ rfl (Below.refl _ _)
            · have e11:vs 11=(.int .i64 (j:Int)):=hd 11 (by kernel_rfl)
              simp only [e11] at hK ⊢;clear e11;have g0:(16:Int)≤(j:Int):=by have:=Hj.out;omega
              have g1:(j:Int) < 64:=by have:=Hj.out;omega
              go_simp;exact hK.out _ _ (int_i64 rfl (by omega) (by omega)) (Below.refl _ _)
            · have e10:vs 10=(.slice (some ⟨g,0,none⟩) j lc):=hd 10 (by kernel_rfl)
              have e12:vs 12=(.int .i64 ((j:Int) - 16)):=hd 12 (by kernel_rfl);simp only [e10,e12] at hK ⊢;clear e10 e12;have g0:(16:Int)≤(j:Int):=by have:=Hj.out;omega
              have g1:(j:Int) < 64:=by have:=Hj.out;omega
              have g2:((j:Int) - 16).toNat=j - 16:=by omega
              have g3:(j:Int) - 16 < (j:Int):=by omega
              have g4:(16:Int)≤(j:Int):=by omega
              go_simp;exact hK.out _ _ rfl (Below.refl _ _)
            · have e13:vs 13=(.pointer (some ⟨g,j - 16,none⟩)):=hd 13 (by kernel_rfl)
              simp only [e13] at hK ⊢;clear e13;have q0:=(hM.cell (p:=⟨g,j - 16,none⟩) HLTg.out).trans HX16.out;go_simp;exact hK.out _ _ rfl (Below.refl _ _)
            · have e9:vs 9=(.int .u32 ((Dg.s1 x2+x7+Dg.s0 x15) % 4294967296)):=hd 9 (by kernel_rfl)
              have e14:vs 14=(.int .u32 x16):=hd 14 (by kernel_rfl);simp only [e9,e14] at hK ⊢;clear e9 e14;go_simp;exact hK.out _ _ (int_u32 (by omega)) (Below.refl _ _)
            · have e15:vs 15=(.int .u32 ((Dg.s1 x2+x7+Dg.s0 x15+x16) % 4294967296)):=hd 15 (by kernel_rfl)
              simp only [e15] at hK ⊢;clear e15;go_simp;exact hK.out _ _ (oneW_fact ((Dg.s1 x2+x7+Dg.s0 x15+x16) % 4294967296) _) ((Below.refl _ _).alloc (Nat.le_refl _) _)
          case last =>
            intro vs lo hi w' hM hlo hap hall K' Q' hK;have h0:vs 0=(.slice (some ⟨g,0,none⟩) j lc):=hall.1;obtain ⟨e1,H1⟩:=hall.2.2.2.2.2.2.2.2.2.2.2.2.2.2.2.2.1;dsimp only;simp only [h0,e1];clear h0 e1 hap;have hown:=own_below HOWN.out hM;obtain ⟨a2,c2,wA,hrun,hown',hgr⟩:=append_one (w:=w') 111 93 (.int .u32 0) 4 Tryz.underlying111 infoWord rfl w.heap.size _ _ _ hown (m:=1) (c:=1) (news:=[w32 ((Dg.s1 x2+x7+Dg.s0 x15+x16) % 4294967296)]) rfl H1.out (by simp [Value.oneCell']) (by have:=Hj.out;omega) (by have:=Hj.out;omega) (by have h1:=hM.size;have h2:=HBJ.out.size;omega);rw [if_pos (by rfl)];refine Lib.wp_append_run _ (.tmp 80) (.tmp 96) 111 111 rfl _ _ (by simp [Act.eval]) (by simp [Act.eval]) _ _ hrun ?_;have HBA:Hid (Below w.heap.size w wA):=(HBJ.out.trans (hM.mono HBJ.out.size)).grown hgr (by have h1:=hM.size;have h2:=HBJ.out.size;omega) (own_block hown);have HOWNA:=hide hown';clear hown hrun hown' hgr;refine hK.out _ _ (fun fuel hfuel=>?_);obtain ⟨f,rfl⟩:∃ f,fuel=f+1:=⟨fuel - 1,by have:1≤fuel:=hfuel;omega⟩;clear hK hM hlo H1 hall;simp only [Act.put,List.setIfInBounds_toArray,List.set_cons_zero,List.set_cons_succ];refine wpAny_ready (rs:=[18]) (by kernel_rfl) (by simp) ?_;refine AllReady.cons rfl (fun K2 hK2=>?_) AllReady.nil;have HK2:=hide hK2;clear hK2;go_simp;refine HK2.out _ _ ?_;clear HK2;refine wpAny_done (by kernel_rfl) ?_ _;have hj:=Hj.out
            go_wp2_with fail
            go_roundw
            case rel =>
              refine ⟨j+1,a2,c2,by show 16≤j+1∧j+1≤64;omega,by go_num,rfl,?_,HBA⟩;unfold Hid;rw [Dg.spread_succ bs j (by omega),Dg.spread_at bs j (by omega) (by omega),List.map_append,← HXE2.out,← HXE7.out,← HXE15.out,← HXE16.out];exact HOWNA.out
            case measure=>simp [intOf];omega
        · have hj64:j=64:=by have:=Hj64.out;omega
          go_wp2_with fail
          go_ret
          subst hj64;have ho:=HOWN.out;rw [List.take_of_length_le (by rw [Dg.spread_length];omega)] at ho;exact ⟨la,lc,rfl,ho,HBJ.out⟩
end Go.Proofs.YtapcmbbhhclepaaGreatDoor.Dig
