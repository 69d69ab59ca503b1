/-
  What this claim takes of the earlier layers' texts: CRefM CRefH CRefW CMathB CMathC.
-/
import Derived.Test.YtapcmbbhhclepaaGreatDoorB12
import Derived.LoopN
import Derived.BigRegion
import Derived.BigQuiet
import Derived.Deep.QuietTactic
set_option linter.unusedVariables false
set_option linter.unusedSimpArgs false
set_option maxRecDepth 100000
namespace Go.Proofs.YtapcmbbhhclepaaGreatDoor
open Go.RowKit
namespace Cn
theorem fold_bound:∀ (ds:List UInt8) (n:Nat),ds.all digit=true→n * 10 ^ ds.length≤ds.foldl (fun n c=>10 * n+(c.toNat - 48)) n∧ds.foldl (fun n c=>10 * n+(c.toNat - 48)) n+1≤(n+1) * 10 ^ ds.length
  | [],n,_=>by simp
  | c :: ds,n,h=>by
    simp only [List.all_cons,Bool.and_eq_true] at h
    have hd:=is_digit h.1
    have ih:=fold_bound ds (10 * n+(c.toNat - 48)) h.2
    rw [List.foldl_cons,List.length_cons,Nat.pow_succ]
    have hpos:0 < 10 ^ ds.length:=Nat.pow_pos (by decide)
    generalize 10 ^ ds.length=T at ih hpos ⊢
    have e1:n * (T * 10)=(10 * n) * T:=by rw [Nat.mul_comm T 10,← Nat.mul_assoc,Nat.mul_comm n 10]
    have e2:(n+1) * (T * 10)=(10 * n+10) * T:=by rw [Nat.mul_comm T 10,← Nat.mul_assoc,Nat.add_mul,Nat.mul_comm n 10]
    rw [e1,e2]
    have h1:(10 * n) * T≤(10 * n+(c.toNat - 48)) * T:=Nat.mul_le_mul_right T (by omega)
    have h2:(10 * n+(c.toNat - 48)+1) * T≤(10 * n+10) * T:=Nat.mul_le_mul_right T (by omega)
    exact ⟨Nat.le_trans h1 ih.1,Nat.le_trans ih.2 h2⟩
theorem numOf_lt {ds:List UInt8} (h:ds.all digit=true):numOf ds < 10 ^ ds.length:=by
  have:=(fold_bound ds 0 h).2
  unfold numOf
  omega
theorem pow16:(10:Nat) ^ 16=10000000000000000:=by decide
theorem numOf_small {ds:List UInt8} (h:ds.all digit=true) (hl:ds.length≤16):numOf ds < 10000000000000000:=by
  have h1:=numOf_lt h
  have h2:(10:Nat) ^ ds.length≤10 ^ 16:=Nat.pow_le_pow_right (by decide) hl
  rw [pow16] at h2
  omega
theorem all_take' {ds:List UInt8} (h:ds.all digit=true) (j:Nat):(ds.take j).all digit=true:=by
  rw [List.all_eq_true] at h ⊢
  exact fun x hx=>h x (List.mem_of_mem_take hx)
end Cn
theorem take_next {u:List UInt8} {p:UInt8→Bool} {j:Nat} (h:j < (u.takeWhile p).length):∃ b t,u.drop j=b :: t∧p b=true∧(u.takeWhile p).take (j+1)=(u.takeWhile p).take j ++ [b]:=by
  obtain ⟨b,t,h1,h2⟩:=take_at h
  refine ⟨b,t,h1,h2,?_⟩
  rw [List.take_succ_eq_append_getElem h]
  have h3:(u.takeWhile p)[j]=u[j]'(Nat.lt_of_lt_of_le h (List.takeWhile_prefix p).length_le):=(List.takeWhile_prefix p).getElem h
  rw [h3]
  have h4:u[j]'(Nat.lt_of_lt_of_le h (List.takeWhile_prefix p).length_le)=b:=by
    have:=congrArg (fun l=>l[0]?) h1
    simp only [List.getElem?_drop,Nat.add_zero,List.getElem?_cons_zero] at this
    rw [List.getElem?_eq_getElem (Nat.lt_of_lt_of_le h (List.takeWhile_prefix p).length_le)] at this
    exact Option.some.inj this
  rw [h4]
def B5 (w:World) (g:Nat) (c0 c1 c2 c3 c4:Value):Prop:=w.heap[g]? = some (.cells #[c0,c1,c2,c3,c4] 27 (0,0))
theorem B5.cells {w:World} {g:Nat} {c0 c1 c2 c3 c4:Value} (h:B5 w g c0 c1 c2 c3 c4):w.cell? ⟨g,0,none⟩=some c0∧w.cell? ⟨g,1,none⟩=some c1∧w.cell? ⟨g,2,none⟩=some c2∧w.cell? ⟨g,3,none⟩=some c3∧w.cell? ⟨g,4,none⟩=some c4:=by
  refine ⟨?_,?_,?_,?_,?_⟩ <;> (rw [Lib.cell_of_heap h];rfl)
theorem B5.free {w:World} {g:Nat} {c0 c1 c2 c3 c4:Value} (h:B5 w g c0 c1 c2 c3 c4) (o:Nat):w.frozen? ⟨g,o,none⟩=false:=Lib.frozen_of_heap h o
theorem b5_new (w:World) (c0 c1 c2 c3 c4:Value) (g:Nat) (hg:g=w.heap.size):B5 (w.alloc (.cells #[c0,c1,c2,c3,c4] 27)) g c0 c1 c2 c3 c4:=by
  subst hg
  show (w.alloc _).heap[w.heap.size]? = _
  simp only [World.alloc,Array.getElem?_push_size]
theorem B5.keep {w w':World} {g:Nat} {c0 c1 c2 c3 c4:Value} (h:B5 w g c0 c1 c2 c3 c4) (k:Below w.heap.size w w'):B5 w' g c0 c1 c2 c3 c4:=by
  unfold B5
  rw [k.block g (Array.getElem?_eq_some_iff.1 h).1]
  exact h
theorem B5.other {w:World} {g g' o:Nat} {c0 c1 c2 c3 c4:Value} (h:B5 w g c0 c1 c2 c3 c4) (v:Value) (hg:g≠g'):B5 (w.setCell ⟨g',o,none⟩ v) g c0 c1 c2 c3 c4:=by
  unfold B5
  simp only [World.setCell]
  rw [Array.getElem?_modify,if_neg (fun e=>hg e.symm)]
  exact h
theorem B5.set0 {w:World} {g:Nat} {c0 c1 c2 c3 c4:Value} (h:B5 w g c0 c1 c2 c3 c4) (v:Value):B5 (w.setCell ⟨g,0,none⟩ v) g v c1 c2 c3 c4:=by
  unfold B5 at h ⊢
  simp [World.setCell,Array.getElem?_modify,h]
theorem B5.set1 {w:World} {g:Nat} {c0 c1 c2 c3 c4:Value} (h:B5 w g c0 c1 c2 c3 c4) (v:Value):B5 (w.setCell ⟨g,1,none⟩ v) g c0 v c2 c3 c4:=by
  unfold B5 at h ⊢
  simp [World.setCell,Array.getElem?_modify,h]
theorem B5.set2 {w:World} {g:Nat} {c0 c1 c2 c3 c4:Value} (h:B5 w g c0 c1 c2 c3 c4) (v:Value):B5 (w.setCell ⟨g,2,none⟩ v) g c0 c1 v c3 c4:=by
  unfold B5 at h ⊢
  simp [World.setCell,Array.getElem?_modify,h]
theorem B5.set3 {w:World} {g:Nat} {c0 c1 c2 c3 c4:Value} (h:B5 w g c0 c1 c2 c3 c4) (v:Value):B5 (w.setCell ⟨g,3,none⟩ v) g c0 c1 c2 v c4:=by
  unfold B5 at h ⊢
  simp [World.setCell,Array.getElem?_modify,h]
theorem B5.set4 {w:World} {g:Nat} {c0 c1 c2 c3 c4:Value} (h:B5 w g c0 c1 c2 c3 c4) (v:Value):B5 (w.setCell ⟨g,4,none⟩ v) g c0 c1 c2 c3 v:=by
  unfold B5 at h ⊢
  simp [World.setCell,Array.getElem?_modify,h]
theorem B5.all {w:World} {g:Nat} {c0 c1 c2 c3 c4:Value} (h:B5 w g c0 c1 c2 c3 c4) (v0 v1 v2 v3 v4:Value) :
    B5 (((((w.setCell ⟨g,0,none⟩ v0).setCell ⟨g,1,none⟩ v1).setCell ⟨g,2,none⟩ v2).setCell ⟨g,3,none⟩ v3).setCell ⟨g,4,none⟩ v4) g v0 v1 v2 v3 v4:=((((h.set0 v0).set1 v1).set2 v2).set3 v3).set4 v4
theorem below5 {w:World} {B g:Nat} (hB:B≤g) (v0 v1 v2 v3 v4:Value):Below B w (((((w.setCell ⟨g,0,none⟩ v0).setCell ⟨g,1,none⟩ v1).setCell ⟨g,2,none⟩ v2).setCell ⟨g,3,none⟩ v3).setCell ⟨g,4,none⟩ v4) :=
  (((((Below.refl B w).setCell (p:=⟨g,0,none⟩) hB v0).setCell (p:=⟨g,1,none⟩) hB v1).setCell (p:=⟨g,2,none⟩) hB v2).setCell (p:=⟨g,3,none⟩) hB v3).setCell (p:=⟨g,4,none⟩) hB v4
theorem B5.past4 {w:World} {g g':Nat} {c0 c1 c2 c3 c4:Value} (h:B5 w g c0 c1 c2 c3 c4) (hg:g≠g') (v0 v1 v2 v3:Value):B5 ((((w.setCell ⟨g',0,none⟩ v0).setCell ⟨g',1,none⟩ v1).setCell ⟨g',2,none⟩ v2).setCell ⟨g',3,none⟩ v3) g c0 c1 c2 c3 c4 :=
  (((h.other v0 hg).other v1 hg).other v2 hg).other v3 hg
theorem B4.past5 {w:World} {g g':Nat} {c0 c1 c2 c3:Value} (h:B4 w g c0 c1 c2 c3) (hg:g≠g') (v0 v1 v2 v3 v4:Value):B4 (((((w.setCell ⟨g',0,none⟩ v0).setCell ⟨g',1,none⟩ v1).setCell ⟨g',2,none⟩ v2).setCell ⟨g',3,none⟩ v3).setCell ⟨g',4,none⟩ v4) g c0 c1 c2 c3 :=
  ((((h.other v0 hg).other v1 hg).other v2 hg).other v3 hg).other v4 hg
abbrev Z5 (w:World) (g:Nat):Prop:=B5 w g (.int .i64 0) (.int .i64 0) (.string ⟨#[]⟩) (.slice none 0 0) (.slice none 0 0)
theorem fin45 {w:World} {B g1 g2:Nat} {a0 a1 a2 a3 b0 b1 b2 b3 b4:Value} (h1:B4 w g1 a0 a1 a2 a3) (h2:B5 w g2 b0 b1 b2 b3 b4) (hg:g1≠g2) (hB1:B≤g1) (hB2:B≤g2) (v0 v1 v2 v3 x0 x1 x2 x3 x4:Value) :
    B4 (((((((((w.setCell ⟨g1,0,none⟩ v0).setCell ⟨g1,1,none⟩ v1).setCell ⟨g1,2,none⟩ v2).setCell ⟨g1,3,none⟩ v3).setCell ⟨g2,0,none⟩ x0).setCell ⟨g2,1,none⟩ x1).setCell ⟨g2,2,none⟩ x2).setCell ⟨g2,3,none⟩ x3).setCell ⟨g2,4,none⟩ x4) g1 v0 v1 v2 v3 ∧
    B5 (((((((((w.setCell ⟨g1,0,none⟩ v0).setCell ⟨g1,1,none⟩ v1).setCell ⟨g1,2,none⟩ v2).setCell ⟨g1,3,none⟩ v3).setCell ⟨g2,0,none⟩ x0).setCell ⟨g2,1,none⟩ x1).setCell ⟨g2,2,none⟩ x2).setCell ⟨g2,3,none⟩ x3).setCell ⟨g2,4,none⟩ x4) g2 x0 x1 x2 x3 x4 ∧
    Below B w (((((((((w.setCell ⟨g1,0,none⟩ v0).setCell ⟨g1,1,none⟩ v1).setCell ⟨g1,2,none⟩ v2).setCell ⟨g1,3,none⟩ v3).setCell ⟨g2,0,none⟩ x0).setCell ⟨g2,1,none⟩ x1).setCell ⟨g2,2,none⟩ x2).setCell ⟨g2,3,none⟩ x3).setCell ⟨g2,4,none⟩ x4) :=
  ⟨(h1.all v0 v1 v2 v3).past5 hg _ _ _ _ _,(h2.past4 (fun e=>hg e.symm) _ _ _ _).all _ _ _ _ _,(below4 hB1 v0 v1 v2 v3).trans (below5 hB2 x0 x1 x2 x3 x4)⟩
end Go.Proofs.YtapcmbbhhclepaaGreatDoor
namespace Go.Proofs.YtapcmbbhhclepaaGreatDoor
open Go.RowKit
set_option maxHeartbeats 2000000 in
theorem num_e_p_byte (s:ByteArray) (a d:Nat) (u v:List UInt8) (w:World) (h:At s a u) (hs:s.size≤4294967296) (hng:(u.head? == some 45)=false) (hv:At s a v) (k:Nat) (hk:(v.takeWhile Cn.digit).length=k) (hk1:k=1) (hl0:a < s.size) (h48:(s[a]'hl0).toNat=48) (hl1:a+k < s.size) (hc1:(s[a+k]'hl1).toNat≠46) (hc2:(s[a+k]'hl1).toNat≠101) (hc3:(s[a+k]'hl1).toNat≠69) (hk16:k≤16) :
    Calls Tryz.prog 98 #[St s a 0 d] w fun e' w'=>(∃ R,e'=.returned R∧(Cn.most < Cn.numOf (v.takeWhile Cn.digit)→R=.tuple #[St s a 13 d,(.agg #[.int .i64 0,.int .i64 0,.string ⟨#[]⟩,.slice none 0 0,.slice none 0 0])])∧(Cn.numOf (v.takeWhile Cn.digit)≤Cn.most→R=.tuple #[St s (a+k) 0 d,.agg #[.int .i64 2,.int .i64 (Cn.numOf (v.takeWhile Cn.digit):Int),.string ⟨#[]⟩,.slice none 0 0,.slice none 0 0]]))∧Below w.heap.size w w':=by
  have rh48:(((s[a]'hl0).toNat:Int) == 48)=true:=by rw [h48];rfl
  have rhc1:(((s[a+k]'hl1).toNat:Int) == 46)=false:=by rw [beq_eq_false_iff_ne];omega
  have rhc2:(((s[a+k]'hl1).toNat:Int) == 101)=false:=by rw [beq_eq_false_iff_ne];omega
  have rhc3:(((s[a+k]'hl1).toNat:Int) == 69)=false:=by rw [beq_eq_false_iff_ne];omega
  subst hk1
  have b0:=bthen (bthen (below_alloc w (.cells #[.string s,.int .i64 (a:Nat),.int .i64 0,.int .i64 (d:Nat)] 65)) (below_alloc _ (.cells #[.string ⟨#[]⟩,.int .i64 0,.int .i64 0,.int .i64 0] 65))) (below_alloc _ (.cells #[.int .i64 0,.int .i64 0,.string ⟨#[]⟩,.slice none 0 0,.slice none 0 0] 27))
  have x0:=((b4_new w (.string s) (.int .i64 (a:Nat)) (.int .i64 0) (.int .i64 (d:Nat)) w.heap.size rfl).keep (below_alloc _ (.cells #[.string ⟨#[]⟩,.int .i64 0,.int .i64 0,.int .i64 0] 65))).keep (below_alloc _ (.cells #[.int .i64 0,.int .i64 0,.string ⟨#[]⟩,.slice none 0 0,.slice none 0 0] 27))
  have y0:=(b4_new (w.alloc (.cells #[.string s,.int .i64 (a:Nat),.int .i64 0,.int .i64 (d:Nat)] 65)) (.string ⟨#[]⟩) (.int .i64 0) (.int .i64 0) (.int .i64 0) (w.heap.size+1) (by simp)).keep (below_alloc _ (.cells #[.int .i64 0,.int .i64 0,.string ⟨#[]⟩,.slice none 0 0,.slice none 0 0] 27))
  have v0:=b5_new ((w.alloc (.cells #[.string s,.int .i64 (a:Nat),.int .i64 0,.int .i64 (d:Nat)] 65)).alloc (.cells #[.string ⟨#[]⟩,.int .i64 0,.int .i64 0,.int .i64 0] 65)) (.int .i64 0) (.int .i64 0) (.string ⟨#[]⟩) (.slice none 0 0) (.slice none 0 0) (w.heap.size+2) (by simp)
  have X0:=hide x0
  have Y0:=hide y0
  have V0:=hide v0
  have H0:=hide b0
  clear x0 y0 v0 b0
  have hpl:=hv.len
  have hkv:=(List.takeWhile_prefix Cn.digit (l:=v)).length_le
  rw [hk] at hkv
  go_enter Tryz.func98,Tryz.ntmps98
  go_wp2_with fail
  refine (is_any s a d 45 u _ h hs false hng).mono ?_
  rintro e w1 ⟨rfl,b1⟩
  have X1:=hide (X0.out.keep b1)
  have Y1:=hide (Y0.out.keep b1)
  have V1:=hide (V0.out.keep b1)
  have H1:=hide (bthen H0.out b1)
  clear b1 X0 Y0 V0 H0
  obtain ⟨x0,x1,x2,x3⟩:=X1.out.cells
  go_wp2_with fail
  refine (digits_any s a _ 0 d v _ hv hs 1 hk).mono ?_
  rintro e w2 ⟨rfl,b2⟩
  have X2:=hide (X1.out.keep b2)
  have Y2:=hide (Y1.out.keep b2)
  have V2:=hide (V1.out.keep b2)
  have H2:=hide (bthen H1.out b2)
  clear b2 X1 Y1 V1 H1 x0 x1 x2 x3
  obtain ⟨x0,x1,x2,x3⟩:=X2.out.cells
  have HAL:Hid ((v.takeWhile Cn.digit).all Cn.digit=true):=hide List.all_takeWhile
  have HTA:Hid (∀ j,j < 1→∃ b t,v.drop j=b :: t∧Cn.digit b=true∧(v.takeWhile Cn.digit).take (j+1)=(v.takeWhile Cn.digit).take j ++ [b]):=hide (fun j hj=>take_next (by rw [hk];exact hj))
  have HAD:Hid (∀ j,j≤1→At s (a+j) (v.drop j)):=hide (fun j hj=>hv.of_drop j (by omega))
  have HAK:Hid ((v.takeWhile Cn.digit).take 1=v.takeWhile Cn.digit):=hide (by rw [← hk,List.take_length])
  obtain ⟨ds,hds⟩:∃ ds,ds=v.takeWhile Cn.digit:=⟨_,rfl⟩
  rw [← hds] at hk HAL HTA HAK
  have HKD:=hide hk
  have HDE:=hide hds
  clear hds hk hng h hv hpl
  go_wp2_with fail
  clear x0 x1 x2 x3
  go_loopg [7,8] 1 (fun g n i wr=>∃ (j:Nat) (N:Int),j+g=1∧n=.int .i64 N∧i=.int .i64 ((a:Int)+(j:Int))∧0≤N∧N≤9999999999999999∧Hid (N=(Cn.numOf (ds.take j):Nat))∧wr=w2)
  case atStart=>exact ⟨0,0,by omega,rfl,by simp,by omega,by omega,rfl,rfl⟩
  case round =>
    obtain ⟨j,N,hj,rfl,rfl,hN0,hN1,HN,rfl⟩:=hrel
    obtain ⟨x0,x1,x2,x3⟩:=X2.out.cells
    by_cases hlt:j < 1
    · obtain ⟨b,t,hdr,hdig,htk⟩:=HTA.out j hlt
      have hA:=HAD.out j (by omega)
      rw [hdr] at hA
      obtain ⟨hlz,hb⟩:=hA.byte
      obtain ⟨d1,d2⟩:=is_digit hdig
      have hsm:=Cn.numOf_small (Cn.all_take' HAL.out (j+1)) (by rw [List.length_take];omega)
      have HN2:Hid (10 * N+((b.toNat:Int) - 48)=(Cn.numOf (ds.take (j+1)):Nat)):=hide (by
        rw [htk,Cn.numOf_snoc,HN.out]
        omega)
      rw [← hb] at d1 d2 HN2
      have hsm2:10 * N+(((s[a+j]'hlz).toNat:Int) - 48)≤9999999999999999:=by rw [HN2.out];omega
      obtain ⟨B,hB⟩:∃ B:Int,B=((s[a+j]'hlz).toNat:Int):=⟨_,rfl⟩
      rw [← hB] at hsm2 HN2
      have hB1:48≤B:=by omega
      have hB2:B≤57:=by omega
      have hBn:=hB.symm
      clear hdr hdig htk hA hb hsm d1 d2 hB
      have hw1:IntKind.u8.wrap (B - 48)=B - 48:=by rw [IntKind.wrap_u8];omega
      have hw2:IntKind.i64.wrap (10 * N)=10 * N:=by rw [IntKind.wrap_i64];omega
      have hw3:IntKind.i64.wrap (B - 48)=B - 48:=by rw [IntKind.wrap_i64];omega
      have hw4:IntKind.i64.wrap (10 * N+(B - 48))=10 * N+(B - 48):=by rw [IntKind.wrap_i64];omega
      go_wp2_with fail
      go_roundg (gk - 1)
      case measure=>omega
      case rel=>exact ⟨j+1,10 * N+(B - 48),by omega,by first | rfl | (congr 1),by first | rfl | (congr 1;omega),by omega,by omega,HN2.out,rfl⟩
    · have hje:j=1:=by omega
      have hNk:N=(Cn.numOf ds:Nat):=by rw [HN.out,hje,HAK.out]
      have HNK:=hide hNk
      have hAf:=hide (HAD.out 1 (Nat.le_refl _))
      cases hje
      clear HN hNk hlt hj HTA HAD HAK HAL
      by_cases hmo:N≤9007199254740991
      · have hwn:IntKind.i64.wrap (-N)=-N:=by rw [IntKind.wrap_i64];omega
        have f1:=X2.out.free 1
        go_upto_region 20 with fail
        have X3:=hide (X2.out.set1 (.int .i64 ((a:Int)+1)))
        have Y3:Hid (Z4 (wr.setCell ⟨w.heap.size,1,none⟩ (.int .i64 ((a:Int)+1))) (w.heap.size+1)):=hide (Y2.out.other _ (by omega))
        have V3:Hid (Z5 (wr.setCell ⟨w.heap.size,1,none⟩ (.int .i64 ((a:Int)+1))) (w.heap.size+2)):=hide (V2.out.other _ (by omega))
        have H3:Hid (Below w.heap.size w (wr.setCell ⟨w.heap.size,1,none⟩ (.int .i64 ((a:Int)+1)))):=hide (H2.out.setCell (p:=⟨w.heap.size,1,none⟩) (Nat.le_refl _) _)
        clear x0 x1 x2 x3 f1 X2 Y2 V2 H2 hwn
        generalize wr.setCell ⟨w.heap.size,1,none⟩ (.int .i64 ((a:Int)+1))=w3 at X3 Y3 V3 H3 ⊢
        refine' wp_region_factsT 3 [(fun _ _ v _=>v=.agg #[.string s,.int .i64 ((a:Int)+1),.int .i64 0,.int .i64 (d:Nat)]),(fun _ _ v _=>v=.int .i64 N),(fun _ _ v _=>v=(.agg #[.int .i64 2,.int .i64 N,.string ⟨#[]⟩,.slice none 0 0,.slice none 0 0]))] (by kernel_rfl) ?hA (by kernel_rfl) rfl ?mono ?steps ?last
        case hA =>
          intro vs
          simp only [puts,Act.put,List.setIfInBounds_toArray,List.set_cons_zero,List.set_cons_succ,Nat.zero_add,Nat.reduceAdd]
          rfl
        case mono=>exact ⟨mono_eq _,mono_eq _,mono_eq _,trivial⟩
        case steps =>
          intro Q'
          refine And.intro ?_ <| And.intro ?_ <| And.intro ?_ <| trivial
          all_goals
            intro vs lo hi w' hM hd K' hK
            dsimp only at hK ⊢
            simp only [Act.put,List.setIfInBounds_toArray,List.set_cons_zero,List.set_cons_succ] at hK
          · obtain ⟨x0,x1,x2,x3⟩:=(X3.out.keep hM).cells
            go_simp
            exact hK.out _ _ rfl (Below.refl _ _)
          · go_simp
            exact hK.out _ _ rfl (Below.refl _ _)
          · have e1:vs 1=.int .i64 N:=hd 1 (by kernel_rfl)
            simp only [e1] at hK ⊢
            clear e1
            go_simp
            refine (refNum_any N w').mono ?_
            rintro e w4 ⟨rfl,b4⟩
            exact hK.out _ _ rfl b4
        case last =>
          intro vs lo hi w' hM hlo hall
          obtain ⟨e0,e1,e2,_⟩:=hall
          simp only [List.drop_succ_cons,List.drop_zero]
          try dsimp only
          simp only [e0,e1,e2]
          clear e0 e1 e2 hlo
          have Y4:=hide (Y3.out.keep hM)
          have V4:=hide (V3.out.keep hM)
          have H4:=hide (bthen H3.out hM)
          clear hM X3 Y3 V3 H3
          obtain ⟨z0,z1,z2,z3⟩:=Y4.out.cells
          obtain ⟨q0,q1,q2,q3,q4⟩:=V4.out.cells
          have hz:=Y4.out.free
          have hz0:=hz 0
          have hz1:=hz 1
          have hz2:=hz 2
          have hz3:=hz 3
          have hv:=V4.out.free
          have hv0:=hv 0
          have hv1:=hv 1
          have hv2:=hv 2
          have hv3:=hv 3
          have hv4:=hv 4
          clear hz hv
          go_wp2_with fail
          obtain ⟨hy,hv,hb⟩:=fin45 Y4.out V4.out (by omega) (B:=w.heap.size) (by omega) (by omega) (.string s) (.int .i64 ((a:Int)+1)) (.int .i64 0) (.int .i64 (d:Nat)) (.int .i64 2) (.int .i64 N) (.string ⟨#[]⟩) (.slice none 0 0) (.slice none 0 0)
          obtain ⟨y0,y1,y2,y3⟩:=hy.cells
          obtain ⟨p0,p1,p2,p3,p4⟩:=hv.cells
          exact bodyPost_ret (v:=.tuple #[.agg #[.string s,.int .i64 ((a:Int)+1),.int .i64 0,.int .i64 (d:Nat)],.agg #[.int .i64 2,.int .i64 N,.string ⟨#[]⟩,.slice none 0 0,.slice none 0 0]]) (by simp [results,Tryz.results98,go_sem,y0,y1,y2,y3,p0,p1,p2,p3,p4]) rfl ⟨⟨_,rfl,fun hh=>absurd hh (by have:=HNK.out;unfold Cn.most;rw [← HDE.out];omega),fun _=>by rw [← HDE.out,← HNK.out];rfl⟩,H4.out.trans hb⟩
      · have hmo2:9007199254740991 < N:=by omega
        clear hmo
        go_wp2_with fail
        refine (fail_any s a 0 13 d _).mono ?_
        rintro e w3 ⟨rfl,b3⟩
        have Y3:=hide (Y2.out.keep b3)
        have V3:=hide (V2.out.keep b3)
        have H3:=hide (bthen H2.out b3)
        clear b3 X2 Y2 V2 H2 x0 x1 x2 x3
        obtain ⟨z0,z1,z2,z3⟩:=Y3.out.cells
        obtain ⟨q0,q1,q2,q3,q4⟩:=V3.out.cells
        have hz:=Y3.out.free
        have hz0:=hz 0
        have hz1:=hz 1
        have hz2:=hz 2
        have hz3:=hz 3
        have hv:=V3.out.free
        have hv0:=hv 0
        have hv1:=hv 1
        have hv2:=hv 2
        have hv3:=hv 3
        have hv4:=hv 4
        clear hz hv
        go_wp2_with fail
        obtain ⟨hy,hv,hb⟩:=fin45 Y3.out V3.out (by omega) (B:=w.heap.size) (by omega) (by omega) (.string s) (.int .i64 (a:Nat)) (.int .i64 13) (.int .i64 (d:Nat)) (.int .i64 0) (.int .i64 0) (.string ⟨#[]⟩) (.slice none 0 0) (.slice none 0 0)
        obtain ⟨y0,y1,y2,y3⟩:=hy.cells
        obtain ⟨p0,p1,p2,p3,p4⟩:=hv.cells
        exact bodyPost_ret (v:=.tuple #[.agg #[.string s,.int .i64 (a:Nat),.int .i64 13,.int .i64 (d:Nat)],.agg #[.int .i64 0,.int .i64 0,.string ⟨#[]⟩,.slice none 0 0,.slice none 0 0]]) (by simp [results,Tryz.results98,go_sem,y0,y1,y2,y3,p0,p1,p2,p3,p4]) rfl ⟨⟨_,rfl,fun _=>rfl,fun hh=>absurd hh (by have:=HNK.out;unfold Cn.most;rw [← HDE.out];omega)⟩,H3.out.trans hb⟩
set_option maxHeartbeats 2000000 in
theorem num_f_n_end (s:ByteArray) (a d:Nat) (u v:List UInt8) (w:World) (h:At s a u) (hs:s.size≤4294967296) (hng:(u.head? == some 45)=true) (hv:At s (a+1) v) (k:Nat) (hk:(v.takeWhile Cn.digit).length=k) (hk1:k=1) (hl0:(a+1) < s.size) (h48:(s[(a+1)]'hl0).toNat≠48) (hl1:¬ (a+1)+k < s.size) (hk16:k≤16) :
    Calls Tryz.prog 98 #[St s a 0 d] w fun e' w'=>(∃ R,e'=.returned R∧(Cn.most < Cn.numOf (v.takeWhile Cn.digit)→R=.tuple #[St s a 13 d,(.agg #[.int .i64 0,.int .i64 0,.string ⟨#[]⟩,.slice none 0 0,.slice none 0 0])])∧(Cn.numOf (v.takeWhile Cn.digit)≤Cn.most→R=.tuple #[St s ((a+1)+k) 0 d,.agg #[.int .i64 2,.int .i64 (-(Cn.numOf (v.takeWhile Cn.digit):Int)),.string ⟨#[]⟩,.slice none 0 0,.slice none 0 0]]))∧Below w.heap.size w w':=by
  have rh48:(((s[(a+1)]'hl0).toNat:Int) == 48)=false:=by rw [beq_eq_false_iff_ne];omega
  subst hk1
  have b0:=bthen (bthen (below_alloc w (.cells #[.string s,.int .i64 (a:Nat),.int .i64 0,.int .i64 (d:Nat)] 65)) (below_alloc _ (.cells #[.string ⟨#[]⟩,.int .i64 0,.int .i64 0,.int .i64 0] 65))) (below_alloc _ (.cells #[.int .i64 0,.int .i64 0,.string ⟨#[]⟩,.slice none 0 0,.slice none 0 0] 27))
  have x0:=((b4_new w (.string s) (.int .i64 (a:Nat)) (.int .i64 0) (.int .i64 (d:Nat)) w.heap.size rfl).keep (below_alloc _ (.cells #[.string ⟨#[]⟩,.int .i64 0,.int .i64 0,.int .i64 0] 65))).keep (below_alloc _ (.cells #[.int .i64 0,.int .i64 0,.string ⟨#[]⟩,.slice none 0 0,.slice none 0 0] 27))
  have y0:=(b4_new (w.alloc (.cells #[.string s,.int .i64 (a:Nat),.int .i64 0,.int .i64 (d:Nat)] 65)) (.string ⟨#[]⟩) (.int .i64 0) (.int .i64 0) (.int .i64 0) (w.heap.size+1) (by simp)).keep (below_alloc _ (.cells #[.int .i64 0,.int .i64 0,.string ⟨#[]⟩,.slice none 0 0,.slice none 0 0] 27))
  have v0:=b5_new ((w.alloc (.cells #[.string s,.int .i64 (a:Nat),.int .i64 0,.int .i64 (d:Nat)] 65)).alloc (.cells #[.string ⟨#[]⟩,.int .i64 0,.int .i64 0,.int .i64 0] 65)) (.int .i64 0) (.int .i64 0) (.string ⟨#[]⟩) (.slice none 0 0) (.slice none 0 0) (w.heap.size+2) (by simp)
  have X0:=hide x0
  have Y0:=hide y0
  have V0:=hide v0
  have H0:=hide b0
  clear x0 y0 v0 b0
  have hpl:=hv.len
  have hkv:=(List.takeWhile_prefix Cn.digit (l:=v)).length_le
  rw [hk] at hkv
  go_enter Tryz.func98,Tryz.ntmps98
  go_wp2_with fail
  refine (is_any s a d 45 u _ h hs true hng).mono ?_
  rintro e w1 ⟨rfl,b1⟩
  have X1:=hide (X0.out.keep b1)
  have Y1:=hide (Y0.out.keep b1)
  have V1:=hide (V0.out.keep b1)
  have H1:=hide (bthen H0.out b1)
  clear b1 X0 Y0 V0 H0
  obtain ⟨x0,x1,x2,x3⟩:=X1.out.cells
  go_wp2_with fail
  refine (digits_any s a _ 0 d v _ hv hs 1 hk).mono ?_
  rintro e w2 ⟨rfl,b2⟩
  have X2:=hide (X1.out.keep b2)
  have Y2:=hide (Y1.out.keep b2)
  have V2:=hide (V1.out.keep b2)
  have H2:=hide (bthen H1.out b2)
  clear b2 X1 Y1 V1 H1 x0 x1 x2 x3
  obtain ⟨x0,x1,x2,x3⟩:=X2.out.cells
  have HAL:Hid ((v.takeWhile Cn.digit).all Cn.digit=true):=hide List.all_takeWhile
  have HTA:Hid (∀ j,j < 1→∃ b t,v.drop j=b :: t∧Cn.digit b=true∧(v.takeWhile Cn.digit).take (j+1)=(v.takeWhile Cn.digit).take j ++ [b]):=hide (fun j hj=>take_next (by rw [hk];exact hj))
  have HAD:Hid (∀ j,j≤1→At s ((a+1)+j) (v.drop j)):=hide (fun j hj=>hv.of_drop j (by omega))
  have HAK:Hid ((v.takeWhile Cn.digit).take 1=v.takeWhile Cn.digit):=hide (by rw [← hk,List.take_length])
  obtain ⟨ds,hds⟩:∃ ds,ds=v.takeWhile Cn.digit:=⟨_,rfl⟩
  rw [← hds] at hk HAL HTA HAK
  have HKD:=hide hk
  have HDE:=hide hds
  clear hds hk hng h hv hpl
  go_wp2_with fail
  clear x0 x1 x2 x3
  go_loopg [7,8] 1 (fun g n i wr=>∃ (j:Nat) (N:Int),j+g=1∧n=.int .i64 N∧i=.int .i64 (((a:Int)+1)+(j:Int))∧0≤N∧N≤9999999999999999∧Hid (N=(Cn.numOf (ds.take j):Nat))∧wr=w2)
  case atStart=>exact ⟨0,0,by omega,rfl,by simp,by omega,by omega,rfl,rfl⟩
  case round =>
    obtain ⟨j,N,hj,rfl,rfl,hN0,hN1,HN,rfl⟩:=hrel
    obtain ⟨x0,x1,x2,x3⟩:=X2.out.cells
    by_cases hlt:j < 1
    · obtain ⟨b,t,hdr,hdig,htk⟩:=HTA.out j hlt
      have hA:=HAD.out j (by omega)
      rw [hdr] at hA
      obtain ⟨hlz,hb⟩:=hA.byte
      obtain ⟨d1,d2⟩:=is_digit hdig
      have hsm:=Cn.numOf_small (Cn.all_take' HAL.out (j+1)) (by rw [List.length_take];omega)
      have HN2:Hid (10 * N+((b.toNat:Int) - 48)=(Cn.numOf (ds.take (j+1)):Nat)):=hide (by
        rw [htk,Cn.numOf_snoc,HN.out]
        omega)
      rw [← hb] at d1 d2 HN2
      have hsm2:10 * N+(((s[(a+1)+j]'hlz).toNat:Int) - 48)≤9999999999999999:=by rw [HN2.out];omega
      obtain ⟨B,hB⟩:∃ B:Int,B=((s[(a+1)+j]'hlz).toNat:Int):=⟨_,rfl⟩
      rw [← hB] at hsm2 HN2
      have hB1:48≤B:=by omega
      have hB2:B≤57:=by omega
      have hBn:=hB.symm
      clear hdr hdig htk hA hb hsm d1 d2 hB
      have hw1:IntKind.u8.wrap (B - 48)=B - 48:=by rw [IntKind.wrap_u8];omega
      have hw2:IntKind.i64.wrap (10 * N)=10 * N:=by rw [IntKind.wrap_i64];omega
      have hw3:IntKind.i64.wrap (B - 48)=B - 48:=by rw [IntKind.wrap_i64];omega
      have hw4:IntKind.i64.wrap (10 * N+(B - 48))=10 * N+(B - 48):=by rw [IntKind.wrap_i64];omega
      go_wp2_with fail
      go_roundg (gk - 1)
      case measure=>omega
      case rel=>exact ⟨j+1,10 * N+(B - 48),by omega,by first | rfl | (congr 1),by first | rfl | (congr 1;omega),by omega,by omega,HN2.out,rfl⟩
    · have hje:j=1:=by omega
      have hNk:N=(Cn.numOf ds:Nat):=by rw [HN.out,hje,HAK.out]
      have HNK:=hide hNk
      have hAf:=hide (HAD.out 1 (Nat.le_refl _))
      cases hje
      clear HN hNk hlt hj HTA HAD HAK HAL
      by_cases hmo:N≤9007199254740991
      · have hwn:IntKind.i64.wrap (-N)=-N:=by rw [IntKind.wrap_i64];omega
        have f1:=X2.out.free 1
        go_upto_region 20 with fail
        have X3:=hide (X2.out.set1 (.int .i64 (((a:Int)+1)+1)))
        have Y3:Hid (Z4 (wr.setCell ⟨w.heap.size,1,none⟩ (.int .i64 (((a:Int)+1)+1))) (w.heap.size+1)):=hide (Y2.out.other _ (by omega))
        have V3:Hid (Z5 (wr.setCell ⟨w.heap.size,1,none⟩ (.int .i64 (((a:Int)+1)+1))) (w.heap.size+2)):=hide (V2.out.other _ (by omega))
        have H3:Hid (Below w.heap.size w (wr.setCell ⟨w.heap.size,1,none⟩ (.int .i64 (((a:Int)+1)+1)))):=hide (H2.out.setCell (p:=⟨w.heap.size,1,none⟩) (Nat.le_refl _) _)
        clear x0 x1 x2 x3 f1 X2 Y2 V2 H2 hwn
        generalize wr.setCell ⟨w.heap.size,1,none⟩ (.int .i64 (((a:Int)+1)+1))=w3 at X3 Y3 V3 H3 ⊢
        refine' wp_region_factsT 3 [(fun _ _ v _=>v=.agg #[.string s,.int .i64 (((a:Int)+1)+1),.int .i64 0,.int .i64 (d:Nat)]),(fun _ _ v _=>v=.int .i64 (-N)),(fun _ _ v _=>v=(.agg #[.int .i64 2,.int .i64 (-N),.string ⟨#[]⟩,.slice none 0 0,.slice none 0 0]))] (by kernel_rfl) ?hA (by kernel_rfl) rfl ?mono ?steps ?last
        case hA =>
          intro vs
          simp only [puts,Act.put,List.setIfInBounds_toArray,List.set_cons_zero,List.set_cons_succ,Nat.zero_add,Nat.reduceAdd]
          rfl
        case mono=>exact ⟨mono_eq _,mono_eq _,mono_eq _,trivial⟩
        case steps =>
          intro Q'
          refine And.intro ?_ <| And.intro ?_ <| And.intro ?_ <| trivial
          all_goals
            intro vs lo hi w' hM hd K' hK
            dsimp only at hK ⊢
            simp only [Act.put,List.setIfInBounds_toArray,List.set_cons_zero,List.set_cons_succ] at hK
          · obtain ⟨x0,x1,x2,x3⟩:=(X3.out.keep hM).cells
            go_simp
            exact hK.out _ _ rfl (Below.refl _ _)
          · go_simp
            exact hK.out _ _ rfl (Below.refl _ _)
          · have e1:vs 1=.int .i64 (-N):=hd 1 (by kernel_rfl)
            simp only [e1] at hK ⊢
            clear e1
            go_simp
            refine (refNum_any (-N) w').mono ?_
            rintro e w4 ⟨rfl,b4⟩
            exact hK.out _ _ rfl b4
        case last =>
          intro vs lo hi w' hM hlo hall
          obtain ⟨e0,e1,e2,_⟩:=hall
          simp only [List.drop_succ_cons,List.drop_zero]
          try dsimp only
          simp only [e0,e1,e2]
          clear e0 e1 e2 hlo
          have Y4:=hide (Y3.out.keep hM)
          have V4:=hide (V3.out.keep hM)
          have H4:=hide (bthen H3.out hM)
          clear hM X3 Y3 V3 H3
          obtain ⟨z0,z1,z2,z3⟩:=Y4.out.cells
          obtain ⟨q0,q1,q2,q3,q4⟩:=V4.out.cells
          have hz:=Y4.out.free
          have hz0:=hz 0
          have hz1:=hz 1
          have hz2:=hz 2
          have hz3:=hz 3
          have hv:=V4.out.free
          have hv0:=hv 0
          have hv1:=hv 1
          have hv2:=hv 2
          have hv3:=hv 3
          have hv4:=hv 4
          clear hz hv
          go_wp2_with fail
          obtain ⟨hy,hv,hb⟩:=fin45 Y4.out V4.out (by omega) (B:=w.heap.size) (by omega) (by omega) (.string s) (.int .i64 (((a:Int)+1)+1)) (.int .i64 0) (.int .i64 (d:Nat)) (.int .i64 2) (.int .i64 (-N)) (.string ⟨#[]⟩) (.slice none 0 0) (.slice none 0 0)
          obtain ⟨y0,y1,y2,y3⟩:=hy.cells
          obtain ⟨p0,p1,p2,p3,p4⟩:=hv.cells
          exact bodyPost_ret (v:=.tuple #[.agg #[.string s,.int .i64 (((a:Int)+1)+1),.int .i64 0,.int .i64 (d:Nat)],.agg #[.int .i64 2,.int .i64 (-N),.string ⟨#[]⟩,.slice none 0 0,.slice none 0 0]]) (by simp [results,Tryz.results98,go_sem,y0,y1,y2,y3,p0,p1,p2,p3,p4]) rfl ⟨⟨_,rfl,fun hh=>absurd hh (by have:=HNK.out;unfold Cn.most;rw [← HDE.out];omega),fun _=>by rw [← HDE.out,← HNK.out];rfl⟩,H4.out.trans hb⟩
      · have hmo2:9007199254740991 < N:=by omega
        clear hmo
        go_wp2_with fail
        refine (fail_any s a 0 13 d _).mono ?_
        rintro e w3 ⟨rfl,b3⟩
        have Y3:=hide (Y2.out.keep b3)
        have V3:=hide (V2.out.keep b3)
        have H3:=hide (bthen H2.out b3)
        clear b3 X2 Y2 V2 H2 x0 x1 x2 x3
        obtain ⟨z0,z1,z2,z3⟩:=Y3.out.cells
        obtain ⟨q0,q1,q2,q3,q4⟩:=V3.out.cells
        have hz:=Y3.out.free
        have hz0:=hz 0
        have hz1:=hz 1
        have hz2:=hz 2
        have hz3:=hz 3
        have hv:=V3.out.free
        have hv0:=hv 0
        have hv1:=hv 1
        have hv2:=hv 2
        have hv3:=hv 3
        have hv4:=hv 4
        clear hz hv
        go_wp2_with fail
        obtain ⟨hy,hv,hb⟩:=fin45 Y3.out V3.out (by omega) (B:=w.heap.size) (by omega) (by omega) (.string s) (.int .i64 (a:Nat)) (.int .i64 13) (.int .i64 (d:Nat)) (.int .i64 0) (.int .i64 0) (.string ⟨#[]⟩) (.slice none 0 0) (.slice none 0 0)
        obtain ⟨y0,y1,y2,y3⟩:=hy.cells
        obtain ⟨p0,p1,p2,p3,p4⟩:=hv.cells
        exact bodyPost_ret (v:=.tuple #[.agg #[.string s,.int .i64 (a:Nat),.int .i64 13,.int .i64 (d:Nat)],.agg #[.int .i64 0,.int .i64 0,.string ⟨#[]⟩,.slice none 0 0,.slice none 0 0]]) (by simp [results,Tryz.results98,go_sem,y0,y1,y2,y3,p0,p1,p2,p3,p4]) rfl ⟨⟨_,rfl,fun _=>rfl,fun hh=>absurd hh (by have:=HNK.out;unfold Cn.most;rw [← HDE.out];omega)⟩,H3.out.trans hb⟩
set_option maxHeartbeats 2000000 in
theorem num_f_p_end (s:ByteArray) (a d:Nat) (u v:List UInt8) (w:World) (h:At s a u) (hs:s.size≤4294967296) (hng:(u.head? == some 45)=false) (hv:At s a v) (k:Nat) (hk:(v.takeWhile Cn.digit).length=k) (hk1:k=1) (hl0:a < s.size) (h48:(s[a]'hl0).toNat≠48) (hl1:¬ a+k < s.size) (hk16:k≤16) :
    Calls Tryz.prog 98 #[St s a 0 d] w fun e' w'=>(∃ R,e'=.returned R∧(Cn.most < Cn.numOf (v.takeWhile Cn.digit)→R=.tuple #[St s a 13 d,(.agg #[.int .i64 0,.int .i64 0,.string ⟨#[]⟩,.slice none 0 0,.slice none 0 0])])∧(Cn.numOf (v.takeWhile Cn.digit)≤Cn.most→R=.tuple #[St s (a+k) 0 d,.agg #[.int .i64 2,.int .i64 (Cn.numOf (v.takeWhile Cn.digit):Int),.string ⟨#[]⟩,.slice none 0 0,.slice none 0 0]]))∧Below w.heap.size w w':=by
  have rh48:(((s[a]'hl0).toNat:Int) == 48)=false:=by rw [beq_eq_false_iff_ne];omega
  subst hk1
  have b0:=bthen (bthen (below_alloc w (.cells #[.string s,.int .i64 (a:Nat),.int .i64 0,.int .i64 (d:Nat)] 65)) (below_alloc _ (.cells #[.string ⟨#[]⟩,.int .i64 0,.int .i64 0,.int .i64 0] 65))) (below_alloc _ (.cells #[.int .i64 0,.int .i64 0,.string ⟨#[]⟩,.slice none 0 0,.slice none 0 0] 27))
  have x0:=((b4_new w (.string s) (.int .i64 (a:Nat)) (.int .i64 0) (.int .i64 (d:Nat)) w.heap.size rfl).keep (below_alloc _ (.cells #[.string ⟨#[]⟩,.int .i64 0,.int .i64 0,.int .i64 0] 65))).keep (below_alloc _ (.cells #[.int .i64 0,.int .i64 0,.string ⟨#[]⟩,.slice none 0 0,.slice none 0 0] 27))
  have y0:=(b4_new (w.alloc (.cells #[.string s,.int .i64 (a:Nat),.int .i64 0,.int .i64 (d:Nat)] 65)) (.string ⟨#[]⟩) (.int .i64 0) (.int .i64 0) (.int .i64 0) (w.heap.size+1) (by simp)).keep (below_alloc _ (.cells #[.int .i64 0,.int .i64 0,.string ⟨#[]⟩,.slice none 0 0,.slice none 0 0] 27))
  have v0:=b5_new ((w.alloc (.cells #[.string s,.int .i64 (a:Nat),.int .i64 0,.int .i64 (d:Nat)] 65)).alloc (.cells #[.string ⟨#[]⟩,.int .i64 0,.int .i64 0,.int .i64 0] 65)) (.int .i64 0) (.int .i64 0) (.string ⟨#[]⟩) (.slice none 0 0) (.slice none 0 0) (w.heap.size+2) (by simp)
  have X0:=hide x0
  have Y0:=hide y0
  have V0:=hide v0
  have H0:=hide b0
  clear x0 y0 v0 b0
  have hpl:=hv.len
  have hkv:=(List.takeWhile_prefix Cn.digit (l:=v)).length_le
  rw [hk] at hkv
  go_enter Tryz.func98,Tryz.ntmps98
  go_wp2_with fail
  refine (is_any s a d 45 u _ h hs false hng).mono ?_
  rintro e w1 ⟨rfl,b1⟩
  have X1:=hide (X0.out.keep b1)
  have Y1:=hide (Y0.out.keep b1)
  have V1:=hide (V0.out.keep b1)
  have H1:=hide (bthen H0.out b1)
  clear b1 X0 Y0 V0 H0
  obtain ⟨x0,x1,x2,x3⟩:=X1.out.cells
  go_wp2_with fail
  refine (digits_any s a _ 0 d v _ hv hs 1 hk).mono ?_
  rintro e w2 ⟨rfl,b2⟩
  have X2:=hide (X1.out.keep b2)
  have Y2:=hide (Y1.out.keep b2)
  have V2:=hide (V1.out.keep b2)
  have H2:=hide (bthen H1.out b2)
  clear b2 X1 Y1 V1 H1 x0 x1 x2 x3
  obtain ⟨x0,x1,x2,x3⟩:=X2.out.cells
  have HAL:Hid ((v.takeWhile Cn.digit).all Cn.digit=true):=hide List.all_takeWhile
  have HTA:Hid (∀ j,j < 1→∃ b t,v.drop j=b :: t∧Cn.digit b=true∧(v.takeWhile Cn.digit).take (j+1)=(v.takeWhile Cn.digit).take j ++ [b]):=hide (fun j hj=>take_next (by rw [hk];exact hj))
  have HAD:Hid (∀ j,j≤1→At s (a+j) (v.drop j)):=hide (fun j hj=>hv.of_drop j (by omega))
  have HAK:Hid ((v.takeWhile Cn.digit).take 1=v.takeWhile Cn.digit):=hide (by rw [← hk,List.take_length])
  obtain ⟨ds,hds⟩:∃ ds,ds=v.takeWhile Cn.digit:=⟨_,rfl⟩
  rw [← hds] at hk HAL HTA HAK
  have HKD:=hide hk
  have HDE:=hide hds
  clear hds hk hng h hv hpl
  go_wp2_with fail
  clear x0 x1 x2 x3
  go_loopg [7,8] 1 (fun g n i wr=>∃ (j:Nat) (N:Int),j+g=1∧n=.int .i64 N∧i=.int .i64 ((a:Int)+(j:Int))∧0≤N∧N≤9999999999999999∧Hid (N=(Cn.numOf (ds.take j):Nat))∧wr=w2)
  case atStart=>exact ⟨0,0,by omega,rfl,by simp,by omega,by omega,rfl,rfl⟩
  case round =>
    obtain ⟨j,N,hj,rfl,rfl,hN0,hN1,HN,rfl⟩:=hrel
    obtain ⟨x0,x1,x2,x3⟩:=X2.out.cells
    by_cases hlt:j < 1
    · obtain ⟨b,t,hdr,hdig,htk⟩:=HTA.out j hlt
      have hA:=HAD.out j (by omega)
      rw [hdr] at hA
      obtain ⟨hlz,hb⟩:=hA.byte
      obtain ⟨d1,d2⟩:=is_digit hdig
      have hsm:=Cn.numOf_small (Cn.all_take' HAL.out (j+1)) (by rw [List.length_take];omega)
      have HN2:Hid (10 * N+((b.toNat:Int) - 48)=(Cn.numOf (ds.take (j+1)):Nat)):=hide (by
        rw [htk,Cn.numOf_snoc,HN.out]
        omega)
      rw [← hb] at d1 d2 HN2
      have hsm2:10 * N+(((s[a+j]'hlz).toNat:Int) - 48)≤9999999999999999:=by rw [HN2.out];omega
      obtain ⟨B,hB⟩:∃ B:Int,B=((s[a+j]'hlz).toNat:Int):=⟨_,rfl⟩
      rw [← hB] at hsm2 HN2
      have hB1:48≤B:=by omega
      have hB2:B≤57:=by omega
      have hBn:=hB.symm
      clear hdr hdig htk hA hb hsm d1 d2 hB
      have hw1:IntKind.u8.wrap (B - 48)=B - 48:=by rw [IntKind.wrap_u8];omega
      have hw2:IntKind.i64.wrap (10 * N)=10 * N:=by rw [IntKind.wrap_i64];omega
      have hw3:IntKind.i64.wrap (B - 48)=B - 48:=by rw [IntKind.wrap_i64];omega
      have hw4:IntKind.i64.wrap (10 * N+(B - 48))=10 * N+(B - 48):=by rw [IntKind.wrap_i64];omega
      go_wp2_with fail
      go_roundg (gk - 1)
      case measure=>omega
      case rel=>exact ⟨j+1,10 * N+(B - 48),by omega,by first | rfl | (congr 1),by first | rfl | (congr 1;omega),by omega,by omega,HN2.out,rfl⟩
    · have hje:j=1:=by omega
      have hNk:N=(Cn.numOf ds:Nat):=by rw [HN.out,hje,HAK.out]
      have HNK:=hide hNk
      have hAf:=hide (HAD.out 1 (Nat.le_refl _))
      cases hje
      clear HN hNk hlt hj HTA HAD HAK HAL
      by_cases hmo:N≤9007199254740991
      · have hwn:IntKind.i64.wrap (-N)=-N:=by rw [IntKind.wrap_i64];omega
        have f1:=X2.out.free 1
        go_upto_region 20 with fail
        have X3:=hide (X2.out.set1 (.int .i64 ((a:Int)+1)))
        have Y3:Hid (Z4 (wr.setCell ⟨w.heap.size,1,none⟩ (.int .i64 ((a:Int)+1))) (w.heap.size+1)):=hide (Y2.out.other _ (by omega))
        have V3:Hid (Z5 (wr.setCell ⟨w.heap.size,1,none⟩ (.int .i64 ((a:Int)+1))) (w.heap.size+2)):=hide (V2.out.other _ (by omega))
        have H3:Hid (Below w.heap.size w (wr.setCell ⟨w.heap.size,1,none⟩ (.int .i64 ((a:Int)+1)))):=hide (H2.out.setCell (p:=⟨w.heap.size,1,none⟩) (Nat.le_refl _) _)
        clear x0 x1 x2 x3 f1 X2 Y2 V2 H2 hwn
        generalize wr.setCell ⟨w.heap.size,1,none⟩ (.int .i64 ((a:Int)+1))=w3 at X3 Y3 V3 H3 ⊢
        refine' wp_region_factsT 3 [(fun _ _ v _=>v=.agg #[.string s,.int .i64 ((a:Int)+1),.int .i64 0,.int .i64 (d:Nat)]),(fun _ _ v _=>v=.int .i64 N),(fun _ _ v _=>v=(.agg #[.int .i64 2,.int .i64 N,.string ⟨#[]⟩,.slice none 0 0,.slice none 0 0]))] (by kernel_rfl) ?hA (by kernel_rfl) rfl ?mono ?steps ?last
        case hA =>
          intro vs
          simp only [puts,Act.put,List.setIfInBounds_toArray,List.set_cons_zero,List.set_cons_succ,Nat.zero_add,Nat.reduceAdd]
          rfl
        case mono=>exact ⟨mono_eq _,mono_eq _,mono_eq _,trivial⟩
        case steps =>
          intro Q'
          refine And.intro ?_ <| And.intro ?_ <| And.intro ?_ <| trivial
          all_goals
            intro vs lo hi w' hM hd K' hK
            dsimp only at hK ⊢
            simp only [Act.put,List.setIfInBounds_toArray,List.set_cons_zero,List.set_cons_succ] at hK
          · obtain ⟨x0,x1,x2,x3⟩:=(X3.out.keep hM).cells
            go_simp
            exact hK.out _ _ rfl (Below.refl _ _)
          · go_simp
            exact hK.out _ _ rfl (Below.refl _ _)
          · have e1:vs 1=.int .i64 N:=hd 1 (by kernel_rfl)
            simp only [e1] at hK ⊢
            clear e1
            go_simp
            refine (refNum_any N w').mono ?_
            rintro e w4 ⟨rfl,b4⟩
            exact hK.out _ _ rfl b4
        case last =>
          intro vs lo hi w' hM hlo hall
          obtain ⟨e0,e1,e2,_⟩:=hall
          simp only [List.drop_succ_cons,List.drop_zero]
          try dsimp only
          simp only [e0,e1,e2]
          clear e0 e1 e2 hlo
          have Y4:=hide (Y3.out.keep hM)
          have V4:=hide (V3.out.keep hM)
          have H4:=hide (bthen H3.out hM)
          clear hM X3 Y3 V3 H3
          obtain ⟨z0,z1,z2,z3⟩:=Y4.out.cells
          obtain ⟨q0,q1,q2,q3,q4⟩:=V4.out.cells
          have hz:=Y4.out.free
          have hz0:=hz 0
          have hz1:=hz 1
          have hz2:=hz 2
          have hz3:=hz 3
          have hv:=V4.out.free
          have hv0:=hv 0
          have hv1:=hv 1
          have hv2:=hv 2
          have hv3:=hv 3
          have hv4:=hv 4
          clear hz hv
          go_wp2_with fail
          obtain ⟨hy,hv,hb⟩:=fin45 Y4.out V4.out (by omega) (B:=w.heap.size) (by omega) (by omega) (.string s) (.int .i64 ((a:Int)+1)) (.int .i64 0) (.int .i64 (d:Nat)) (.int .i64 2) (.int .i64 N) (.string ⟨#[]⟩) (.slice none 0 0) (.slice none 0 0)
          obtain ⟨y0,y1,y2,y3⟩:=hy.cells
          obtain ⟨p0,p1,p2,p3,p4⟩:=hv.cells
          exact bodyPost_ret (v:=.tuple #[.agg #[.string s,.int .i64 ((a:Int)+1),.int .i64 0,.int .i64 (d:Nat)],.agg #[.int .i64 2,.int .i64 N,.string ⟨#[]⟩,.slice none 0 0,.slice none 0 0]]) (by simp [results,Tryz.results98,go_sem,y0,y1,y2,y3,p0,p1,p2,p3,p4]) rfl ⟨⟨_,rfl,fun hh=>absurd hh (by have:=HNK.out;unfold Cn.most;rw [← HDE.out];omega),fun _=>by rw [← HDE.out,← HNK.out];rfl⟩,H4.out.trans hb⟩
      · have hmo2:9007199254740991 < N:=by omega
        clear hmo
        go_wp2_with fail
        refine (fail_any s a 0 13 d _).mono ?_
        rintro e w3 ⟨rfl,b3⟩
        have Y3:=hide (Y2.out.keep b3)
        have V3:=hide (V2.out.keep b3)
        have H3:=hide (bthen H2.out b3)
        clear b3 X2 Y2 V2 H2 x0 x1 x2 x3
        obtain ⟨z0,z1,z2,z3⟩:=Y3.out.cells
        obtain ⟨q0,q1,q2,q3,q4⟩:=V3.out.cells
        have hz:=Y3.out.free
        have hz0:=hz 0
        have hz1:=hz 1
        have hz2:=hz 2
        have hz3:=hz 3
        have hv:=V3.out.free
        have hv0:=hv 0
        have hv1:=hv 1
        have hv2:=hv 2
        have hv3:=hv 3
        have hv4:=hv 4
        clear hz hv
        go_wp2_with fail
        obtain ⟨hy,hv,hb⟩:=fin45 Y3.out V3.out (by omega) (B:=w.heap.size) (by omega) (by omega) (.string s) (.int .i64 (a:Nat)) (.int .i64 13) (.int .i64 (d:Nat)) (.int .i64 0) (.int .i64 0) (.string ⟨#[]⟩) (.slice none 0 0) (.slice none 0 0)
        obtain ⟨y0,y1,y2,y3⟩:=hy.cells
        obtain ⟨p0,p1,p2,p3,p4⟩:=hv.cells
        exact bodyPost_ret (v:=.tuple #[.agg #[.string s,.int .i64 (a:Nat),.int .i64 13,.int .i64 (d:Nat)],.agg #[.int .i64 0,.int .i64 0,.string ⟨#[]⟩,.slice none 0 0,.slice none 0 0]]) (by simp [results,Tryz.results98,go_sem,y0,y1,y2,y3,p0,p1,p2,p3,p4]) rfl ⟨⟨_,rfl,fun _=>rfl,fun hh=>absurd hh (by have:=HNK.out;unfold Cn.most;rw [← HDE.out];omega)⟩,H3.out.trans hb⟩
set_option maxHeartbeats 2000000 in
theorem num_f_p_byte (s:ByteArray) (a d:Nat) (u v:List UInt8) (w:World) (h:At s a u) (hs:s.size≤4294967296) (hng:(u.head? == some 45)=false) (hv:At s a v) (k:Nat) (hk:(v.takeWhile Cn.digit).length=k) (hk1:k=1) (hl0:a < s.size) (h48:(s[a]'hl0).toNat≠48) (hl1:a+k < s.size) (hc1:(s[a+k]'hl1).toNat≠46) (hc2:(s[a+k]'hl1).toNat≠101) (hc3:(s[a+k]'hl1).toNat≠69) (hk16:k≤16) :
    Calls Tryz.prog 98 #[St s a 0 d] w fun e' w'=>(∃ R,e'=.returned R∧(Cn.most < Cn.numOf (v.takeWhile Cn.digit)→R=.tuple #[St s a 13 d,(.agg #[.int .i64 0,.int .i64 0,.string ⟨#[]⟩,.slice none 0 0,.slice none 0 0])])∧(Cn.numOf (v.takeWhile Cn.digit)≤Cn.most→R=.tuple #[St s (a+k) 0 d,.agg #[.int .i64 2,.int .i64 (Cn.numOf (v.takeWhile Cn.digit):Int),.string ⟨#[]⟩,.slice none 0 0,.slice none 0 0]]))∧Below w.heap.size w w':=by
  have rh48:(((s[a]'hl0).toNat:Int) == 48)=false:=by rw [beq_eq_false_iff_ne];omega
  have rhc1:(((s[a+k]'hl1).toNat:Int) == 46)=false:=by rw [beq_eq_false_iff_ne];omega
  have rhc2:(((s[a+k]'hl1).toNat:Int) == 101)=false:=by rw [beq_eq_false_iff_ne];omega
  have rhc3:(((s[a+k]'hl1).toNat:Int) == 69)=false:=by rw [beq_eq_false_iff_ne];omega
  subst hk1
  have b0:=bthen (bthen (below_alloc w (.cells #[.string s,.int .i64 (a:Nat),.int .i64 0,.int .i64 (d:Nat)] 65)) (below_alloc _ (.cells #[.string ⟨#[]⟩,.int .i64 0,.int .i64 0,.int .i64 0] 65))) (below_alloc _ (.cells #[.int .i64 0,.int .i64 0,.string ⟨#[]⟩,.slice none 0 0,.slice none 0 0] 27))
  have x0:=((b4_new w (.string s) (.int .i64 (a:Nat)) (.int .i64 0) (.int .i64 (d:Nat)) w.heap.size rfl).keep (below_alloc _ (.cells #[.string ⟨#[]⟩,.int .i64 0,.int .i64 0,.int .i64 0] 65))).keep (below_alloc _ (.cells #[.int .i64 0,.int .i64 0,.string ⟨#[]⟩,.slice none 0 0,.slice none 0 0] 27))
  have y0:=(b4_new (w.alloc (.cells #[.string s,.int .i64 (a:Nat),.int .i64 0,.int .i64 (d:Nat)] 65)) (.string ⟨#[]⟩) (.int .i64 0) (.int .i64 0) (.int .i64 0) (w.heap.size+1) (by simp)).keep (below_alloc _ (.cells #[.int .i64 0,.int .i64 0,.string ⟨#[]⟩,.slice none 0 0,.slice none 0 0] 27))
  have v0:=b5_new ((w.alloc (.cells #[.string s,.int .i64 (a:Nat),.int .i64 0,.int .i64 (d:Nat)] 65)).alloc (.cells #[.string ⟨#[]⟩,.int .i64 0,.int .i64 0,.int .i64 0] 65)) (.int .i64 0) (.int .i64 0) (.string ⟨#[]⟩) (.slice none 0 0) (.slice none 0 0) (w.heap.size+2) (by simp)
  have X0:=hide x0
  have Y0:=hide y0
  have V0:=hide v0
  have H0:=hide b0
  clear x0 y0 v0 b0
  have hpl:=hv.len
  have hkv:=(List.takeWhile_prefix Cn.digit (l:=v)).length_le
  rw [hk] at hkv
  go_enter Tryz.func98,Tryz.ntmps98
  go_wp2_with fail
  refine (is_any s a d 45 u _ h hs false hng).mono ?_
  rintro e w1 ⟨rfl,b1⟩
  have X1:=hide (X0.out.keep b1)
  have Y1:=hide (Y0.out.keep b1)
  have V1:=hide (V0.out.keep b1)
  have H1:=hide (bthen H0.out b1)
  clear b1 X0 Y0 V0 H0
  obtain ⟨x0,x1,x2,x3⟩:=X1.out.cells
  go_wp2_with fail
  refine (digits_any s a _ 0 d v _ hv hs 1 hk).mono ?_
  rintro e w2 ⟨rfl,b2⟩
  have X2:=hide (X1.out.keep b2)
  have Y2:=hide (Y1.out.keep b2)
  have V2:=hide (V1.out.keep b2)
  have H2:=hide (bthen H1.out b2)
  clear b2 X1 Y1 V1 H1 x0 x1 x2 x3
  obtain ⟨x0,x1,x2,x3⟩:=X2.out.cells
  have HAL:Hid ((v.takeWhile Cn.digit).all Cn.digit=true):=hide List.all_takeWhile
  have HTA:Hid (∀ j,j < 1→∃ b t,v.drop j=b :: t∧Cn.digit b=true∧(v.takeWhile Cn.digit).take (j+1)=(v.takeWhile Cn.digit).take j ++ [b]):=hide (fun j hj=>take_next (by rw [hk];exact hj))
  have HAD:Hid (∀ j,j≤1→At s (a+j) (v.drop j)):=hide (fun j hj=>hv.of_drop j (by omega))
  have HAK:Hid ((v.takeWhile Cn.digit).take 1=v.takeWhile Cn.digit):=hide (by rw [← hk,List.take_length])
  obtain ⟨ds,hds⟩:∃ ds,ds=v.takeWhile Cn.digit:=⟨_,rfl⟩
  rw [← hds] at hk HAL HTA HAK
  have HKD:=hide hk
  have HDE:=hide hds
  clear hds hk hng h hv hpl
  go_wp2_with fail
  clear x0 x1 x2 x3
  go_loopg [7,8] 1 (fun g n i wr=>∃ (j:Nat) (N:Int),j+g=1∧n=.int .i64 N∧i=.int .i64 ((a:Int)+(j:Int))∧0≤N∧N≤9999999999999999∧Hid (N=(Cn.numOf (ds.take j):Nat))∧wr=w2)
  case atStart=>exact ⟨0,0,by omega,rfl,by simp,by omega,by omega,rfl,rfl⟩
  case round =>
    obtain ⟨j,N,hj,rfl,rfl,hN0,hN1,HN,rfl⟩:=hrel
    obtain ⟨x0,x1,x2,x3⟩:=X2.out.cells
    by_cases hlt:j < 1
    · obtain ⟨b,t,hdr,hdig,htk⟩:=HTA.out j hlt
      have hA:=HAD.out j (by omega)
      rw [hdr] at hA
      obtain ⟨hlz,hb⟩:=hA.byte
      obtain ⟨d1,d2⟩:=is_digit hdig
      have hsm:=Cn.numOf_small (Cn.all_take' HAL.out (j+1)) (by rw [List.length_take];omega)
      have HN2:Hid (10 * N+((b.toNat:Int) - 48)=(Cn.numOf (ds.take (j+1)):Nat)):=hide (by
        rw [htk,Cn.numOf_snoc,HN.out]
        omega)
      rw [← hb] at d1 d2 HN2
      have hsm2:10 * N+(((s[a+j]'hlz).toNat:Int) - 48)≤9999999999999999:=by rw [HN2.out];omega
      obtain ⟨B,hB⟩:∃ B:Int,B=((s[a+j]'hlz).toNat:Int):=⟨_,rfl⟩
      rw [← hB] at hsm2 HN2
      have hB1:48≤B:=by omega
      have hB2:B≤57:=by omega
      have hBn:=hB.symm
      clear hdr hdig htk hA hb hsm d1 d2 hB
      have hw1:IntKind.u8.wrap (B - 48)=B - 48:=by rw [IntKind.wrap_u8];omega
      have hw2:IntKind.i64.wrap (10 * N)=10 * N:=by rw [IntKind.wrap_i64];omega
      have hw3:IntKind.i64.wrap (B - 48)=B - 48:=by rw [IntKind.wrap_i64];omega
      have hw4:IntKind.i64.wrap (10 * N+(B - 48))=10 * N+(B - 48):=by rw [IntKind.wrap_i64];omega
      go_wp2_with fail
      go_roundg (gk - 1)
      case measure=>omega
      case rel=>exact ⟨j+1,10 * N+(B - 48),by omega,by first | rfl | (congr 1),by first | rfl | (congr 1;omega),by omega,by omega,HN2.out,rfl⟩
    · have hje:j=1:=by omega
      have hNk:N=(Cn.numOf ds:Nat):=by rw [HN.out,hje,HAK.out]
      have HNK:=hide hNk
      have hAf:=hide (HAD.out 1 (Nat.le_refl _))
      cases hje
      clear HN hNk hlt hj HTA HAD HAK HAL
      by_cases hmo:N≤9007199254740991
      · have hwn:IntKind.i64.wrap (-N)=-N:=by rw [IntKind.wrap_i64];omega
        have f1:=X2.out.free 1
        go_upto_region 20 with fail
        have X3:=hide (X2.out.set1 (.int .i64 ((a:Int)+1)))
        have Y3:Hid (Z4 (wr.setCell ⟨w.heap.size,1,none⟩ (.int .i64 ((a:Int)+1))) (w.heap.size+1)):=hide (Y2.out.other _ (by omega))
        have V3:Hid (Z5 (wr.setCell ⟨w.heap.size,1,none⟩ (.int .i64 ((a:Int)+1))) (w.heap.size+2)):=hide (V2.out.other _ (by omega))
        have H3:Hid (Below w.heap.size w (wr.setCell ⟨w.heap.size,1,none⟩ (.int .i64 ((a:Int)+1)))):=hide (H2.out.setCell (p:=⟨w.heap.size,1,none⟩) (Nat.le_refl _) _)
        clear x0 x1 x2 x3 f1 X2 Y2 V2 H2 hwn
        generalize wr.setCell ⟨w.heap.size,1,none⟩ (.int .i64 ((a:Int)+1))=w3 at X3 Y3 V3 H3 ⊢
        refine' wp_region_factsT 3 [(fun _ _ v _=>v=.agg #[.string s,.int .i64 ((a:Int)+1),.int .i64 0,.int .i64 (d:Nat)]),(fun _ _ v _=>v=.int .i64 N),(fun _ _ v _=>v=(.agg #[.int .i64 2,.int .i64 N,.string ⟨#[]⟩,.slice none 0 0,.slice none 0 0]))] (by kernel_rfl) ?hA (by kernel_rfl) rfl ?mono ?steps ?last
        case hA =>
          intro vs
          simp only [puts,Act.put,List.setIfInBounds_toArray,List.set_cons_zero,List.set_cons_succ,Nat.zero_add,Nat.reduceAdd]
          rfl
        case mono=>exact ⟨mono_eq _,mono_eq _,mono_eq _,trivial⟩
        case steps =>
          intro Q'
          refine And.intro ?_ <| And.intro ?_ <| And.intro ?_ <| trivial
          all_goals
            intro vs lo hi w' hM hd K' hK
            dsimp only at hK ⊢
            simp only [Act.put,List.setIfInBounds_toArray,List.set_cons_zero,List.set_cons_succ] at hK
          · obtain ⟨x0,x1,x2,x3⟩:=(X3.out.keep hM).cells
            go_simp
            exact hK.out _ _ rfl (Below.refl _ _)
          · go_simp
            exact hK.out _ _ rfl (Below.refl _ _)
          · have e1:vs 1=.int .i64 N:=hd 1 (by kernel_rfl)
            simp only [e1] at hK ⊢
            clear e1
            go_simp
            refine (refNum_any N w').mono ?_
            rintro e w4 ⟨rfl,b4⟩
            exact hK.out _ _ rfl b4
        case last =>
          intro vs lo hi w' hM hlo hall
          obtain ⟨e0,e1,e2,_⟩:=hall
          simp only [List.drop_succ_cons,List.drop_zero]
          try dsimp only
          simp only [e0,e1,e2]
          clear e0 e1 e2 hlo
          have Y4:=hide (Y3.out.keep hM)
          have V4:=hide (V3.out.keep hM)
          have H4:=hide (bthen H3.out hM)
          clear hM X3 Y3 V3 H3
          obtain ⟨z0,z1,z2,z3⟩:=Y4.out.cells
          obtain ⟨q0,q1,q2,q3,q4⟩:=V4.out.cells
          have hz:=Y4.out.free
          have hz0:=hz 0
          have hz1:=hz 1
          have hz2:=hz 2
          have hz3:=hz 3
          have hv:=V4.out.free
          have hv0:=hv 0
          have hv1:=hv 1
          have hv2:=hv 2
          have hv3:=hv 3
          have hv4:=hv 4
          clear hz hv
          go_wp2_with fail
          obtain ⟨hy,hv,hb⟩:=fin45 Y4.out V4.out (by omega) (B:=w.heap.size) (by omega) (by omega) (.string s) (.int .i64 ((a:Int)+1)) (.int .i64 0) (.int .i64 (d:Nat)) (.int .i64 2) (.int .i64 N) (.string ⟨#[]⟩) (.slice none 0 0) (.slice none 0 0)
          obtain ⟨y0,y1,y2,y3⟩:=hy.cells
          obtain ⟨p0,p1,p2,p3,p4⟩:=hv.cells
          exact bodyPost_ret (v:=.tuple #[.agg #[.string s,.int .i64 ((a:Int)+1),.int .i64 0,.int .i64 (d:Nat)],.agg #[.int .i64 2,.int .i64 N,.string ⟨#[]⟩,.slice none 0 0,.slice none 0 0]]) (by simp [results,Tryz.results98,go_sem,y0,y1,y2,y3,p0,p1,p2,p3,p4]) rfl ⟨⟨_,rfl,fun hh=>absurd hh (by have:=HNK.out;unfold Cn.most;rw [← HDE.out];omega),fun _=>by rw [← HDE.out,← HNK.out];rfl⟩,H4.out.trans hb⟩
      · have hmo2:9007199254740991 < N:=by omega
        clear hmo
        go_wp2_with fail
        refine (fail_any s a 0 13 d _).mono ?_
        rintro e w3 ⟨rfl,b3⟩
        have Y3:=hide (Y2.out.keep b3)
        have V3:=hide (V2.out.keep b3)
        have H3:=hide (bthen H2.out b3)
        clear b3 X2 Y2 V2 H2 x0 x1 x2 x3
        obtain ⟨z0,z1,z2,z3⟩:=Y3.out.cells
        obtain ⟨q0,q1,q2,q3,q4⟩:=V3.out.cells
        have hz:=Y3.out.free
        have hz0:=hz 0
        have hz1:=hz 1
        have hz2:=hz 2
        have hz3:=hz 3
        have hv:=V3.out.free
        have hv0:=hv 0
        have hv1:=hv 1
        have hv2:=hv 2
        have hv3:=hv 3
        have hv4:=hv 4
        clear hz hv
        go_wp2_with fail
        obtain ⟨hy,hv,hb⟩:=fin45 Y3.out V3.out (by omega) (B:=w.heap.size) (by omega) (by omega) (.string s) (.int .i64 (a:Nat)) (.int .i64 13) (.int .i64 (d:Nat)) (.int .i64 0) (.int .i64 0) (.string ⟨#[]⟩) (.slice none 0 0) (.slice none 0 0)
        obtain ⟨y0,y1,y2,y3⟩:=hy.cells
        obtain ⟨p0,p1,p2,p3,p4⟩:=hv.cells
        exact bodyPost_ret (v:=.tuple #[.agg #[.string s,.int .i64 (a:Nat),.int .i64 13,.int .i64 (d:Nat)],.agg #[.int .i64 0,.int .i64 0,.string ⟨#[]⟩,.slice none 0 0,.slice none 0 0]]) (by simp [results,Tryz.results98,go_sem,y0,y1,y2,y3,p0,p1,p2,p3,p4]) rfl ⟨⟨_,rfl,fun _=>rfl,fun hh=>absurd hh (by have:=HNK.out;unfold Cn.most;rw [← HDE.out];omega)⟩,H3.out.trans hb⟩
end Go.Proofs.YtapcmbbhhclepaaGreatDoor
namespace Go.Proofs.YtapcmbbhhclepaaGreatDoor
open Go.RowKit
theorem B4.drew {w:World} {g:Nat} {c0 c1 c2 c3:Value} (h:B4 w g c0 c1 c2 c3):B4 w.drew g c0 c1 c2 c3:=h
theorem B5.drew {w:World} {g:Nat} {c0 c1 c2 c3 c4:Value} (h:B5 w g c0 c1 c2 c3 c4):B5 w.drew g c0 c1 c2 c3 c4:=h
end Go.Proofs.YtapcmbbhhclepaaGreatDoor
namespace Go.Proofs.YtapcmbbhhclepaaGreatDoor
namespace Cn
theorem digitsN_head (n:Nat) (h:n < 10 ^ 20):∃ c t,digitsN 20 n=c :: t∧digit c=true:=by
  obtain ⟨a1,_,a3,_⟩:=digitsN_spec 20 n h (by decide)
  cases hd:digitsN 20 n with
  | nil=>exact absurd hd a3
  | cons c t =>
    rw [hd] at a1
    simp only [List.all_cons,Bool.and_eq_true] at a1
    exact ⟨c,t,rfl,a1.1⟩
end Cn
end Go.Proofs.YtapcmbbhhclepaaGreatDoor
namespace Go.Proofs.YtapcmbbhhclepaaGreatDoor
namespace Cn
def good (c:UInt8):Prop:=blank c=false∧c≠93∧c≠125
theorem digit_good {c:UInt8} (h:digit c=true):good c:=by
  refine ⟨?_,?_,?_⟩
  · cases hb:blank c with
    | false=>rfl
    | true =>
      exfalso
      unfold blank at hb
      simp only [Bool.or_eq_true,beq_iff_eq] at hb
      rcases hb with ((rfl | rfl) | rfl) | rfl <;> revert h <;> decide
  · rintro rfl
    revert h
    decide
  · rintro rfl
    revert h
    decide
theorem empty_of {t:ByteArray} (h:t.toList.isEmpty=true):t=⟨#[]⟩:=by
  have h1:t.data.toList=[]:=by
    rw [← Lib.toList_data]
    simpa using h
  exact ByteArray.ext (Array.ext' h1)
theorem right_cases {v:V} (hr:V.right v=true) :
    v=V.nul∨(∃ b,v=truth b)∨(∃ n,v=V.numV n∧-(9007199254740991:Int)≤n∧n≤9007199254740991)∨(∃ s,v=V.str s∧V.utf s=true) ∨
    (∃ l,v=listV l∧l.all V.right=true)∨(∃ ks l,v=⟨5,0,⟨#[]⟩,ks,l⟩∧V.rises ks=true∧ks.length=l.length∧l.all V.right=true):=by
  obtain ⟨k,n,t,ks,l⟩:=v
  rw [V.right_mk] at hr
  simp only [Bool.and_eq_true,V.kindOk,decide_eq_true_eq] at hr
  obtain ⟨⟨⟨⟨⟨⟨hk0,hk5⟩,hn⟩,ht⟩,hks⟩,hl⟩,hlast⟩:=hr
  have hk:k=0∨k=1∨k=2∨k=3∨k=4∨k=5:=by omega
  have hte:k≠3→t=⟨#[]⟩:=fun h3=>by
    refine empty_of ?_
    unfold V.textOk at ht
    simpa [h3] using ht
  have hke:k≠5→ks=[]:=fun h5=>by
    unfold V.keysOk at hks
    rw [if_neg h5] at hks
    simpa using hks
  have hle:k≠4→k≠5→l=[]:=fun h4 h5=>by
    simpa [h4,h5] using hlast
  rcases hk with rfl | rfl | rfl | rfl | rfl | rfl
  · left
    have:n=0:=by simpa [V.numOk] using hn
    subst this
    rw [hte (by decide),hke (by decide),hle (by decide) (by decide)]
    rfl
  · right;left
    have:n=0∨n=1:=by simpa [V.numOk] using hn
    rw [hte (by decide),hke (by decide),hle (by decide) (by decide)]
    rcases this with rfl | rfl
    · exact ⟨false,rfl⟩
    · exact ⟨true,rfl⟩
  · right;right;left
    have:-(9007199254740991:Int)≤n∧n≤9007199254740991:=by simpa [V.numOk] using hn
    rw [hte (by decide),hke (by decide),hle (by decide) (by decide)]
    exact ⟨n,rfl,this⟩
  · right;right;right;left
    have:n=0:=by simpa [V.numOk] using hn
    subst this
    rw [hke (by decide),hle (by decide) (by decide)]
    refine ⟨t,rfl,?_⟩
    unfold V.textOk at ht
    simp only [Bool.or_eq_true,Bool.and_eq_true] at ht
    rcases ht with h | h
    · rw [empty_of h]
      decide +kernel
    · exact h.2
  · right;right;right;right;left
    have:n=0:=by simpa [V.numOk] using hn
    subst this
    rw [hte (by decide),hke (by decide)]
    exact ⟨l,rfl,hl⟩
  · right;right;right;right;right
    have:n=0:=by simpa [V.numOk] using hn
    subst this
    rw [hte (by decide)]
    unfold V.keysOk at hks
    rw [if_pos rfl] at hks
    simp only [Bool.and_eq_true,decide_eq_true_eq] at hks
    exact ⟨ks,l,rfl,hks.1,hks.2,hl⟩
theorem print_list (l:List V):print (listV l)=91 :: (joined (l.map print) ++ [93]):=by
  unfold listV
  rw [print]
  rfl
theorem print_obj (ks:List ByteArray) (l:List V):print ⟨5,0,⟨#[]⟩,ks,l⟩=123 :: (joined ((ks.zip (l.map print)).map (fun p=>Gm.quote p.1.data.toList ++ 58 :: p.2)) ++ [125]):=by
  rw [print]
  rfl
theorem print_num (n:Int):print (V.numV n)=digits n:=by
  unfold V.numV
  rw [print]
  rfl
theorem print_str (s:ByteArray):print (V.str s)=Gm.quote s.data.toList:=by
  unfold V.str
  rw [print]
  rfl
theorem print_nul:print V.nul=nullW:=by
  unfold V.nul
  rw [print]
  rfl
theorem print_truth (b:Bool):print (truth b)=if b then trueW else falseW:=by
  unfold truth
  rw [print]
  cases b <;> rfl
theorem print_head {v:V} (hr:V.right v=true):∃ c t,print v=c :: t∧good c:=by
  rcases right_cases hr with rfl | ⟨b,rfl⟩ | ⟨n,rfl,h1,h2⟩ | ⟨s,rfl,_⟩ | ⟨l,rfl,_⟩ | ⟨ks,l,rfl,_⟩
  · exact ⟨110,_,print_nul,by decide,by decide,by decide⟩
  · cases b
    · exact ⟨102,_,print_truth false,by decide,by decide,by decide⟩
    · exact ⟨116,_,print_truth true,by decide,by decide,by decide⟩
  · rw [print_num]
    unfold digits
    have hlt:n.natAbs < 10 ^ 20:=by
      have:(10:Nat) ^ 20=100000000000000000000:=by decide
      omega
    split
    · exact ⟨45,_,rfl,by decide,by decide,by decide⟩
    · obtain ⟨c,t,h,hc⟩:=digitsN_head n.natAbs hlt
      exact ⟨c,t,h,digit_good hc⟩
  · rw [print_str]
    exact ⟨34,_,rfl,by decide,by decide,by decide⟩
  · rw [print_list]
    exact ⟨91,_,rfl,by decide,by decide,by decide⟩
  · rw [print_obj]
    exact ⟨123,_,rfl,by decide,by decide,by decide⟩
end Cn
end Go.Proofs.YtapcmbbhhclepaaGreatDoor
