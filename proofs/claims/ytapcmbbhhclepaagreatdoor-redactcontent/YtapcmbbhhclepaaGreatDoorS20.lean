/-
  What this claim takes of the earlier layers' texts: CRefY CRefZ.
-/
import Derived.Test.YtapcmbbhhclepaaGreatDoorS19
set_option linter.unusedVariables false
set_option linter.unusedSimpArgs false
set_option maxRecDepth 100000
namespace Go.Proofs.YtapcmbbhhclepaaGreatDoor
open Go.RowKit
set_option maxHeartbeats 4000000 in
theorem val_text_yes (s : ByteArray) (a d : Nat) (u : List UInt8) (w : World) (h : At s a u) (hs : s.size ≤ 65536) (H91 : (u.head? == some 91) = false) (H123 : (u.head? == some 123) = false) (H34 : (u.head? == some 34) = true) (tt : List UInt8) (nn : Nat) (hun : Gm.unquote u = some (tt,nn)) :
    Calls Tryz.prog 62 #[St s a 0 d] w fun e' w' => e' = .returned (.tuple #[St s (a + nn) 0 d,.agg #[.int .i64 3,.int .i64 0,.string ⟨tt.toArray⟩,.slice none 0 0,.slice none 0 0]]) ∧ At s (a + nn) (u.drop nn) ∧ Below w.heap.size w w' := by
  have b0 := bthen (bthen (below_alloc w (.cells #[.string s,.int .i64 (a : Nat),.int .i64 0,.int .i64 (d : Nat)] 65)) (below_alloc _ (.cells #[.string ⟨#[]⟩,.int .i64 0,.int .i64 0,.int .i64 0] 65))) (below_alloc _ (.cells #[.int .i64 0,.int .i64 0,.string ⟨#[]⟩,.slice none 0 0,.slice none 0 0] 27))
  have x0 := ((b4_new w (.string s) (.int .i64 (a : Nat)) (.int .i64 0) (.int .i64 (d : Nat)) w.heap.size rfl).keep (below_alloc _ (.cells #[.string ⟨#[]⟩,.int .i64 0,.int .i64 0,.int .i64 0] 65))).keep (below_alloc _ (.cells #[.int .i64 0,.int .i64 0,.string ⟨#[]⟩,.slice none 0 0,.slice none 0 0] 27))
  have y0 := (b4_new (w.alloc (.cells #[.string s,.int .i64 (a : Nat),.int .i64 0,.int .i64 (d : Nat)] 65)) (.string ⟨#[]⟩) (.int .i64 0) (.int .i64 0) (.int .i64 0) (w.heap.size + 1) (by simp)).keep (below_alloc _ (.cells #[.int .i64 0,.int .i64 0,.string ⟨#[]⟩,.slice none 0 0,.slice none 0 0] 27))
  have v0 := b5_new ((w.alloc (.cells #[.string s,.int .i64 (a : Nat),.int .i64 0,.int .i64 (d : Nat)] 65)).alloc (.cells #[.string ⟨#[]⟩,.int .i64 0,.int .i64 0,.int .i64 0] 65)) (.int .i64 0) (.int .i64 0) (.string ⟨#[]⟩) (.slice none 0 0) (.slice none 0 0) (w.heap.size + 2) (by simp)
  have hz0 : w.heap.size + 3 ≤ (((w.alloc (.cells #[.string s,.int .i64 (a : Nat),.int .i64 0,.int .i64 (d : Nat)] 65)).alloc (.cells #[.string ⟨#[]⟩,.int .i64 0,.int .i64 0,.int .i64 0] 65)).alloc (.cells #[.int .i64 0,.int .i64 0,.string ⟨#[]⟩,.slice none 0 0,.slice none 0 0] 27)).heap.size := by simp
  obtain ⟨w0,hw0⟩ : ∃ w0,w0 = (((w.alloc (.cells #[.string s,.int .i64 (a : Nat),.int .i64 0,.int .i64 (d : Nat)] 65)).alloc (.cells #[.string ⟨#[]⟩,.int .i64 0,.int .i64 0,.int .i64 0] 65)).alloc (.cells #[.int .i64 0,.int .i64 0,.string ⟨#[]⟩,.slice none 0 0,.slice none 0 0] 27)) := ⟨_,rfl⟩
  rw [← hw0] at b0 x0 y0 v0 hz0
  have W0 := hide hw0
  have X0 := hide x0
  have Y0 := hide y0
  have U0 := hide v0
  have H0 := hide b0
  have N0 := hide hz0
  clear x0 y0 v0 b0 hz0 hw0
  go_enter Tryz.func62,Tryz.ntmps62
  go_upto_region 1 with fail
  rw [← W0.out]
  clear W0
  obtain ⟨x0,x1,x2,x3⟩ := X0.out.cells
  go_wp2_with fail
  refine (is_any s a d 91 u _ h (by omega) false (by rw [H91])).mono ?_
  rintro e w1 ⟨rfl,b1⟩
  clear x0 x1 x2 x3
  have X1 := hide (X0.out.keep b1)
  have Y1 := hide (Y0.out.keep b1)
  have U1 := hide (U0.out.keep b1)
  have H1 := hide (bthen H0.out b1)
  have N1 := hide (Nat.le_trans N0.out (Below.size b1))
  clear X0 Y0 U0 H0 N0 b1
  obtain ⟨x0,x1,x2,x3⟩ := X1.out.cells
  go_wp2_with fail
  refine (is_any s a d 123 u _ h (by omega) false (by rw [H123])).mono ?_
  rintro e w2 ⟨rfl,b2⟩
  clear x0 x1 x2 x3
  have X2 := hide (X1.out.keep b2)
  have Y2 := hide (Y1.out.keep b2)
  have U2 := hide (U1.out.keep b2)
  have H2 := hide (bthen H1.out b2)
  have N2 := hide (Nat.le_trans N1.out (Below.size b2))
  clear X1 Y1 U1 H1 N1 b2
  obtain ⟨x0,x1,x2,x3⟩ := X2.out.cells
  go_wp2_with fail
  refine (is_any s a d 34 u _ h (by omega) true (by rw [H34])).mono ?_
  rintro e w3 ⟨rfl,b3⟩
  clear x0 x1 x2 x3
  have X3 := hide (X2.out.keep b3)
  have Y3 := hide (Y2.out.keep b3)
  have U3 := hide (U2.out.keep b3)
  have H3 := hide (bthen H2.out b3)
  have N3 := hide (Nat.le_trans N2.out (Below.size b3))
  clear X2 Y2 U2 H2 N2 b3
  obtain ⟨x0,x1,x2,x3⟩ := X3.out.cells
  go_wp2_with fail
  refine (str_yes s a d u tt nn _ h (by omega) hun).mono ?_
  rintro e w4 ⟨rfl,hA,b4⟩
  clear x0 x1 x2 x3
  have X4 := hide (X3.out.keep b4)
  have Y4 := hide (Y3.out.keep b4)
  have U4 := hide (U3.out.keep b4)
  have H4 := hide (bthen H3.out b4)
  have N4 := hide (Nat.le_trans N3.out (Below.size b4))
  clear X3 Y3 U3 H3 N3 b4
  go_upto_region 15 with fail
  have ba := below_alloc w4 (.cells #[.string s,.int .i64 ((a : Int) + (nn : Int)),.int .i64 0,.int .i64 (d : Nat)] 65)
  have S45 := hide (b4_new w4 (.string s) (.int .i64 ((a : Int) + (nn : Int))) (.int .i64 0) (.int .i64 (d : Nat)) w4.heap.size rfl)
  have X45 := hide (X4.out.keep ba)
  have Y45 := hide (Y4.out.keep ba)
  have U45 := hide (U4.out.keep ba)
  have H45 := hide (bthen H4.out ba)
  have N45 := hide (Nat.le_trans N4.out (Below.size ba))
  clear X4 Y4 U4 H4 N4 ba
  obtain ⟨g9,hg9⟩ : ∃ g9,g9 = w4.heap.size := ⟨_,rfl⟩
  generalize w4.alloc (.cells #[.string s,.int .i64 ((a : Int) + (nn : Int)),.int .i64 0,.int .i64 (d : Nat)] 65) = w45 at X45 Y45 U45 H45 N45 S45 ⊢
  rw [← hg9] at S45 ⊢
  clear hg9
  obtain ⟨KEY,hKEY⟩ : ∃ KEY : ByteArray,KEY = ⟨tt.toArray⟩ := ⟨_,rfl⟩
  rw [← hKEY]
  have HKE := hide hKEY
  clear hKEY
  refine' wp_region_factsT 3 [(fun _ _ v _ => v = .agg #[.string s,.int .i64 ((a : Int) + (nn : Int)),.int .i64 0,.int .i64 (d : Nat)]),(fun _ _ v _ => v = .string KEY),(fun _ _ v _ => v = .agg #[.int .i64 3,.int .i64 0,.string KEY,.slice none 0 0,.slice none 0 0])] (by kernel_rfl) ?hA (by kernel_rfl) rfl ?mono ?steps ?last
  case hA =>
    intro vs
    simp only [puts,Act.put,List.setIfInBounds_toArray,List.set_cons_zero,List.set_cons_succ,Nat.zero_add,Nat.reduceAdd]
    rfl
  case mono => exact ⟨mono_eq _,mono_eq _,mono_eq _,trivial⟩
  case steps =>
    intro Q'
    refine And.intro ?_ ?_
    · intro vs lo hi w' hM hd K' hK
      dsimp only at hK ⊢
      simp only [Act.put,List.setIfInBounds_toArray,List.set_cons_zero,List.set_cons_succ] at hK
      obtain ⟨x0,x1,x2,x3⟩ := (S45.out.keep hM).cells
      go_simp
      exact hK.out _ _ rfl (Below.refl _ _)
    refine And.intro ?_ ?_
    · intro vs lo hi w' hM hd K' hK
      dsimp only at hK ⊢
      simp only [Act.put,List.setIfInBounds_toArray,List.set_cons_zero,List.set_cons_succ] at hK
      go_simp
      exact hK.out _ _ rfl (Below.refl _ _)
    refine And.intro ?_ ?_
    · intro vs lo hi w' hM hd K' hK
      dsimp only at hK ⊢
      simp only [Act.put,List.setIfInBounds_toArray,List.set_cons_zero,List.set_cons_succ] at hK
      have e1 : vs 1 = .string KEY := hd 1 (by kernel_rfl)
      simp only [e1] at hK ⊢
      clear e1
      go_simp
      refine (refStr_any KEY w').mono ?_
      rintro e w9 ⟨rfl,b9⟩
      exact hK.out _ _ rfl b9
    exact trivial
  case last =>
    intro vs lo hi w' hM hlo hall
    obtain ⟨e0,e1,e2,_⟩ := hall
    simp only [List.drop_succ_cons,List.drop_zero]
    try dsimp only
    simp only [e0,e1,e2]
    clear e0 e1 e2 hlo
    have Y46 := hide (Y45.out.keep hM)
    have U46 := hide (U45.out.keep hM)
    have H46 := hide (bthen H45.out hM)
    clear hM Y45 U45 H45 S45 X45
    obtain ⟨z0,z1,z2,z3⟩ := Y46.out.cells
    obtain ⟨q0,q1,q2,q3,q4⟩ := U46.out.cells
    have fY := Y46.out.free
    have fY0 := fY 0
    have fY1 := fY 1
    have fY2 := fY 2
    have fY3 := fY 3
    clear fY
    have fU := U46.out.free
    have fU0 := fU 0
    have fU1 := fU 1
    have fU2 := fU 2
    have fU3 := fU 3
    have fU4 := fU 4
    clear fU
    go_wp2_with fail
    obtain ⟨hy,hu,hb⟩ := fin45 Y46.out U46.out (by omega) (B := w.heap.size) (by omega) (by omega) (.string s) (.int .i64 ((a : Int) + (nn : Int))) (.int .i64 0) (.int .i64 (d : Nat)) (.int .i64 3) (.int .i64 0) (.string KEY) (.slice none 0 0) (.slice none 0 0)
    clear z0 z1 z2 z3 q0 q1 q2 q3 q4
    obtain ⟨y0,y1,y2,y3⟩ := hy.cells
    obtain ⟨p0,p1,p2,p3,p4⟩ := hu.cells
    have hbx := H46.out.trans hb
    refine bodyPost_ret (v := .tuple #[.agg #[.string s,.int .i64 ((a : Int) + (nn : Int)),.int .i64 0,.int .i64 (d : Nat)],.agg #[.int .i64 3,.int .i64 0,.string KEY,.slice none 0 0,.slice none 0 0]]) (by simp [results,Tryz.results62,go_sem,y0,y1,y2,y3,p0,p1,p2,p3,p4]) rfl ?_
    exact ⟨by first | (rw [HKE.out]; done) | (rw [HKE.out]; rfl),hA,hbx⟩
end Go.Proofs.YtapcmbbhhclepaaGreatDoor
namespace Go.Proofs.YtapcmbbhhclepaaGreatDoor
open Go.RowKit
theorem keepsB (w : World) (g : Nat) (v0 v1 v2 v3 : Value) {P : Nat → Prop} (h : ∀ b,P b → b ≠ g) : Keeps P w ((((w.setCell ⟨g,0,none⟩ v0).setCell ⟨g,1,none⟩ v1).setCell ⟨g,2,none⟩ v2).setCell ⟨g,3,none⟩ v3) := fun b hb _ => by
  have hne : ∀ o : Nat,b ≠ (⟨g,o,none⟩ : Addr).block := fun o => h b hb
  rw [Below.heap_setCell _ _ _ _ (hne 3),Below.heap_setCell _ _ _ _ (hne 2),Below.heap_setCell _ _ _ _ (hne 1),Below.heap_setCell _ _ _ _ (hne 0)]
theorem keepsV (w : World) (g : Nat) {v0 v1 v2 v3 v4 : Value} {P : Nat → Prop} (h : ∀ b,P b → b ≠ g) : Keeps P w (((((w.setCell ⟨g,0,none⟩ v0).setCell ⟨g,1,none⟩ v1).setCell ⟨g,2,none⟩ v2).setCell ⟨g,3,none⟩ v3).setCell ⟨g,4,none⟩ v4) := fun b hb _ => by
  have hne : ∀ o : Nat,b ≠ (⟨g,o,none⟩ : Addr).block := fun o => h b hb
  rw [Below.heap_setCell _ _ _ _ (hne 4),Below.heap_setCell _ _ _ _ (hne 3),Below.heap_setCell _ _ _ _ (hne 2),Below.heap_setCell _ _ _ _ (hne 1),Below.heap_setCell _ _ _ _ (hne 0)]
end Go.Proofs.YtapcmbbhhclepaaGreatDoor
