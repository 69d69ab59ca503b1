/-
  THE WALK of the document's words of a block.
-/
import Derived.Test.YtfcbooagedjkfaaDoorDRefA
import Derived.Test.YtfcbooagedjkfaaDoorDRefM
import Derived.Test.YtfcbooagedjkfaaDoorDPivot
import Derived.Deep.DeepCutAuto
import Derived.Deep.CutBlock
set_option linter.unusedVariables false
set_option linter.unusedSimpArgs false
namespace Go.Proofs.YtfcbooagedjkfaaDoor
open Go.RowKit

/-- a row of one word just made -/
def OneW (x : Int) : Fact := fun lo hi v w => v = .slice (some ⟨lo, 0, none⟩) 1 1 ∧ Hid (∀ j u, [w32 x][j]? = some u → w.cell? ⟨lo, j, none⟩ = some u)
theorem mono_oneW (x : Int) : Mono (OneW x) := by
  rintro lo hi v w w' ⟨rfl, h⟩ b
  exact ⟨rfl, fun j u hu => (b.cell (p := ⟨lo, j, none⟩) (block_lt_of_cell (h.out j u hu))).trans (h.out j u hu)⟩
theorem oneW_fact (x : Int) (w : World) : OneW x w.heap.size (w.alloc (.cells #[.int .u32 x] 49)).heap.size (.slice (some ⟨w.heap.size, 0, none⟩) 1 1) (w.alloc (.cells #[.int .u32 x] 49)) :=
  ⟨rfl, one_cell w (.int .u32 x) 49⟩
/-- a row of words of the call's own, read -/
theorem own_read {w : World} {base n c : Nat} {a : Option Addr} {l : List Int} (h : w.ownsRow base 49 1 (.slice a n c) n (l.map w32)) (hn : 0 < n) : ∃ g, a = some ⟨g, 0, none⟩ ∧ base ≤ g ∧ g < w.heap.size ∧ n ≤ c ∧ c ≤ maxLen ∧ ∀ i, i < n → w.cell? ⟨g, i, none⟩ = some (w32 (l[i]?.getD 0)) := by
  obtain ⟨h1, h2⟩ := h
  have hlen : l.length = n := by simpa using h1
  rcases h2 with ⟨h2, h3⟩ | ⟨g', cap, cur, hv, hg, hh, hnc, hm, hs, ht⟩
  · omega
  · simp only [Value.slice.injEq] at hv
    obtain ⟨rfl, _, rfl⟩ := hv
    refine ⟨g', rfl, hg, (Array.getElem?_eq_some_iff.1 hh).1, hnc, hm, fun i hi => ?_⟩
    rw [cell_of_row w g' i cur 49 _ hh]
    have e : (cur.toList.take (n * 1))[i]? = (l.map w32)[i]? := by rw [ht]
    rw [List.getElem?_take, if_pos (by omega), Array.getElem?_toList, List.getElem?_map, List.getElem?_eq_getElem (by omega)] at e
    rw [e, List.getElem?_eq_getElem (by omega)]
    rfl

set_option maxRecDepth 100000 in
set_option maxHeartbeats 2000000 in
theorem refWords_any (b o cap : Nat) (bs : List Int) (w : World) (hl : bs.length = 64) (hcap : 64 ≤ cap) (hr : Rd w b o bs) (h8 : Dg.B8 bs) :
    Calls Tryd.prog 49 #[.slice (some ⟨b, o, none⟩) 64 cap] w fun e w' => ∃ a c, e = .returned (.slice a 64 c) ∧ w'.ownsRow w.heap.size 49 1 (.slice a 64 c) 64 ((Dg.spread bs).map w32) ∧ Below w.heap.size w w' := by
  have HL := hide hl
  have HR := hide hr
  have H8 := hide h8
  have HLt : Hid (b < w.heap.size) := hr.lt (by omega)
  clear hl hr h8
  go_enter Tryd.func49, Tryd.ntmps49
  go_wp2_with fail
  go_loopw [3, 4] (fun v i wr => ∃ (j : Nat) (la : Option Addr) (lc : Nat), Hid (j ≤ 16) ∧ i = .int .i64 j ∧ v = .slice la j lc ∧ Hid (wr.ownsRow w.heap.size 49 1 (.slice la j lc) j (((List.range j).map (Dg.wd bs)).map w32)) ∧ Hid (Below w.heap.size w wr)) (fun _ i _ => 16 - (intOf i).toNat)
  case atStart => exact ⟨0, none, 0, Nat.zero_le _, rfl, rfl, World.ownsRow_nil .., Below.refl _ _⟩
  case round =>
    obtain ⟨j, la, lc, Hj16, rfl, rfl, HOWN, HBJ⟩ := hrel
    by_cases hlt : j < 16
    · have hR := HR.out.below HBJ.out
      obtain ⟨y0, e0⟩ : ∃ y, y = bs[4 * j]?.getD 0 := ⟨_, rfl⟩
      obtain ⟨y1, e1⟩ : ∃ y, y = bs[4 * j + 1]?.getD 0 := ⟨_, rfl⟩
      obtain ⟨y2, e2⟩ : ∃ y, y = bs[4 * j + 2]?.getD 0 := ⟨_, rfl⟩
      obtain ⟨y3, e3⟩ : ∃ y, y = bs[4 * j + 3]?.getD 0 := ⟨_, rfl⟩
      have HY0 : Hid (wr.cell? ⟨b, o + (4 * j), none⟩ = some (.int .u8 y0)) := by rw [e0]; exact hR (4 * j) (by rw [HL.out]; omega)
      have HY1 : Hid (wr.cell? ⟨b, o + (4 * j + 1), none⟩ = some (.int .u8 y1)) := by rw [e1]; exact hR (4 * j + 1) (by rw [HL.out]; omega)
      have HY2 : Hid (wr.cell? ⟨b, o + (4 * j + 2), none⟩ = some (.int .u8 y2)) := by rw [e2]; exact hR (4 * j + 2) (by rw [HL.out]; omega)
      have HY3 : Hid (wr.cell? ⟨b, o + (4 * j + 3), none⟩ = some (.int .u8 y3)) := by rw [e3]; exact hR (4 * j + 3) (by rw [HL.out]; omega)
      have Hy0 : Hid (0 ≤ y0 ∧ y0 ≤ 255) := by rw [e0]; exact H8.out _
      have Hy1 : Hid (0 ≤ y1 ∧ y1 ≤ 255) := by rw [e1]; exact H8.out _
      have Hy2 : Hid (0 ≤ y2 ∧ y2 ≤ 255) := by rw [e2]; exact H8.out _
      have Hy3 : Hid (0 ≤ y3 ∧ y3 ≤ 255) := by rw [e3]; exact H8.out _
      have HYE0 := hide e0
      have HYE1 := hide e1
      have HYE2 := hide e2
      have HYE3 := hide e3
      clear e0 e1 e2 e3 hR
      go_upto_region 5 with fail
      generalize decide ((j : Int) < 16) = bt
      have Hj := hide hlt
      clear hlt
      refine wp_region_any (by kernel_rfl) ?_
      change wpAny _ _ _ _ _ _ _ wr.drew
      have hb0 : Below wr.heap.size wr wr.drew := (Below.refl _ _).drew
      replace HY0 : Hid (wr.drew.cell? ⟨b, o + (4 * j), none⟩ = some (.int .u8 y0)) := HY0
      replace HY1 : Hid (wr.drew.cell? ⟨b, o + (4 * j + 1), none⟩ = some (.int .u8 y1)) := HY1
      replace HY2 : Hid (wr.drew.cell? ⟨b, o + (4 * j + 2), none⟩ = some (.int .u8 y2)) := HY2
      replace HY3 : Hid (wr.drew.cell? ⟨b, o + (4 * j + 3), none⟩ = some (.int .u8 y3)) := HY3
      replace HOWN := hide (own_below HOWN.out hb0)
      replace HBJ := hide (bthen HBJ.out hb0)
      clear hb0
      generalize wr.drew = wq at HY0 HY1 HY2 HY3 HOWN HBJ ⊢
      have HLT : Hid (b < wq.heap.size) := Nat.lt_of_lt_of_le HLt.out HBJ.out.size
      refine' wpAny_pivot_at 35 [false] [(fun _ _ v _ => v = (.slice la j lc)), (fun _ _ v _ => v = (.slice (some ⟨b, o, none⟩) 64 cap)), (fun _ _ v _ => v = (.int .i64 (j : Int))), (fun _ _ v _ => v = (.int .i64 (4 * (j : Int)))), (fun _ _ v _ => v = (.pointer (some ⟨b, o + (4 * j), none⟩))), (fun _ _ v _ => v = (.int .u8 y0)), (fun _ _ v _ => v = (.int .u32 y0)), (fun _ _ v _ => v = (.int .u32 (y0 * 16777216))), (fun _ _ v _ => v = (.slice (some ⟨b, o, none⟩) 64 cap)), (fun _ _ v _ => v = (.int .i64 (j : Int))), (fun _ _ v _ => v = (.int .i64 (4 * (j : Int)))), (fun _ _ v _ => v = (.int .i64 (4 * (j : Int) + 1))), (fun _ _ v _ => v = (.pointer (some ⟨b, o + (4 * j + 1), none⟩))), (fun _ _ v _ => v = (.int .u8 y1)), (fun _ _ v _ => v = (.int .u32 y1)), (fun _ _ v _ => v = (.int .u32 (y1 * 65536))), (fun _ _ v _ => v = (.int .u32 (bits .or .u32 (y0 * 16777216) (y1 * 65536)))), (fun _ _ v _ => v = (.slice (some ⟨b, o, none⟩) 64 cap)), (fun _ _ v _ => v = (.int .i64 (j : Int))), (fun _ _ v _ => v = (.int .i64 (4 * (j : Int)))), (fun _ _ v _ => v = (.int .i64 (4 * (j : Int) + 2))), (fun _ _ v _ => v = (.pointer (some ⟨b, o + (4 * j + 2), none⟩))), (fun _ _ v _ => v = (.int .u8 y2)), (fun _ _ v _ => v = (.int .u32 y2)), (fun _ _ v _ => v = (.int .u32 (y2 * 256))), (fun _ _ v _ => v = (.int .u32 (bits .or .u32 (bits .or .u32 (y0 * 16777216) (y1 * 65536)) (y2 * 256)))), (fun _ _ v _ => v = (.slice (some ⟨b, o, none⟩) 64 cap)), (fun _ _ v _ => v = (.int .i64 (j : Int))), (fun _ _ v _ => v = (.int .i64 (4 * (j : Int)))), (fun _ _ v _ => v = (.int .i64 (4 * (j : Int) + 3))), (fun _ _ v _ => v = (.pointer (some ⟨b, o + (4 * j + 3), none⟩))), (fun _ _ v _ => v = (.int .u8 y3)), (fun _ _ v _ => v = (.int .u32 y3)), (fun _ _ v _ => v = (.int .u32 (bits .or .u32 (bits .or .u32 (bits .or .u32 (y0 * 16777216) (y1 * 65536)) (y2 * 256)) y3))), (OneW (bits .or .u32 (bits .or .u32 (bits .or .u32 (y0 * 16777216) (y1 * 65536)) (y2 * 256)) y3))] rfl (by kernel_rfl) ?hA (by kernel_rfl) (by kernel_rfl) (by kernel_rfl) rfl rfl (by kernel_rfl) (by decide) ?mono ?steps ?last
      case hA =>
        intro vs
        simp only [List.take_succ_cons, List.take_zero, puts, Act.put, List.setIfInBounds_toArray, List.set_cons_zero, List.set_cons_succ, Nat.zero_add, Nat.reduceAdd]
        rfl
      case mono => exact ⟨mono_eq _, mono_eq _, mono_eq _, mono_eq _, mono_eq _, mono_eq _, mono_eq _, mono_eq _, mono_eq _, mono_eq _, mono_eq _, mono_eq _, mono_eq _, mono_eq _, mono_eq _, mono_eq _, mono_eq _, mono_eq _, mono_eq _, mono_eq _, mono_eq _, mono_eq _, mono_eq _, mono_eq _, mono_eq _, mono_eq _, mono_eq _, mono_eq _, mono_eq _, mono_eq _, mono_eq _, mono_eq _, mono_eq _, mono_eq _, mono_oneW (bits .or .u32 (bits .or .u32 (bits .or .u32 (y0 * 16777216) (y1 * 65536)) (y2 * 256)) y3), trivial⟩
      case steps =>
        intro Q'
        refine And.intro ?_ ?_
        · intro vs lo hi w' hM hd K' hK
          dsimp only at hK ⊢
          simp only [Act.put, List.setIfInBounds_toArray, List.set_cons_zero, List.set_cons_succ] at hK
          go_simp
          exact hK.out _ _ rfl (Below.refl _ _)
        refine And.intro ?_ ?_
        · intro vs lo hi w' hM hd K' hK
          dsimp only at hK ⊢
          simp only [Act.put, List.setIfInBounds_toArray, List.set_cons_zero, List.set_cons_succ] at hK
          go_simp
          exact hK.out _ _ rfl (Below.refl _ _)
        refine And.intro ?_ ?_
        · intro vs lo hi w' hM hd K' hK
          dsimp only at hK ⊢
          simp only [Act.put, List.setIfInBounds_toArray, List.set_cons_zero, List.set_cons_succ] at hK
          go_simp
          exact hK.out _ _ rfl (Below.refl _ _)
        refine And.intro ?_ ?_
        · intro vs lo hi w' hM hd K' hK
          dsimp only at hK ⊢
          simp only [Act.put, List.setIfInBounds_toArray, List.set_cons_zero, List.set_cons_succ] at hK
          have e2 : vs 2 = (.int .i64 (j : Int)) := hd 2 (by kernel_rfl)
          simp only [e2] at hK ⊢
          clear e2
          have g0 : (0 : Int) ≤ (j : Int) := by omega
          have g1 : (j : Int) < 16 := by have := Hj.out; omega
          go_simp
          exact hK.out _ _ (int_i64 rfl (by omega) (by omega)) (Below.refl _ _)
        refine And.intro ?_ ?_
        · intro vs lo hi w' hM hd K' hK
          dsimp only at hK ⊢
          simp only [Act.put, List.setIfInBounds_toArray, List.set_cons_zero, List.set_cons_succ] at hK
          have e1 : vs 1 = (.slice (some ⟨b, o, none⟩) 64 cap) := hd 1 (by kernel_rfl)
          have e3 : vs 3 = (.int .i64 (4 * (j : Int))) := hd 3 (by kernel_rfl)
          simp only [e1, e3] at hK ⊢
          clear e1 e3
          have g0 : (0 : Int) ≤ (j : Int) := by omega
          have g1 : (j : Int) < 16 := by have := Hj.out; omega
          have g2 : ((4 * (j : Int))).toNat = 4 * j := by omega
          have g3 : (4 * (j : Int)) < 64 := by omega
          have g4 : (0 : Int) ≤ (4 * (j : Int)) := by omega
          go_simp
          exact hK.out _ _ rfl (Below.refl _ _)
        refine And.intro ?_ ?_
        · intro vs lo hi w' hM hd K' hK
          dsimp only at hK ⊢
          simp only [Act.put, List.setIfInBounds_toArray, List.set_cons_zero, List.set_cons_succ] at hK
          have e4 : vs 4 = (.pointer (some ⟨b, o + (4 * j), none⟩)) := hd 4 (by kernel_rfl)
          simp only [e4] at hK ⊢
          clear e4
          have q0 := (hM.cell (p := ⟨b, o + (4 * j), none⟩) HLT.out).trans HY0.out
          go_simp
          exact hK.out _ _ rfl (Below.refl _ _)
        refine And.intro ?_ ?_
        · intro vs lo hi w' hM hd K' hK
          dsimp only at hK ⊢
          simp only [Act.put, List.setIfInBounds_toArray, List.set_cons_zero, List.set_cons_succ] at hK
          have e5 : vs 5 = (.int .u8 y0) := hd 5 (by kernel_rfl)
          simp only [e5] at hK ⊢
          clear e5
          go_simp
          exact hK.out _ _ (int_u32 (by have := Hy0.out; omega)) (Below.refl _ _)
        refine And.intro ?_ ?_
        · intro vs lo hi w' hM hd K' hK
          dsimp only at hK ⊢
          simp only [Act.put, List.setIfInBounds_toArray, List.set_cons_zero, List.set_cons_succ] at hK
          have e6 : vs 6 = (.int .u32 y0) := hd 6 (by kernel_rfl)
          simp only [e6] at hK ⊢
          clear e6
          go_simp
          exact hK.out _ _ (int_u32 (by have := Hy0.out; omega)) (Below.refl _ _)
        refine And.intro ?_ ?_
        · intro vs lo hi w' hM hd K' hK
          dsimp only at hK ⊢
          simp only [Act.put, List.setIfInBounds_toArray, List.set_cons_zero, List.set_cons_succ] at hK
          go_simp
          exact hK.out _ _ rfl (Below.refl _ _)
        refine And.intro ?_ ?_
        · intro vs lo hi w' hM hd K' hK
          dsimp only at hK ⊢
          simp only [Act.put, List.setIfInBounds_toArray, List.set_cons_zero, List.set_cons_succ] at hK
          go_simp
          exact hK.out _ _ rfl (Below.refl _ _)
        refine And.intro ?_ ?_
        · intro vs lo hi w' hM hd K' hK
          dsimp only at hK ⊢
          simp only [Act.put, List.setIfInBounds_toArray, List.set_cons_zero, List.set_cons_succ] at hK
          have e9 : vs 9 = (.int .i64 (j : Int)) := hd 9 (by kernel_rfl)
          simp only [e9] at hK ⊢
          clear e9
          have g0 : (0 : Int) ≤ (j : Int) := by omega
          have g1 : (j : Int) < 16 := by have := Hj.out; omega
          go_simp
          exact hK.out _ _ (int_i64 rfl (by omega) (by omega)) (Below.refl _ _)
        refine And.intro ?_ ?_
        · intro vs lo hi w' hM hd K' hK
          dsimp only at hK ⊢
          simp only [Act.put, List.setIfInBounds_toArray, List.set_cons_zero, List.set_cons_succ] at hK
          have e10 : vs 10 = (.int .i64 (4 * (j : Int))) := hd 10 (by kernel_rfl)
          simp only [e10] at hK ⊢
          clear e10
          have g0 : (0 : Int) ≤ (j : Int) := by omega
          have g1 : (j : Int) < 16 := by have := Hj.out; omega
          go_simp
          exact hK.out _ _ (int_i64 rfl (by omega) (by omega)) (Below.refl _ _)
        refine And.intro ?_ ?_
        · intro vs lo hi w' hM hd K' hK
          dsimp only at hK ⊢
          simp only [Act.put, List.setIfInBounds_toArray, List.set_cons_zero, List.set_cons_succ] at hK
          have e8 : vs 8 = (.slice (some ⟨b, o, none⟩) 64 cap) := hd 8 (by kernel_rfl)
          have e11 : vs 11 = (.int .i64 (4 * (j : Int) + 1)) := hd 11 (by kernel_rfl)
          simp only [e8, e11] at hK ⊢
          clear e8 e11
          have g0 : (0 : Int) ≤ (j : Int) := by omega
          have g1 : (j : Int) < 16 := by have := Hj.out; omega
          have g2 : ((4 * (j : Int) + 1)).toNat = 4 * j + 1 := by omega
          have g3 : (4 * (j : Int) + 1) < 64 := by omega
          have g4 : (0 : Int) ≤ (4 * (j : Int) + 1) := by omega
          go_simp
          exact hK.out _ _ rfl (Below.refl _ _)
        refine And.intro ?_ ?_
        · intro vs lo hi w' hM hd K' hK
          dsimp only at hK ⊢
          simp only [Act.put, List.setIfInBounds_toArray, List.set_cons_zero, List.set_cons_succ] at hK
          have e12 : vs 12 = (.pointer (some ⟨b, o + (4 * j + 1), none⟩)) := hd 12 (by kernel_rfl)
          simp only [e12] at hK ⊢
          clear e12
          have q0 := (hM.cell (p := ⟨b, o + (4 * j + 1), none⟩) HLT.out).trans HY1.out
          go_simp
          exact hK.out _ _ rfl (Below.refl _ _)
        refine And.intro ?_ ?_
        · intro vs lo hi w' hM hd K' hK
          dsimp only at hK ⊢
          simp only [Act.put, List.setIfInBounds_toArray, List.set_cons_zero, List.set_cons_succ] at hK
          have e13 : vs 13 = (.int .u8 y1) := hd 13 (by kernel_rfl)
          simp only [e13] at hK ⊢
          clear e13
          go_simp
          exact hK.out _ _ (int_u32 (by have := Hy1.out; omega)) (Below.refl _ _)
        refine And.intro ?_ ?_
        · intro vs lo hi w' hM hd K' hK
          dsimp only at hK ⊢
          simp only [Act.put, List.setIfInBounds_toArray, List.set_cons_zero, List.set_cons_succ] at hK
          have e14 : vs 14 = (.int .u32 y1) := hd 14 (by kernel_rfl)
          simp only [e14] at hK ⊢
          clear e14
          go_simp
          exact hK.out _ _ (int_u32 (by have := Hy1.out; omega)) (Below.refl _ _)
        refine And.intro ?_ ?_
        · intro vs lo hi w' hM hd K' hK
          dsimp only at hK ⊢
          simp only [Act.put, List.setIfInBounds_toArray, List.set_cons_zero, List.set_cons_succ] at hK
          have e7 : vs 7 = (.int .u32 (y0 * 16777216)) := hd 7 (by kernel_rfl)
          have e15 : vs 15 = (.int .u32 (y1 * 65536)) := hd 15 (by kernel_rfl)
          simp only [e7, e15] at hK ⊢
          clear e7 e15
          go_simp
          exact hK.out _ _ rfl (Below.refl _ _)
        refine And.intro ?_ ?_
        · intro vs lo hi w' hM hd K' hK
          dsimp only at hK ⊢
          simp only [Act.put, List.setIfInBounds_toArray, List.set_cons_zero, List.set_cons_succ] at hK
          go_simp
          exact hK.out _ _ rfl (Below.refl _ _)
        refine And.intro ?_ ?_
        · intro vs lo hi w' hM hd K' hK
          dsimp only at hK ⊢
          simp only [Act.put, List.setIfInBounds_toArray, List.set_cons_zero, List.set_cons_succ] at hK
          go_simp
          exact hK.out _ _ rfl (Below.refl _ _)
        refine And.intro ?_ ?_
        · intro vs lo hi w' hM hd K' hK
          dsimp only at hK ⊢
          simp only [Act.put, List.setIfInBounds_toArray, List.set_cons_zero, List.set_cons_succ] at hK
          have e18 : vs 18 = (.int .i64 (j : Int)) := hd 18 (by kernel_rfl)
          simp only [e18] at hK ⊢
          clear e18
          have g0 : (0 : Int) ≤ (j : Int) := by omega
          have g1 : (j : Int) < 16 := by have := Hj.out; omega
          go_simp
          exact hK.out _ _ (int_i64 rfl (by omega) (by omega)) (Below.refl _ _)
        refine And.intro ?_ ?_
        · intro vs lo hi w' hM hd K' hK
          dsimp only at hK ⊢
          simp only [Act.put, List.setIfInBounds_toArray, List.set_cons_zero, List.set_cons_succ] at hK
          have e19 : vs 19 = (.int .i64 (4 * (j : Int))) := hd 19 (by kernel_rfl)
          simp only [e19] at hK ⊢
          clear e19
          have g0 : (0 : Int) ≤ (j : Int) := by omega
          have g1 : (j : Int) < 16 := by have := Hj.out; omega
          go_simp
          exact hK.out _ _ (int_i64 rfl (by omega) (by omega)) (Below.refl _ _)
        refine And.intro ?_ ?_
        · intro vs lo hi w' hM hd K' hK
          dsimp only at hK ⊢
          simp only [Act.put, List.setIfInBounds_toArray, List.set_cons_zero, List.set_cons_succ] at hK
          have e17 : vs 17 = (.slice (some ⟨b, o, none⟩) 64 cap) := hd 17 (by kernel_rfl)
          have e20 : vs 20 = (.int .i64 (4 * (j : Int) + 2)) := hd 20 (by kernel_rfl)
          simp only [e17, e20] at hK ⊢
          clear e17 e20
          have g0 : (0 : Int) ≤ (j : Int) := by omega
          have g1 : (j : Int) < 16 := by have := Hj.out; omega
          have g2 : ((4 * (j : Int) + 2)).toNat = 4 * j + 2 := by omega
          have g3 : (4 * (j : Int) + 2) < 64 := by omega
          have g4 : (0 : Int) ≤ (4 * (j : Int) + 2) := by omega
          go_simp
          exact hK.out _ _ rfl (Below.refl _ _)
        refine And.intro ?_ ?_
        · intro vs lo hi w' hM hd K' hK
          dsimp only at hK ⊢
          simp only [Act.put, List.setIfInBounds_toArray, List.set_cons_zero, List.set_cons_succ] at hK
          have e21 : vs 21 = (.pointer (some ⟨b, o + (4 * j + 2), none⟩)) := hd 21 (by kernel_rfl)
          simp only [e21] at hK ⊢
          clear e21
          have q0 := (hM.cell (p := ⟨b, o + (4 * j + 2), none⟩) HLT.out).trans HY2.out
          go_simp
          exact hK.out _ _ rfl (Below.refl _ _)
        refine And.intro ?_ ?_
        · intro vs lo hi w' hM hd K' hK
          dsimp only at hK ⊢
          simp only [Act.put, List.setIfInBounds_toArray, List.set_cons_zero, List.set_cons_succ] at hK
          have e22 : vs 22 = (.int .u8 y2) := hd 22 (by kernel_rfl)
          simp only [e22] at hK ⊢
          clear e22
          go_simp
          exact hK.out _ _ (int_u32 (by have := Hy2.out; omega)) (Below.refl _ _)
        refine And.intro ?_ ?_
        · intro vs lo hi w' hM hd K' hK
          dsimp only at hK ⊢
          simp only [Act.put, List.setIfInBounds_toArray, List.set_cons_zero, List.set_cons_succ] at hK
          have e23 : vs 23 = (.int .u32 y2) := hd 23 (by kernel_rfl)
          simp only [e23] at hK ⊢
          clear e23
          go_simp
          exact hK.out _ _ (int_u32 (by have := Hy2.out; omega)) (Below.refl _ _)
        refine And.intro ?_ ?_
        · intro vs lo hi w' hM hd K' hK
          dsimp only at hK ⊢
          simp only [Act.put, List.setIfInBounds_toArray, List.set_cons_zero, List.set_cons_succ] at hK
          have e16 : vs 16 = (.int .u32 (bits .or .u32 (y0 * 16777216) (y1 * 65536))) := hd 16 (by kernel_rfl)
          have e24 : vs 24 = (.int .u32 (y2 * 256)) := hd 24 (by kernel_rfl)
          simp only [e16, e24] at hK ⊢
          clear e16 e24
          go_simp
          exact hK.out _ _ rfl (Below.refl _ _)
        refine And.intro ?_ ?_
        · intro vs lo hi w' hM hd K' hK
          dsimp only at hK ⊢
          simp only [Act.put, List.setIfInBounds_toArray, List.set_cons_zero, List.set_cons_succ] at hK
          go_simp
          exact hK.out _ _ rfl (Below.refl _ _)
        refine And.intro ?_ ?_
        · intro vs lo hi w' hM hd K' hK
          dsimp only at hK ⊢
          simp only [Act.put, List.setIfInBounds_toArray, List.set_cons_zero, List.set_cons_succ] at hK
          go_simp
          exact hK.out _ _ rfl (Below.refl _ _)
        refine And.intro ?_ ?_
        · intro vs lo hi w' hM hd K' hK
          dsimp only at hK ⊢
          simp only [Act.put, List.setIfInBounds_toArray, List.set_cons_zero, List.set_cons_succ] at hK
          have e27 : vs 27 = (.int .i64 (j : Int)) := hd 27 (by kernel_rfl)
          simp only [e27] at hK ⊢
          clear e27
          have g0 : (0 : Int) ≤ (j : Int) := by omega
          have g1 : (j : Int) < 16 := by have := Hj.out; omega
          go_simp
          exact hK.out _ _ (int_i64 rfl (by omega) (by omega)) (Below.refl _ _)
        refine And.intro ?_ ?_
        · intro vs lo hi w' hM hd K' hK
          dsimp only at hK ⊢
          simp only [Act.put, List.setIfInBounds_toArray, List.set_cons_zero, List.set_cons_succ] at hK
          have e28 : vs 28 = (.int .i64 (4 * (j : Int))) := hd 28 (by kernel_rfl)
          simp only [e28] at hK ⊢
          clear e28
          have g0 : (0 : Int) ≤ (j : Int) := by omega
          have g1 : (j : Int) < 16 := by have := Hj.out; omega
          go_simp
          exact hK.out _ _ (int_i64 rfl (by omega) (by omega)) (Below.refl _ _)
        refine And.intro ?_ ?_
        · intro vs lo hi w' hM hd K' hK
          dsimp only at hK ⊢
          simp only [Act.put, List.setIfInBounds_toArray, List.set_cons_zero, List.set_cons_succ] at hK
          have e26 : vs 26 = (.slice (some ⟨b, o, none⟩) 64 cap) := hd 26 (by kernel_rfl)
          have e29 : vs 29 = (.int .i64 (4 * (j : Int) + 3)) := hd 29 (by kernel_rfl)
          simp only [e26, e29] at hK ⊢
          clear e26 e29
          have g0 : (0 : Int) ≤ (j : Int) := by omega
          have g1 : (j : Int) < 16 := by have := Hj.out; omega
          have g2 : ((4 * (j : Int) + 3)).toNat = 4 * j + 3 := by omega
          have g3 : (4 * (j : Int) + 3) < 64 := by omega
          have g4 : (0 : Int) ≤ (4 * (j : Int) + 3) := by omega
          go_simp
          exact hK.out _ _ rfl (Below.refl _ _)
        refine And.intro ?_ ?_
        · intro vs lo hi w' hM hd K' hK
          dsimp only at hK ⊢
          simp only [Act.put, List.setIfInBounds_toArray, List.set_cons_zero, List.set_cons_succ] at hK
          have e30 : vs 30 = (.pointer (some ⟨b, o + (4 * j + 3), none⟩)) := hd 30 (by kernel_rfl)
          simp only [e30] at hK ⊢
          clear e30
          have q0 := (hM.cell (p := ⟨b, o + (4 * j + 3), none⟩) HLT.out).trans HY3.out
          go_simp
          exact hK.out _ _ rfl (Below.refl _ _)
        refine And.intro ?_ ?_
        · intro vs lo hi w' hM hd K' hK
          dsimp only at hK ⊢
          simp only [Act.put, List.setIfInBounds_toArray, List.set_cons_zero, List.set_cons_succ] at hK
          have e31 : vs 31 = (.int .u8 y3) := hd 31 (by kernel_rfl)
          simp only [e31] at hK ⊢
          clear e31
          go_simp
          exact hK.out _ _ (int_u32 (by have := Hy3.out; omega)) (Below.refl _ _)
        refine And.intro ?_ ?_
        · intro vs lo hi w' hM hd K' hK
          dsimp only at hK ⊢
          simp only [Act.put, List.setIfInBounds_toArray, List.set_cons_zero, List.set_cons_succ] at hK
          have e25 : vs 25 = (.int .u32 (bits .or .u32 (bits .or .u32 (y0 * 16777216) (y1 * 65536)) (y2 * 256))) := hd 25 (by kernel_rfl)
          have e32 : vs 32 = (.int .u32 y3) := hd 32 (by kernel_rfl)
          simp only [e25, e32] at hK ⊢
          clear e25 e32
          go_simp
          exact hK.out _ _ rfl (Below.refl _ _)
        refine And.intro ?_ ?_
        · intro vs lo hi w' hM hd K' hK
          dsimp only at hK ⊢
          simp only [Act.put, List.setIfInBounds_toArray, List.set_cons_zero, List.set_cons_succ] at hK
          have e33 : vs 33 = (.int .u32 (bits .or .u32 (bits .or .u32 (bits .or .u32 (y0 * 16777216) (y1 * 65536)) (y2 * 256)) y3)) := hd 33 (by kernel_rfl)
          simp only [e33] at hK ⊢
          clear e33
          go_simp
          exact hK.out _ _ (oneW_fact (bits .or .u32 (bits .or .u32 (bits .or .u32 (y0 * 16777216) (y1 * 65536)) (y2 * 256)) y3) _) ((Below.refl _ _).alloc (Nat.le_refl _) _)
        exact trivial
      case last =>
        intro vs lo hi w' hM hlo hap hall K' Q' hK
        have h0 : vs 0 = (.slice la j lc) := hall.1
        obtain ⟨e1, H1⟩ := hall.2.2.2.2.2.2.2.2.2.2.2.2.2.2.2.2.2.2.2.2.2.2.2.2.2.2.2.2.2.2.2.2.2.2.1
        dsimp only
        simp only [h0, e1]
        clear h0 e1 hap
        have hown := own_below HOWN.out hM
        obtain ⟨a2, c2, wA, hrun, hown', hgr⟩ := append_one (w := w') 60 49 (.int .u32 0) 4 Tryd.underlying60 infoWord rfl w.heap.size _ _ _ hown (m := 1) (c := 1) (news := [w32 (bits .or .u32 (bits .or .u32 (bits .or .u32 (y0 * 16777216) (y1 * 65536)) (y2 * 256)) y3)]) rfl H1.out (by simp [Value.oneCell']) (by have := Hj.out; omega) (by have := Hj.out; omega) (by have h1 := hM.size; have h2 := HBJ.out.size; omega)
        rw [if_pos (by rfl)]
        refine Lib.wp_append_run _ (.tmp 14) (.tmp 48) 60 60 rfl _ _ (by simp [Act.eval]) (by simp [Act.eval]) _ _ hrun ?_
        have HBA : Hid (Below w.heap.size w wA) := (HBJ.out.trans (hM.mono HBJ.out.size)).grown hgr (by have h1 := hM.size; have h2 := HBJ.out.size; omega) (own_block hown)
        have HOWNA := hide hown'
        clear hown hrun hown' hgr
        refine hK.out _ _ (fun fuel hfuel => ?_)
        obtain ⟨f, rfl⟩ : ∃ f, fuel = f + 1 := ⟨fuel - 1, by have : 1 ≤ fuel := hfuel; omega⟩
        clear hK hM hlo H1 hall
        simp only [Act.put, List.setIfInBounds_toArray, List.set_cons_zero, List.set_cons_succ]
        refine wpAny_ready (rs := [36]) (by kernel_rfl) (by simp) ?_
        refine AllReady.cons rfl (fun K2 hK2 => ?_) AllReady.nil
        have HK2 := hide hK2
        clear hK2
        go_simp
        refine HK2.out _ _ ?_
        clear HK2
        refine wpAny_done (by kernel_rfl) ?_ _
        have hj := Hj.out
        go_wp2_with fail
        go_roundw
        case rel =>
          refine ⟨j + 1, a2, c2, by show j + 1 ≤ 16; omega, by go_num, rfl, ?_, HBA⟩
          unfold Hid
          have e : (List.range (j + 1)).map (Dg.wd bs) = (List.range j).map (Dg.wd bs) ++ [bits .or .u32 (bits .or .u32 (bits .or .u32 (y0 * 16777216) (y1 * 65536)) (y2 * 256)) y3] := by
            rw [List.range_succ, List.map_append, HYE0.out, HYE1.out, HYE2.out, HYE3.out]
            rfl
          rw [e, List.map_append]
          exact HOWNA.out
        case measure => simp [intOf]; omega
    · have hj16 : j = 16 := by have := Hj16.out; omega
      have HO16 : Hid (wr.ownsRow w.heap.size 49 1 (.slice la j lc) j (((Dg.spread bs).take j).map w32)) := by
        have e : (List.range j).map (Dg.wd bs) = (Dg.spread bs).take j := by
          rw [hj16]
          apply List.ext_getElem?
          intro i
          rw [List.getElem?_take]
          split
          · rename_i hi
            rw [List.getElem?_map, List.getElem?_range hi, List.getElem?_eq_getElem (by rw [Dg.spread_length]; omega)]
            have := Dg.spread_front bs H8.out i hi
            rw [List.getElem?_eq_getElem (by rw [Dg.spread_length]; omega)] at this
            simpa using this.symm
          · rw [List.getElem?_eq_none (by simp; omega)]
        unfold Hid
        rw [← e]
        exact HOWN.out
      have HJ16 := hide hj16
      clear hj16
      go_wp2_with fail
      generalize decide ((j : Int) < 16) = bt0
      go_loopw [3, 5] (fun v i wq => ∃ (j : Nat) (la : Option Addr) (lc : Nat), Hid (16 ≤ j ∧ j ≤ 64) ∧ i = .int .i64 j ∧ v = .slice la j lc ∧ Hid (wq.ownsRow w.heap.size 49 1 (.slice la j lc) j (((Dg.spread bs).take j).map w32)) ∧ Hid (Below w.heap.size w wq)) (fun _ i _ => 64 - (intOf i).toNat)
      case atStart => exact ⟨j, la, lc, by have := HJ16.out; show 16 ≤ j ∧ j ≤ 64; omega, by rw [HJ16.out]; rfl, rfl, HO16, HBJ⟩
      case round =>
        rename_i wr0 _
        clear HO16 HBJ HOWN
        obtain ⟨j, la, lc, Hj64, rfl, rfl, HOWN, HBJ⟩ := hrel
        by_cases hlt : j < 64
        · have hj16 := Hj64.out.1
          obtain ⟨g, rfl, hgb, hgl, hjc, hcm, hcell⟩ := own_read HOWN.out (by omega)
          have hat : ∀ i, i < j → wr.cell? ⟨g, i, none⟩ = some (w32 ((Dg.spread bs)[i]?.getD 0)) := fun i hi => by
            have := hcell i hi
            rw [List.getElem?_take, if_pos hi] at this
            exact this
          obtain ⟨x2, e2⟩ : ∃ x, x = (Dg.spread bs)[j - 2]?.getD 0 := ⟨_, rfl⟩
          obtain ⟨x7, e7⟩ : ∃ x, x = (Dg.spread bs)[j - 7]?.getD 0 := ⟨_, rfl⟩
          obtain ⟨x15, e15⟩ : ∃ x, x = (Dg.spread bs)[j - 15]?.getD 0 := ⟨_, rfl⟩
          obtain ⟨x16, e16⟩ : ∃ x, x = (Dg.spread bs)[j - 16]?.getD 0 := ⟨_, rfl⟩
          have c15 : wr.cell? ⟨g, j - 15, none⟩ = some (.int .u32 x15) := by rw [e15]; exact hat _ (by omega)
          have c2 : wr.cell? ⟨g, j - 2, none⟩ = some (.int .u32 x2) := by rw [e2]; exact hat _ (by omega)
          have HX7 : Hid (wr.cell? ⟨g, j - 7, none⟩ = some (.int .u32 x7)) := by rw [e7]; exact hat _ (by omega)
          have HX16 : Hid (wr.cell? ⟨g, j - 16, none⟩ = some (.int .u32 x16)) := by rw [e16]; exact hat _ (by omega)
          have HXE2 := hide e2
          have HXE7 := hide e7
          have HXE15 := hide e15
          have HXE16 := hide e16
          have i15 : ((j : Int) - 15).toNat = j - 15 := by omega
          have i2 : ((j : Int) - 2).toNat = j - 2 := by omega
          clear e2 e7 e15 e16 hcell hat
          go_upto_region 13 with (go_at_call 51; refine (refTurn_same _ _ _ (by omega) (by omega)).mono ?_; rintro e wr ⟨rfl, rfl⟩)
          have es0 : bits .xor .u32 (bits .xor .u32 (Dg.rotr x15 7) (Dg.rotr x15 18)) (x15 / 8) = Dg.s0 x15 := rfl
          have es1 : bits .xor .u32 (bits .xor .u32 (Dg.rotr x2 17) (Dg.rotr x2 19)) (x2 / 1024) = Dg.s1 x2 := rfl
          rw [es0, es1]
          clear es0 es1 c15 c2 i15 i2
          generalize decide ((j : Int) < 64) = bt
          have Hj : Hid (16 ≤ j ∧ j < 64) := ⟨hj16, hlt⟩
          clear hj16 hlt
          refine wp_region_any (by kernel_rfl) ?_
          change wpAny _ _ _ _ _ _ _ wr.drew
          have hb0 : Below wr.heap.size wr wr.drew := (Below.refl _ _).drew
          replace HX7 : Hid (wr.drew.cell? ⟨g, j - 7, none⟩ = some (.int .u32 x7)) := HX7
          replace HX16 : Hid (wr.drew.cell? ⟨g, j - 16, none⟩ = some (.int .u32 x16)) := HX16
          replace HOWN := hide (own_below HOWN.out hb0)
          replace HBJ := hide (bthen HBJ.out hb0)
          have HLTg : Hid (g < wr.drew.heap.size) := hgl
          clear hb0 hgl
          generalize wr.drew = wq at HX7 HX16 HOWN HBJ HLTg ⊢
          refine' wpAny_pivot_at 17 [false] [(fun _ _ v _ => v = (.slice (some ⟨g, 0, none⟩) j lc)), (fun _ _ v _ => v = (.int .u32 (Dg.s1 x2))), (fun _ _ v _ => v = (.slice (some ⟨g, 0, none⟩) j lc)), (fun _ _ v _ => v = (.int .i64 (j : Int))), (fun _ _ v _ => v = (.int .i64 ((j : Int) - 7))), (fun _ _ v _ => v = (.pointer (some ⟨g, j - 7, none⟩))), (fun _ _ v _ => v = (.int .u32 x7)), (fun _ _ v _ => v = (.int .u32 ((Dg.s1 x2 + x7) % 4294967296))), (fun _ _ v _ => v = (.int .u32 (Dg.s0 x15))), (fun _ _ v _ => v = (.int .u32 ((Dg.s1 x2 + x7 + Dg.s0 x15) % 4294967296))), (fun _ _ v _ => v = (.slice (some ⟨g, 0, none⟩) j lc)), (fun _ _ v _ => v = (.int .i64 (j : Int))), (fun _ _ v _ => v = (.int .i64 ((j : Int) - 16))), (fun _ _ v _ => v = (.pointer (some ⟨g, j - 16, none⟩))), (fun _ _ v _ => v = (.int .u32 x16)), (fun _ _ v _ => v = (.int .u32 ((Dg.s1 x2 + x7 + Dg.s0 x15 + x16) % 4294967296))), (OneW ((Dg.s1 x2 + x7 + Dg.s0 x15 + x16) % 4294967296))] rfl (by kernel_rfl) ?hA (by kernel_rfl) (by kernel_rfl) (by kernel_rfl) rfl rfl (by kernel_rfl) (by decide) ?mono ?steps ?last
          case hA =>
            intro vs
            simp only [List.take_succ_cons, List.take_zero, puts, Act.put, List.setIfInBounds_toArray, List.set_cons_zero, List.set_cons_succ, Nat.zero_add, Nat.reduceAdd]
            rfl
          case mono => exact ⟨mono_eq _, mono_eq _, mono_eq _, mono_eq _, mono_eq _, mono_eq _, mono_eq _, mono_eq _, mono_eq _, mono_eq _, mono_eq _, mono_eq _, mono_eq _, mono_eq _, mono_eq _, mono_eq _, mono_oneW ((Dg.s1 x2 + x7 + Dg.s0 x15 + x16) % 4294967296), trivial⟩
          case steps =>
            intro Q'
            refine And.intro ?_ ?_
            · intro vs lo hi w' hM hd K' hK
              dsimp only at hK ⊢
              simp only [Act.put, List.setIfInBounds_toArray, List.set_cons_zero, List.set_cons_succ] at hK
              go_simp
              exact hK.out _ _ rfl (Below.refl _ _)
            refine And.intro ?_ ?_
            · intro vs lo hi w' hM hd K' hK
              dsimp only at hK ⊢
              simp only [Act.put, List.setIfInBounds_toArray, List.set_cons_zero, List.set_cons_succ] at hK
              go_simp
              exact hK.out _ _ rfl (Below.refl _ _)
            refine And.intro ?_ ?_
            · intro vs lo hi w' hM hd K' hK
              dsimp only at hK ⊢
              simp only [Act.put, List.setIfInBounds_toArray, List.set_cons_zero, List.set_cons_succ] at hK
              go_simp
              exact hK.out _ _ rfl (Below.refl _ _)
            refine And.intro ?_ ?_
            · intro vs lo hi w' hM hd K' hK
              dsimp only at hK ⊢
              simp only [Act.put, List.setIfInBounds_toArray, List.set_cons_zero, List.set_cons_succ] at hK
              go_simp
              exact hK.out _ _ rfl (Below.refl _ _)
            refine And.intro ?_ ?_
            · intro vs lo hi w' hM hd K' hK
              dsimp only at hK ⊢
              simp only [Act.put, List.setIfInBounds_toArray, List.set_cons_zero, List.set_cons_succ] at hK
              have e3 : vs 3 = (.int .i64 (j : Int)) := hd 3 (by kernel_rfl)
              simp only [e3] at hK ⊢
              clear e3
              have g0 : (16 : Int) ≤ (j : Int) := by have := Hj.out; omega
              have g1 : (j : Int) < 64 := by have := Hj.out; omega
              go_simp
              exact hK.out _ _ (int_i64 rfl (by omega) (by omega)) (Below.refl _ _)
            refine And.intro ?_ ?_
            · intro vs lo hi w' hM hd K' hK
              dsimp only at hK ⊢
              simp only [Act.put, List.setIfInBounds_toArray, List.set_cons_zero, List.set_cons_succ] at hK
              have e2 : vs 2 = (.slice (some ⟨g, 0, none⟩) j lc) := hd 2 (by kernel_rfl)
              have e4 : vs 4 = (.int .i64 ((j : Int) - 7)) := hd 4 (by kernel_rfl)
              simp only [e2, e4] at hK ⊢
              clear e2 e4
              have g0 : (16 : Int) ≤ (j : Int) := by have := Hj.out; omega
              have g1 : (j : Int) < 64 := by have := Hj.out; omega
              have g2 : ((j : Int) - 7).toNat = j - 7 := by omega
              have g3 : (j : Int) - 7 < (j : Int) := by omega
              have g4 : (7 : Int) ≤ (j : Int) := by omega
              go_simp
              exact hK.out _ _ rfl (Below.refl _ _)
            refine And.intro ?_ ?_
            · intro vs lo hi w' hM hd K' hK
              dsimp only at hK ⊢
              simp only [Act.put, List.setIfInBounds_toArray, List.set_cons_zero, List.set_cons_succ] at hK
              have e5 : vs 5 = (.pointer (some ⟨g, j - 7, none⟩)) := hd 5 (by kernel_rfl)
              simp only [e5] at hK ⊢
              clear e5
              have q0 := (hM.cell (p := ⟨g, j - 7, none⟩) HLTg.out).trans HX7.out
              go_simp
              exact hK.out _ _ rfl (Below.refl _ _)
            refine And.intro ?_ ?_
            · intro vs lo hi w' hM hd K' hK
              dsimp only at hK ⊢
              simp only [Act.put, List.setIfInBounds_toArray, List.set_cons_zero, List.set_cons_succ] at hK
              have e1 : vs 1 = (.int .u32 (Dg.s1 x2)) := hd 1 (by kernel_rfl)
              have e6 : vs 6 = (.int .u32 x7) := hd 6 (by kernel_rfl)
              simp only [e1, e6] at hK ⊢
              clear e1 e6
              go_simp
              exact hK.out _ _ (int_u32 (by omega)) (Below.refl _ _)
            refine And.intro ?_ ?_
            · intro vs lo hi w' hM hd K' hK
              dsimp only at hK ⊢
              simp only [Act.put, List.setIfInBounds_toArray, List.set_cons_zero, List.set_cons_succ] at hK
              go_simp
              exact hK.out _ _ rfl (Below.refl _ _)
            refine And.intro ?_ ?_
            · intro vs lo hi w' hM hd K' hK
              dsimp only at hK ⊢
              simp only [Act.put, List.setIfInBounds_toArray, List.set_cons_zero, List.set_cons_succ] at hK
              have e7 : vs 7 = (.int .u32 ((Dg.s1 x2 + x7) % 4294967296)) := hd 7 (by kernel_rfl)
              have e8 : vs 8 = (.int .u32 (Dg.s0 x15)) := hd 8 (by kernel_rfl)
              simp only [e7, e8] at hK ⊢
              clear e7 e8
              go_simp
              exact hK.out _ _ (int_u32 (by omega)) (Below.refl _ _)
            refine And.intro ?_ ?_
            · intro vs lo hi w' hM hd K' hK
              dsimp only at hK ⊢
              simp only [Act.put, List.setIfInBounds_toArray, List.set_cons_zero, List.set_cons_succ] at hK
              go_simp
              exact hK.out _ _ rfl (Below.refl _ _)
            refine And.intro ?_ ?_
            · intro vs lo hi w' hM hd K' hK
              dsimp only at hK ⊢
              simp only [Act.put, List.setIfInBounds_toArray, List.set_cons_zero, List.set_cons_succ] at hK
              go_simp
              exact hK.out _ _ rfl (Below.refl _ _)
            refine And.intro ?_ ?_
            · intro vs lo hi w' hM hd K' hK
              dsimp only at hK ⊢
              simp only [Act.put, List.setIfInBounds_toArray, List.set_cons_zero, List.set_cons_succ] at hK
              have e11 : vs 11 = (.int .i64 (j : Int)) := hd 11 (by kernel_rfl)
              simp only [e11] at hK ⊢
              clear e11
              have g0 : (16 : Int) ≤ (j : Int) := by have := Hj.out; omega
              have g1 : (j : Int) < 64 := by have := Hj.out; omega
              go_simp
              exact hK.out _ _ (int_i64 rfl (by omega) (by omega)) (Below.refl _ _)
            refine And.intro ?_ ?_
            · intro vs lo hi w' hM hd K' hK
              dsimp only at hK ⊢
              simp only [Act.put, List.setIfInBounds_toArray, List.set_cons_zero, List.set_cons_succ] at hK
              have e10 : vs 10 = (.slice (some ⟨g, 0, none⟩) j lc) := hd 10 (by kernel_rfl)
              have e12 : vs 12 = (.int .i64 ((j : Int) - 16)) := hd 12 (by kernel_rfl)
              simp only [e10, e12] at hK ⊢
              clear e10 e12
              have g0 : (16 : Int) ≤ (j : Int) := by have := Hj.out; omega
              have g1 : (j : Int) < 64 := by have := Hj.out; omega
              have g2 : ((j : Int) - 16).toNat = j - 16 := by omega
              have g3 : (j : Int) - 16 < (j : Int) := by omega
              have g4 : (16 : Int) ≤ (j : Int) := by omega
              go_simp
              exact hK.out _ _ rfl (Below.refl _ _)
            refine And.intro ?_ ?_
            · intro vs lo hi w' hM hd K' hK
              dsimp only at hK ⊢
              simp only [Act.put, List.setIfInBounds_toArray, List.set_cons_zero, List.set_cons_succ] at hK
              have e13 : vs 13 = (.pointer (some ⟨g, j - 16, none⟩)) := hd 13 (by kernel_rfl)
              simp only [e13] at hK ⊢
              clear e13
              have q0 := (hM.cell (p := ⟨g, j - 16, none⟩) HLTg.out).trans HX16.out
              go_simp
              exact hK.out _ _ rfl (Below.refl _ _)
            refine And.intro ?_ ?_
            · intro vs lo hi w' hM hd K' hK
              dsimp only at hK ⊢
              simp only [Act.put, List.setIfInBounds_toArray, List.set_cons_zero, List.set_cons_succ] at hK
              have e9 : vs 9 = (.int .u32 ((Dg.s1 x2 + x7 + Dg.s0 x15) % 4294967296)) := hd 9 (by kernel_rfl)
              have e14 : vs 14 = (.int .u32 x16) := hd 14 (by kernel_rfl)
              simp only [e9, e14] at hK ⊢
              clear e9 e14
              go_simp
              exact hK.out _ _ (int_u32 (by omega)) (Below.refl _ _)
            refine And.intro ?_ ?_
            · intro vs lo hi w' hM hd K' hK
              dsimp only at hK ⊢
              simp only [Act.put, List.setIfInBounds_toArray, List.set_cons_zero, List.set_cons_succ] at hK
              have e15 : vs 15 = (.int .u32 ((Dg.s1 x2 + x7 + Dg.s0 x15 + x16) % 4294967296)) := hd 15 (by kernel_rfl)
              simp only [e15] at hK ⊢
              clear e15
              go_simp
              exact hK.out _ _ (oneW_fact ((Dg.s1 x2 + x7 + Dg.s0 x15 + x16) % 4294967296) _) ((Below.refl _ _).alloc (Nat.le_refl _) _)
            exact trivial
          case last =>
            intro vs lo hi w' hM hlo hap hall K' Q' hK
            have h0 : vs 0 = (.slice (some ⟨g, 0, none⟩) j lc) := hall.1
            obtain ⟨e1, H1⟩ := hall.2.2.2.2.2.2.2.2.2.2.2.2.2.2.2.2.1
            dsimp only
            simp only [h0, e1]
            clear h0 e1 hap
            have hown := own_below HOWN.out hM
            obtain ⟨a2, c2, wA, hrun, hown', hgr⟩ := append_one (w := w') 60 49 (.int .u32 0) 4 Tryd.underlying60 infoWord rfl w.heap.size _ _ _ hown (m := 1) (c := 1) (news := [w32 ((Dg.s1 x2 + x7 + Dg.s0 x15 + x16) % 4294967296)]) rfl H1.out (by simp [Value.oneCell']) (by have := Hj.out; omega) (by have := Hj.out; omega) (by have h1 := hM.size; have h2 := HBJ.out.size; omega)
            rw [if_pos (by rfl)]
            refine Lib.wp_append_run _ (.tmp 80) (.tmp 96) 60 60 rfl _ _ (by simp [Act.eval]) (by simp [Act.eval]) _ _ hrun ?_
            have HBA : Hid (Below w.heap.size w wA) := (HBJ.out.trans (hM.mono HBJ.out.size)).grown hgr (by have h1 := hM.size; have h2 := HBJ.out.size; omega) (own_block hown)
            have HOWNA := hide hown'
            clear hown hrun hown' hgr
            refine hK.out _ _ (fun fuel hfuel => ?_)
            obtain ⟨f, rfl⟩ : ∃ f, fuel = f + 1 := ⟨fuel - 1, by have : 1 ≤ fuel := hfuel; omega⟩
            clear hK hM hlo H1 hall
            simp only [Act.put, List.setIfInBounds_toArray, List.set_cons_zero, List.set_cons_succ]
            refine wpAny_ready (rs := [18]) (by kernel_rfl) (by simp) ?_
            refine AllReady.cons rfl (fun K2 hK2 => ?_) AllReady.nil
            have HK2 := hide hK2
            clear hK2
            go_simp
            refine HK2.out _ _ ?_
            clear HK2
            refine wpAny_done (by kernel_rfl) ?_ _
            have hj := Hj.out
            go_wp2_with fail
            go_roundw
            case rel =>
              refine ⟨j + 1, a2, c2, by show 16 ≤ j + 1 ∧ j + 1 ≤ 64; omega, by go_num, rfl, ?_, HBA⟩
              unfold Hid
              rw [Dg.spread_succ bs j (by omega), Dg.spread_at bs j (by omega) (by omega), List.map_append, ← HXE2.out, ← HXE7.out, ← HXE15.out, ← HXE16.out]
              exact HOWNA.out
            case measure => simp [intOf]; omega
        · have hj64 : j = 64 := by have := Hj64.out; omega
          go_wp2_with fail
          go_ret
          subst hj64
          have ho := HOWN.out
          rw [List.take_of_length_le (by rw [Dg.spread_length]; omega)] at ho
          exact ⟨la, lc, rfl, ho, HBJ.out⟩
end Go.Proofs.YtfcbooagedjkfaaDoor
