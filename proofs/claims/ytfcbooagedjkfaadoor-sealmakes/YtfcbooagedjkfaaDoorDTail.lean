/-
  THE WALK of Tail.
-/
import Derived.Test.YtfcbooagedjkfaaDoorDBytes
set_option linter.unusedVariables false
set_option linter.unusedSimpArgs false
namespace Go.Proofs.YtfcbooagedjkfaaDoor
open Go.RowKit

theorem made_at (q j : Nat) (h : j < q) : (madeCells #[b8 0] q)[j]? = some (b8 0) := by
  have := congrArg (·[j]?) (toList_madeCells_one (b8 0) q)
  simp only [Array.getElem?_toList] at this
  rw [this]
  simp [h]

theorem tail_own (w : World) (q : Nat) (hq : q ≤ 63) :
    (w.alloc (.cells ((madeCells #[b8 0] (9 + q)).setIfInBounds 0 (b8 128)) 5)).ownsRow w.heap.size 5 1 (.slice (some ⟨w.heap.size, 0, none⟩) (1 + q) (9 + q)) (1 + q) (b8 128 :: List.replicate q (b8 0)) := by
  refine ⟨by simp; omega, .inr ⟨w.heap.size, 9 + q, _, rfl, Nat.le_refl _, blk_new w 5 _, by omega, by simp [maxLen]; omega, by simp [size_madeCells], ?_⟩⟩
  rw [Array.toList_setIfInBounds, toList_madeCells_one, show 9 + q = (1 + q - 1 + 8) + 1 by omega, List.replicate_succ, List.set_cons_zero, show (1 + q) * 1 = q + 1 by omega, List.take_succ_cons, List.take_replicate]
  rw [show min q (1 + q - 1 + 8) = q by omega]

theorem noughts_walk (n : Int) (h0 : 0 ≤ n) (h1 : n < 18446744073709551616) : wrap64 ((IntKind.u64.wrap (55 - n)).tmod 64) = (Dg.noughts n : Int) := by
  unfold Dg.noughts wrap64
  rw [IntKind.wrap_u64, Int.tmod_eq_emod_of_nonneg (by omega)]
  omega

set_option maxHeartbeats 1000000 in
theorem tail_any (n : Int) (w : World) (h0 : 0 ≤ n) (h1 : n < 18446744073709551616) :
    Calls Tryd.prog 55 #[.int .u64 n] w fun e w' => ∃ g m, Hid (m = (Dg.tail n).length) ∧ e = .returned (.slice (some ⟨g, 0, none⟩) m m) ∧
      w'.ownsRow w.heap.size 5 1 (.slice (some ⟨g, 0, none⟩) m m) m ((Dg.tail n).map b8) ∧ Below w.heap.size w w' := by
  obtain ⟨i0, hi, hz0, hz1, hz2⟩ := info_parts infoByte
  obtain ⟨q, hq⟩ : ∃ q, Dg.noughts n = q := ⟨_, rfl⟩
  have hq63 : q ≤ 63 := by rw [← hq]; exact Dg.noughts_le n
  have en := noughts_walk n h0 h1
  rw [hq] at en
  have HQ := hide hq
  have HEN := hide en
  have hmk : (Instr.makeSlice 22 (.int .i64 (1 + (q : Int))) (.int .i64 (1 + (q : Int) + 8))).run Tryd.prog w = .ok (.slice (some ⟨w.heap.size, 0, none⟩) (1 + q) (9 + q)) (w.alloc (.cells (madeCells #[b8 0] (9 + q)) 5)) := by
    have := run_make (P := Tryd.prog) w 22 5 i0 _ Tryd.underlying22 hi hz0 .i64 .i64 (1 + (q : Int)) (1 + (q : Int) + 8) (by omega) (by omega) (by rw [hz2]; omega) (by omega)
    rw [hz1, show (1 + (q : Int)).toNat = 1 + q by omega, show (1 + (q : Int) + 8).toNat = 9 + q by omega, Nat.mul_one] at this
    exact this
  have hB := blk_new w 5 (madeCells #[b8 0] (9 + q))
  have hc0 := (hB.cell 0).trans (made_at _ _ (by omega))
  have hf0 := hB.frozen 0
  clear hq en hi hz0 hz1 hz2 hB
  go_enter Tryd.func55, Tryd.ntmps55
  go_upto_region 2 with fail
  simp only [HEN.out]
  clear HEN
  go_wp2_with fail
  have e8 := IntKind.wrap_u64 (n * 8)
  rw [e8]
  clear e8
  refine (great_any w.heap.size w.heap.size (1 + q) (9 + q) _ (n * 8 % 18446744073709551616) 8 _ (tail_own w q hq63) (by omega) (by omega) (by omega) (by simp) (Nat.le_refl _)).mono ?_
  rintro e w3 ⟨rfl, hown3, b3⟩
  clear hmk hc0 hf0
  go_wp2_with fail
  go_ret
  refine ⟨w.heap.size, 9 + q, by show 9 + q = _; rw [Dg.tail_length, HQ.out]; omega, ?_, ?_, ?_⟩
  · rw [show 1 + q + 8 = 9 + q by omega]
    rfl
  · rw [show 1 + q + 8 = 9 + q by omega] at hown3
    have : (Dg.tail n).map b8 = b8 128 :: List.replicate q (b8 0) ++ (Dg.be (n * 8 % 18446744073709551616) 8).map b8 := by
      unfold Dg.tail
      rw [HQ.out]
      simp
    rw [this]
    exact hown3
  · exact ((Below.refl _ _).alloc (Nat.le_refl _) _).trans b3
end Go.Proofs.YtfcbooagedjkfaaDoor
