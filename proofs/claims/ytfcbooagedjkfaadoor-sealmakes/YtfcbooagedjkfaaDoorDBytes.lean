/-
  THE WALKS of bytes: greatestFirst, bytes, Tail.
-/
import Derived.Test.YtfcbooagedjkfaaDoorDAdd
import Derived.OwnWalk
import Derived.Maps.AppendAt
set_option linter.unusedVariables false
set_option linter.unusedSimpArgs false
namespace Go.Proofs.YtfcbooagedjkfaaDoor
open Go.RowKit

theorem infoByte : (Tryd.prog.info? 5).map (fun i => (i.zero, i.size, i.bytes)) = some (some (.int .u8 0), 1, 1) := by kernel_rfl

set_option maxHeartbeats 1000000 in
theorem great_any (base g n cap : Nat) (xs : List Value) (x : Int) (k : Nat) (w : World) (hown : w.ownsRow base 5 1 (.slice (some ⟨g, 0, none⟩) n cap) n xs) (hfit : n + k ≤ cap) (hx : 0 ≤ x) (hk : k ≤ 8) (hb : base ≤ w.heap.size) (hg : base ≤ g) :
    Calls Tryd.prog 66 #[.slice (some ⟨g, 0, none⟩) n cap, .int .u64 x, .int .i64 k] w fun e w' => e = .returned (.slice (some ⟨g, 0, none⟩) (n + k) cap) ∧
      w'.ownsRow base 5 1 (.slice (some ⟨g, 0, none⟩) (n + k) cap) (n + k) (xs ++ (Dg.be x k).map b8) ∧ Below base w w' := by
  obtain ⟨i0, hi, hz0, hz1, hz2⟩ := info_parts infoByte
  have HOW := hide hown
  clear hown
  go_enter Tryd.func66, Tryd.ntmps66
  go_wp2_with fail
  go_loopw [0, 7] (fun v i wr => ∃ (m j : Nat) (iv : Int) (pre : List Int), Hid (m + j = k) ∧ v = .slice (some ⟨g, 0, none⟩) (n + j) cap ∧ i = .int .i64 iv ∧ Hid (iv = (m : Int) - 1) ∧ Hid (pre ++ Dg.be x m = Dg.be x k) ∧ Hid (pre.length = j) ∧ Hid (wr.ownsRow base 5 1 (.slice (some ⟨g, 0, none⟩) (n + j) cap) (n + j) (xs ++ pre.map b8)) ∧ Hid (Below base w wr)) (fun _ i _ => (intOf i + 1).toNat)
  case atStart => exact ⟨k, 0, _, [], by show k + 0 = k; omega, rfl, rfl, rfl, rfl, rfl, by simpa using HOW, Below.refl _ _⟩
  case round =>
    obtain ⟨m, j, iv, pre, Hm, rfl, rfl, Hi, Hp, Hl, Ho, HB⟩ := hrel
    have h7 : iv ≤ 7 := by have := Hi.out; have := Hm.out; omega
    by_cases h0 : 0 ≤ iv
    · have hjc : n + j + 1 ≤ cap := by have := Hi.out; have := Hm.out; omega
      go_wp2_with (at_builtin; refine wpList_append_fits _ rfl _ _ 22 rfl base 5 i0 1 Tryd.underlying22 hi hz1 g (n + j) cap (xs ++ pre.map b8) rfl (Ho.out.alloc _) ⟨wr.heap.size, 0, none⟩ 1 1 [b8 (x / 2 ^ (8 * iv).toNat % 256)] rfl rfl (cell_one_new _ _ _) (by simp [Value.oneCell']) hjc ?_; intro w1 hown1 hgrow1)
      have hb1 : Below base w w1 := (HB.out.alloc (Nat.le_trans hb HB.out.size) _).grown hgrow1 (by have := HB.out.size; simp; omega) (fun q hq => by cases hq; exact hg)
      go_roundw
      case rel =>
        obtain ⟨m', rfl⟩ : ∃ m', m = m' + 1 := ⟨m - 1, by have := Hi.out; omega⟩
        have hiv : iv = (m' : Int) := by have := Hi.out; omega
        refine ⟨m', j + 1, _, pre ++ [x / 2 ^ (8 * m') % 256], by have := Hm.out; show m' + (j + 1) = k; omega, rfl, rfl, by show iv - 1 = (m' : Int) - 1; omega, ?_, ?_, ?_, hb1⟩
        · show pre ++ [x / 2 ^ (8 * m') % 256] ++ Dg.be x m' = Dg.be x k
          rw [← Hp.out]
          simp [Dg.be]
        · show (pre ++ [_]).length = j + 1
          simp [Hl.out]
        · have e8 : (8 * iv).toNat = 8 * m' := by omega
          rw [e8] at hown1
          unfold Hid
          rw [← Nat.add_assoc]
          simpa [List.append_assoc] using hown1
      case measure => simp [intOf]; omega
    · go_wp2_with fail
      go_ret
      have hm0 : m = 0 := by have := Hi.out; omega
      subst hm0
      have hj : j = k := by have := Hm.out; omega
      subst hj
      have hp := Hp.out
      simp only [Dg.be, List.append_nil] at hp
      rw [← hp]
      exact ⟨rfl, Ho.out, HB.out⟩

set_option maxHeartbeats 1000000 in
theorem bytes_any (g t : Nat) (s : List Int) (rest : Array Value) (w : World) (hs : s.length = 8) (hb : Blk w g t (wds s ++ rest)) (h32 : ∀ i : Nat, 0 ≤ s[i]?.getD 0 ∧ s[i]?.getD 0 ≤ 4294967295) :
    Calls Tryd.prog 56 #[.pointer (some ⟨g, 0, none⟩)] w fun e w' => ∃ g', e = .returned (.slice (some ⟨g', 0, none⟩) 32 32) ∧
      w'.ownsRow w.heap.size 5 1 (.slice (some ⟨g', 0, none⟩) 32 32) 32 ((s.flatMap (Dg.be · 4)).map b8) ∧ Below w.heap.size w w' := by
  obtain ⟨i0, hi, hz0, hz1, hz2⟩ := info_parts infoByte
  have HBg := hide hb
  have HS := hide hs
  clear hb hs
  go_enter Tryd.func56, Tryd.ntmps56
  go_wp2_with (at_make; refine wpList_make_own _ rfl _ _ 22 rfl w.heap.size 5 i0 (.int .u8 0) 1 Tryd.underlying22 hi hz0 hz1 _ _ _ 32 rfl rfl rfl (by rw [hz2]; omega) (by simp [maxLen]) (Nat.le_refl _) ?_; intro w1 hown1 hgrow1)
  have HO1 := hide hown1
  have HB1 : Hid (Below w.heap.size w w1) := (Below.refl _ _).grown hgrow1 (Nat.le_refl _) (fun q hq => by cases hq)
  clear hown1 hgrow1
  go_loopw [3, 8] (fun v i wr => ∃ k : Nat, k ≤ 8 ∧ i = .int .i64 k ∧ v = .slice (some ⟨w.heap.size, 0, none⟩) (4 * k) 32 ∧ Hid (wr.ownsRow w.heap.size 5 1 (.slice (some ⟨w.heap.size, 0, none⟩) (4 * k) 32) (4 * k) (((s.take k).flatMap (Dg.be · 4)).map b8)) ∧ Hid (Below w.heap.size w wr)) (fun _ i _ => 8 - (intOf i).toNat)
  case atStart => exact ⟨0, by omega, rfl, rfl, by simpa using HO1, HB1⟩
  case round =>
    obtain ⟨k, hk, rfl, rfl, HO, HB⟩ := hrel
    by_cases hlt : k < 8
    · have hcell := ((HBg.out.below' HB.out).cell k).trans (app_at (by rw [HS.out]; exact hlt))
      have hbd := h32 k
      go_wp2_with fail
      refine (great_any w.heap.size w.heap.size (4 * k) 32 _ (s[k]?.getD 0) 4 _ HO.out (by omega) (by omega) (by omega) HB.out.size (Nat.le_refl _)).mono ?_
      rintro e w3 ⟨rfl, hown3, b3⟩
      clear hcell
      go_wp2_with fail
      go_roundw
      case rel =>
        refine ⟨k + 1, by omega, by go_num, by rw [Nat.mul_add], ?_, HB.out.trans b3⟩
        unfold Hid
        rw [Nat.mul_add]
        have e : s.take (k + 1) = s.take k ++ [s[k]?.getD 0] := by
          rw [List.take_succ_eq_append_getElem (by rw [HS.out]; exact hlt)]
          simp [show k < s.length by rw [HS.out]; exact hlt]
        rw [e, List.flatMap_append, List.map_append]
        simpa using hown3
      case measure => simp [intOf]; omega
    · have hk8 : k = 8 := by omega
      go_wp2_with fail
      go_ret
      subst hk8
      have h := HO.out
      rw [List.take_of_length_le (by rw [HS.out]; omega)] at h
      exact ⟨w.heap.size, rfl, h, HB.out⟩

end Go.Proofs.YtfcbooagedjkfaaDoor
