/-
  Plain: the document's words of a block are those of the code.
-/
import Derived.Test.YtfcbooagedjkfaaDoorDTailsM
set_option linter.unusedVariables false
namespace Go.Proofs.YtfcbooagedjkfaaDoor
open Go.RowKit
namespace Dg

theorem sch_keep (l : List Int) (n j : Nat) (hj : j < 16 + n) : ∀ m, (sch l (n + m))[j]? = (sch l n)[j]?
  | 0 => rfl
  | m + 1 => by
    rw [← Nat.add_assoc, sch, List.getElem?_set, if_neg (by omega)]
    exact sch_keep l n j hj m
theorem sch_at (l : List Int) (n m : Nat) (hl : 16 + n < l.length) (hm : n + 1 ≤ m) :
    (sch l m)[16 + n]?.getD 0 = (s1 ((sch l m)[14 + n]?.getD 0) + (sch l m)[9 + n]?.getD 0 + s0 ((sch l m)[1 + n]?.getD 0) + (sch l m)[n]?.getD 0) % 4294967296 := by
  obtain ⟨d, rfl⟩ : ∃ d, m = n + 1 + d := ⟨m - (n + 1), by omega⟩
  have k1 : ∀ j, j < 16 + n → (sch l (n + 1 + d))[j]? = (sch l n)[j]? := fun j hj => by
    have := sch_keep l n j hj (1 + d)
    rw [← Nat.add_assoc] at this
    exact this
  rw [sch_keep l (n + 1) (16 + n) (by omega) d, k1 _ (by omega), k1 _ (by omega), k1 _ (by omega), k1 _ (by omega), sch, List.getElem?_set, if_pos rfl, if_pos (by rw [sch_length]; exact hl)]
  rfl
theorem spread_at (bs : List Int) (t : Nat) (h1 : 16 ≤ t) (h2 : t < 64) :
    (spread bs)[t]?.getD 0 = (s1 ((spread bs)[t - 2]?.getD 0) + (spread bs)[t - 7]?.getD 0 + s0 ((spread bs)[t - 15]?.getD 0) + (spread bs)[t - 16]?.getD 0) % 4294967296 := by
  obtain ⟨n, rfl⟩ : ∃ n, t = 16 + n := ⟨t - 16, by omega⟩
  rw [show 16 + n - 2 = 14 + n by omega, show 16 + n - 7 = 9 + n by omega, show 16 + n - 15 = 1 + n by omega, show 16 + n - 16 = n by omega]
  exact sch_at (acc bs 64) n 48 (by rw [acc_length]; omega) (by omega)

theorem acc_keep (bs : List Int) (k j : Nat) (hj : 4 * j + 4 ≤ k) : ∀ m, (acc bs (k + m))[j]? = (acc bs k)[j]?
  | 0 => rfl
  | m + 1 => by
    rw [← Nat.add_assoc, acc, List.getElem?_set, if_neg (by omega)]
    exact acc_keep bs k j hj m
theorem acc_ahead (bs : List Int) (j : Nat) (hj : j < 64) : ∀ k, k ≤ 4 * j → (acc bs k)[j]? = some 0
  | 0, _ => by
    show (List.replicate 64 (0 : Int))[j]? = some 0
    rw [List.getElem?_replicate, if_pos hj]
  | k + 1, h => by
    rw [acc, List.getElem?_set, if_neg (by omega)]
    exact acc_ahead bs j hj k (by omega)
theorem acc_step (bs : List Int) (k j : Nat) (hk : k / 4 = j) (hj : j < 64) : (acc bs (k + 1))[j]?.getD 0 = bits .or .u32 ((acc bs k)[j]?.getD 0 * 256 % 4294967296) (bs[k]?.getD 0) := by
  rw [acc, hk, List.getElem?_set, if_pos rfl, if_pos (by rw [acc_length]; exact hj)]
  rfl
/-- a word of a block, as the document puts it together -/
def wd (bs : List Int) (i : Nat) : Int := bits .or .u32 (bits .or .u32 (bits .or .u32 (bs[4 * i]?.getD 0 * 16777216) (bs[4 * i + 1]?.getD 0 * 65536)) (bs[4 * i + 2]?.getD 0 * 256)) (bs[4 * i + 3]?.getD 0)
theorem join32 {x y : Int} (hy0 : 0 ≤ y) (hy : y < 256) (hx0 : 0 ≤ x) (hx : x < 16777216) : bits .or .u32 (x * 256 % 4294967296) y = x * 256 + y := by
  rw [bits_or_comm, u32_or8 _ _ hy0 hy (by omega) (by omega) (by omega)]
  omega
theorem wd_acc (bs : List Int) (h8 : B8 bs) (i : Nat) (hi : i < 16) : (acc bs 64)[i]?.getD 0 = wd bs i := by
  have k64 := acc_keep bs (4 * i + 4) i (Nat.le_refl _) (64 - (4 * i + 4))
  rw [show 4 * i + 4 + (64 - (4 * i + 4)) = 64 by omega] at k64
  rw [k64]
  have y0 := h8 (4 * i)
  have y1 := h8 (4 * i + 1)
  have y2 := h8 (4 * i + 2)
  have y3 := h8 (4 * i + 3)
  have e0 : (acc bs (4 * i + 1))[i]?.getD 0 = bs[4 * i]?.getD 0 := by
    rw [acc_step bs (4 * i) i (by omega) (by omega), acc_ahead bs i (by omega) (4 * i) (Nat.le_refl _)]
    rw [Option.getD_some, join32 y0.1 (by omega) (by omega) (by omega)]
    omega
  have e1 : (acc bs (4 * i + 2))[i]?.getD 0 = bs[4 * i]?.getD 0 * 256 + bs[4 * i + 1]?.getD 0 := by
    rw [acc_step bs (4 * i + 1) i (by omega) (by omega), e0, join32 y1.1 (by omega) y0.1 (by omega)]
  have e2 : (acc bs (4 * i + 3))[i]?.getD 0 = (bs[4 * i]?.getD 0 * 256 + bs[4 * i + 1]?.getD 0) * 256 + bs[4 * i + 2]?.getD 0 := by
    rw [acc_step bs (4 * i + 2) i (by omega) (by omega), e1, join32 y2.1 (by omega) (by omega) (by omega)]
  rw [acc_step bs (4 * i + 3) i (by omega) (by omega), e2, join32 y3.1 (by omega) (by omega) (by omega)]
  have f1 : bits .or .u32 (bs[4 * i]?.getD 0 * 16777216) (bs[4 * i + 1]?.getD 0 * 65536) = bs[4 * i + 1]?.getD 0 * 65536 + bs[4 * i]?.getD 0 * 16777216 := by
    rw [bits_or_comm]
    exact u32_or24 _ _ (by omega) (by omega) (by omega) (by omega) (by omega)
  have f2 : bits .or .u32 (bs[4 * i + 1]?.getD 0 * 65536 + bs[4 * i]?.getD 0 * 16777216) (bs[4 * i + 2]?.getD 0 * 256) = bs[4 * i + 2]?.getD 0 * 256 + (bs[4 * i + 1]?.getD 0 * 65536 + bs[4 * i]?.getD 0 * 16777216) := by
    rw [bits_or_comm]
    exact u32_or16 _ _ (by omega) (by omega) (by omega) (by omega) (by omega)
  have f3 : bits .or .u32 (bs[4 * i + 2]?.getD 0 * 256 + (bs[4 * i + 1]?.getD 0 * 65536 + bs[4 * i]?.getD 0 * 16777216)) (bs[4 * i + 3]?.getD 0) = bs[4 * i + 3]?.getD 0 + (bs[4 * i + 2]?.getD 0 * 256 + (bs[4 * i + 1]?.getD 0 * 65536 + bs[4 * i]?.getD 0 * 16777216)) := by
    rw [bits_or_comm]
    exact u32_or8 _ _ (by omega) (by omega) (by omega) (by omega) (by omega)
  unfold wd
  rw [f1, f2, f3]
  omega
theorem spread_front (bs : List Int) (h8 : B8 bs) (i : Nat) (hi : i < 16) : (spread bs)[i]?.getD 0 = wd bs i := by
  rw [← wd_acc bs h8 i hi]
  unfold spread
  have := sch_keep (acc bs 64) 0 i (by omega) 48
  rw [Nat.zero_add] at this
  rw [this]
  rfl
theorem spread_succ (bs : List Int) (t : Nat) (h : t < 64) : (spread bs).take (t + 1) = (spread bs).take t ++ [(spread bs)[t]?.getD 0] := by
  rw [List.take_succ_eq_append_getElem (by rw [spread_length]; exact h), List.getElem?_eq_getElem (by rw [spread_length]; exact h)]
  rfl
end Dg
end Go.Proofs.YtfcbooagedjkfaaDoor
