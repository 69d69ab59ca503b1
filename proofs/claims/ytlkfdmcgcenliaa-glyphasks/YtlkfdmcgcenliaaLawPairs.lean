/-
  THE WALK over the law GlyphPairs.
-/
import Derived.Test.YtlkfdmcgcenliaaLawTold
import Derived.Test.YtlkfdmcgcenliaaLawConv
import Derived.BigRegion
import Derived.Test.YtlkfdmcgcenliaaGlyphMathE
set_option linter.unusedVariables false
set_option linter.unusedSimpArgs false
namespace Go.Proofs.Ytlkfdmcgcenliaa
open Go.RowKit

theorem dig_at : ∀ (k : Nat) (h : k < (⟨#[48, 49, 50, 51, 52, 53, 54, 55, 56, 57, 97, 98, 99, 100, 101, 102]⟩ : ByteArray).size), (⟨#[48, 49, 50, 51, 52, 53, 54, 55, 56, 57, 97, 98, 99, 100, 101, 102]⟩ : ByteArray)[k]'h = Gm.hexd k := fun
  | 0, _ => rfl
  | 1, _ => rfl
  | 2, _ => rfl
  | 3, _ => rfl
  | 4, _ => rfl
  | 5, _ => rfl
  | 6, _ => rfl
  | 7, _ => rfl
  | 8, _ => rfl
  | 9, _ => rfl
  | 10, _ => rfl
  | 11, _ => rfl
  | 12, _ => rfl
  | 13, _ => rfl
  | 14, _ => rfl
  | 15, _ => rfl
  | n + 16, h => absurd h (by show ¬ n + 16 < 16; omega)
theorem str4 (a b c d : UInt8) : (⟨#[92, 117]⟩ : ByteArray) ++ ⟨#[a, b, c, d]⟩ = ⟨#[92, 117, a, b, c, d]⟩ := rfl

set_option maxHeartbeats 1000000 in
theorem hex_any (n : Nat) (w : World) (hn : n < 65536) :
    Calls Try.prog 18 #[.int .i64 n] w fun e w' => e = .returned (.string ⟨(Gm.hexl n).toArray⟩) ∧ Below w.heap.size w w' := by
  have kc := conv4_drew w
  have q0 : 0 ≤ (n : Int) / 4096 % 16 ∧ (n : Int) / 4096 % 16 < 16 := by omega
  have q1 : 0 ≤ (n : Int) / 256 % 16 ∧ (n : Int) / 256 % 16 < 16 := by omega
  have q2 : 0 ≤ (n : Int) / 16 % 16 ∧ (n : Int) / 16 % 16 < 16 := by omega
  have q3 : 0 ≤ (n : Int) % 16 ∧ (n : Int) % 16 < 16 := by omega
  go_enter Try.func18, Try.ntmps18
  go_wp2
  go_region
  go_wp2
  go_ret
  refine ⟨ret_str ?_, ((Below.refl _ _).alloc (Nat.le_refl _) _).drew⟩
  rw [str4, dig_at, dig_at, dig_at, dig_at]
  rfl
theorem hex_is (n : Nat) (H : ByteArray) (w : World) (hn : n < 65536) (h : H.data.toList = Gm.hexl n) :
    Calls Try.prog 18 #[.int .i64 n] w fun e w' => e = .returned (.string H) ∧ Below w.heap.size w w' := by
  have := hex_any n w hn
  rw [← h, str_eta] at this
  exact this

set_option maxHeartbeats 1000000 in
theorem four_bytes (r : Nat) (w : World) (hr : r ≤ 1114111) :
    Calls Try.prog 19 #[.int .i64 r] w fun e w' => e = .returned (.string ⟨(Gm.encZ r).toArray⟩) ∧ Below w.heap.size w w' := by
  have hbel : ∀ o, Below w.heap.size w (w.alloc o) := fun o => (Below.refl _ _).alloc (Nat.le_refl _) o
  unfold Gm.encZ
  by_cases g1 : r < 128
  · rw [if_pos g1]
    have g1' : (r : Int) < 128 := by omega
    have kc := conv1 w
    go_enter Try.func19, Try.ntmps19
    go_wp2
    go_ret
    refine ⟨ret_str ?_, hbel _⟩
    first | rfl | simp [Nat.toUInt8, UInt8.ofNat_add]
  · rw [if_neg g1]
    have g1' : ¬ (r : Int) < 128 := by omega
    by_cases g2 : r < 2048
    · rw [if_pos g2]
      have g2' : (r : Int) < 2048 := by omega
      have kc := conv2 w
      go_enter Try.func19, Try.ntmps19
      go_wp2
      go_ret
      refine ⟨ret_str ?_, hbel _⟩
      first | rfl | simp [Nat.toUInt8, UInt8.ofNat_add]
    · rw [if_neg g2]
      have g2' : ¬ (r : Int) < 2048 := by omega
      by_cases g3 : r < 65536
      · rw [if_pos g3]
        have g3' : (r : Int) < 65536 := by omega
        have kc := conv3 w
        go_enter Try.func19, Try.ntmps19
        go_wp2
        go_ret
        refine ⟨ret_str ?_, hbel _⟩
        first | rfl | simp [Nat.toUInt8, UInt8.ofNat_add]
      · rw [if_neg g3]
        have g3' : ¬ (r : Int) < 65536 := by omega
        have kc := conv4 w
        go_enter Try.func19, Try.ntmps19
        go_wp2
        go_ret
        refine ⟨ret_str ?_, hbel _⟩
        first | rfl | simp [Nat.toUInt8, UInt8.ofNat_add]

end Go.Proofs.Ytlkfdmcgcenliaa
