/-
  Plain: the tail's bytes.
-/
import Derived.Test.YtfcbooagedjkfaaDoorDSum
import Derived.OpenShut
import Derived.Lib.EndianBits
set_option linter.unusedVariables false
set_option linter.unusedSimpArgs false
namespace Go.Proofs.YtfcbooagedjkfaaDoor
open Go.RowKit

theorem bits_or_comm (k : IntKind) (x y : Int) : bits .or k x y = bits .or k y x := by simp [bits, BitVec.or_comm]
theorem or_join {y : Int} (h0 : 0 ≤ y) (h1 : y < 18446744073709551616) : bits .or .u64 (y / 256 * 256 % 18446744073709551616) (y % 256) = y := by
  rw [bits_or_comm, u64_or8 _ _ (by omega) (by omega) (by omega) (by omega) (by omega)]
  omega
/-- what stands at each place of a tail -/
theorem tail_at (n : Int) (q : Nat) (hq : Dg.noughts n = q) (i : Nat) : (Dg.tail n)[i]?.getD 0 = if i = 0 then 128 else if i < 1 + q then 0 else (Dg.be (n * 8 % 18446744073709551616) 8)[i - 1 - q]?.getD 0 := by
  unfold Dg.tail
  rw [hq]
  cases i with
  | zero => simp
  | succ i =>
    rw [List.getElem?_cons_succ, List.getElem?_append]
    simp only [List.length_replicate]
    by_cases h : i < q
    · simp [h, show i + 1 < 1 + q by omega]
    · simp [h, show ¬ (i + 1 < 1 + q) by omega, show i + 1 - 1 - q = i - q by omega]
theorem be_at (x : Int) (m j : Nat) (h : j < m) : (Dg.be x m)[j]?.getD 0 = x / 2 ^ (8 * (m - 1 - j)) % 256 := by
  induction m generalizing j with
  | zero => omega
  | succ m ih =>
    cases j with
    | zero => simp [Dg.be]
    | succ j => rw [Dg.be, List.getElem?_cons_succ, ih j (by omega), show m + 1 - 1 - (j + 1) = m - 1 - j by omega]
end Go.Proofs.YtfcbooagedjkfaaDoor
