/-
  THE WALKS over package value: Right.
-/
import Derived.Test.YtpfbiklbecdmiaaVWalks
set_option linter.unusedVariables false
set_option linter.unusedSimpArgs false
namespace Go.Proofs.Ytpfbiklbecdmiaa
open Go.RowKit

theorem beq_nat (a b : Nat) : ((a : Int) == (b : Int)) = decide (a = b) := by
  rw [Bool.eq_iff_iff, beq_iff_eq, decide_eq_true_eq]; omega

theorem len_empty {α : Type} (l : List α) : ((l.length : Int) == 0) = l.isEmpty := by
  cases l with
  | nil => rfl
  | cons x l => simp; omega

/-- a string of a row, where it lies -/
theorem str_at {w w' : World} {S : Nat → Prop} {a : Option Addr} {ks : List ByteArray} (h : Cells w S a ks.length (fun i => .string (ks.getD i ByteArray.empty))) (k : Below w.heap.size w w') {i : Nat} (hi : i < ks.length) :
    ∃ b off K, a = some ⟨b, off, none⟩ ∧ Hid (K = ks.getD i ByteArray.empty) ∧ w'.cell? ⟨b, off + i, none⟩ = some (.string K) := by
  obtain ⟨b, off, ha, _, hc⟩ := (h.keep (Keeps.of_below k)) (by omega)
  exact ⟨b, off, _, ha, rfl, hc i hi⟩

end Go.Proofs.Ytpfbiklbecdmiaa
