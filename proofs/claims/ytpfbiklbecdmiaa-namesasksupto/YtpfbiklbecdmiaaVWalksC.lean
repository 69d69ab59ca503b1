/-
  THE WALKS over package value: Same.
-/
import Derived.Test.YtpfbiklbecdmiaaVWalks
import Derived.WalkSmall
set_option linter.unusedVariables false
set_option linter.unusedSimpArgs false
namespace Go.Proofs.Ytpfbiklbecdmiaa
open Go.RowKit

theorem ret_bool {a b : Bool} (h : a = b) : Ending.returned (.bool a) = .returned (.bool b) := by rw [h]

theorem box5_at (w : World) (c0 c1 c2 c3 c4 : Value) (t : TypeId) (g : Nat) (h : g = w.heap.size) : Box5 (w.alloc (.cells #[c0, c1, c2, c3, c4] t)) g c0 c1 c2 c3 c4 := by
  subst h; exact box5_new w c0 c1 c2 c3 c4 t

theorem bytes_ne {t t' : ByteArray} (h : ¬ t = t') : (t.toList == t'.toList) = false := by
  rw [Bool.eq_false_iff]
  intro hh
  rw [beq_iff_eq, Lib.toList_data, Lib.toList_data] at hh
  exact h (ByteArray.ext (Array.ext' hh))

/-- an element of a list of values, where it lies, written out -/
theorem isL_open {w w' : World} {S : Nat → Prop} {a : Option Addr} {m cap : Nat} {l : List V} (h : IsL w S (.slice a m cap) l) (k : Below w.heap.size w w') {i : Nat} (hi : i < l.length) :
    ∃ b off k n t a1 n1 c1 a2 n2 c2, a = some ⟨b, off, none⟩ ∧ Is w' S (.agg #[.int .i64 k, .int .i64 n, .string t, .slice a1 n1 c1, .slice a2 n2 c2]) l[i] ∧ w'.cell? ⟨b, off + i * 5, none⟩ = some (.int .i64 k) ∧ w'.cell? ⟨b, off + i * 5 + 1, none⟩ = some (.int .i64 n) ∧ w'.cell? ⟨b, off + i * 5 + 2, none⟩ = some (.string t) ∧ w'.cell? ⟨b, off + i * 5 + 3, none⟩ = some (.slice a1 n1 c1) ∧ w'.cell? ⟨b, off + i * 5 + 4, none⟩ = some (.slice a2 n2 c2) := by
  obtain ⟨a', cap', c, h1, h2, h3, h4, h5⟩ := h
  simp only [Value.slice.injEq] at h1
  obtain ⟨rfl, rfl, rfl⟩ := h1
  obtain ⟨d, hd⟩ := h5 i hi
  obtain ⟨b, off, k, n, t, a1, n1, c1, a2, n2, c2, q0, q1, q2⟩ := elem_open h4 k hi hd
  exact ⟨b, off, k, n, t, a1, n1, c1, a2, n2, c2, q0, ⟨d, q1⟩, q2⟩

theorem isL_len {w : World} {S : Nat → Prop} {a : Option Addr} {m cap : Nat} {l : List V} (h : IsL w S (.slice a m cap) l) : m = l.length ∧ m ≤ cap ∧ cap ≤ maxLen := by
  obtain ⟨a', cap', c, h1, h2, h3, h4, h5⟩ := h
  simp only [Value.slice.injEq] at h1
  obtain ⟨rfl, rfl, rfl⟩ := h1
  exact ⟨rfl, h2, h3⟩

end Go.Proofs.Ytpfbiklbecdmiaa
