/-
  Facts on values, for regions by facts: what With, Without, Get gave; a box just laid.
-/
import Derived.Test.YtpfbiklbecdmiaaRFacts
import Derived.Test.YtpfbiklbecdmiaaVWalksD
set_option linter.unusedVariables false
set_option linter.unusedSimpArgs false
namespace Go.Proofs.Ytpfbiklbecdmiaa
open Go.RowKit

/-- what With gave -/
def WithF (x : V) : Fact := fun lo hi v w => ∃ k n t a1 n1 c1 a2 n2 c2, v = .agg #[.int .i64 k, .int .i64 n, .string t, .slice a1 n1 c1, .slice a2 n2 c2] ∧ Hid (Is w (fun b => lo ≤ b ∧ b < hi) (.agg #[.int .i64 k, .int .i64 n, .string t, .slice a1 n1 c1, .slice a2 n2 c2]) x)
theorem mono_with (x : V) : Mono (WithF x) := by
  rintro lo hi v w w' ⟨k, n, t, a1, n1, c1, a2, n2, c2, rfl, h⟩ b
  exact ⟨k, n, t, a1, n1, c1, a2, n2, c2, rfl, h.out.below b⟩
theorem with_fact {w w' : World} {k n : Int} {t : ByteArray} {a1 : Option Addr} {n1 c1 : Nat} {a2 : Option Addr} {n2 c2 : Nat} {x : V} (h : Is w' (fun b => w.heap.size ≤ b) (.agg #[.int .i64 k, .int .i64 n, .string t, .slice a1 n1 c1, .slice a2 n2 c2]) x) :
    WithF x w.heap.size w'.heap.size (.agg #[.int .i64 k, .int .i64 n, .string t, .slice a1 n1 c1, .slice a2 n2 c2]) w' :=
  ⟨k, n, t, a1, n1, c1, a2, n2, c2, rfl, h.weak (fun b hb hs => ⟨hs, hb⟩)⟩
/-- a box just laid -/
def BoxNew : Fact := fun lo hi v w => v = .pointer (some ⟨lo, 0, none⟩) ∧ lo < hi ∧ Hid (BoxF w lo (.int .i64 0) (.int .i64 0) (.string ⟨#[]⟩) (.slice none 0 0) (.slice none 0 0))
theorem mono_box : Mono BoxNew := by
  rintro lo hi v w w' ⟨rfl, h1, h⟩ b
  exact ⟨rfl, h1, h.out.keep b⟩
theorem box_fact (w : World) : BoxNew w.heap.size (w.alloc (.cells #[.int .i64 0, .int .i64 0, .string ⟨#[]⟩, .slice none 0 0, .slice none 0 0] 25)).heap.size (.pointer (some ⟨w.heap.size, 0, none⟩)) (w.alloc (.cells #[.int .i64 0, .int .i64 0, .string ⟨#[]⟩, .slice none 0 0, .slice none 0 0] 25)) :=
  ⟨rfl, by simp, boxF_at w _ _ _ _ _ _ _ rfl⟩

end Go.Proofs.Ytpfbiklbecdmiaa
