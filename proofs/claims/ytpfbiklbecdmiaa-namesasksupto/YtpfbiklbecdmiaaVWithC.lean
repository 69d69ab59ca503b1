/-
  THE WALKS over package value: With.
-/
import Derived.Test.YtpfbiklbecdmiaaVWithB
set_option linter.unusedVariables false
set_option linter.unusedSimpArgs false
namespace Go.Proofs.Ytpfbiklbecdmiaa
open Go.RowKit

/-- a slice written out, of one text -/
theorem raw_one_str (w : World) (s : ByteArray) (S : Nat → Prop) (g : Nat) (hg : g = w.heap.size) (hS : S g) : Raw (w.alloc (.cells #[.string s] 9)) S (.slice (some ⟨g, 0, none⟩) 1 1) 1 1 [.string s] := by
  subst hg
  refine ⟨_, _, rfl, Nat.le_refl _, by decide, rfl, by simp [Value.oneCell'], fun _ => ⟨_, 0, rfl, hS, fun i hi => ?_⟩⟩
  have : i = 0 := by omega
  subst this
  exact cell_new w _ _ _ rfl

/-- a slice written out, of one value -/
theorem raw_one_val (w : World) (k n : Int) (t : ByteArray) (a1 : Option Addr) (n1 c1 : Nat) (a2 : Option Addr) (n2 c2 : Nat) (S : Nat → Prop) (g : Nat) (hg : g = w.heap.size) (hS : S g) :
    Raw (w.alloc (.cells #[.int .i64 k, .int .i64 n, .string t, .slice a1 n1 c1, .slice a2 n2 c2] 25)) S (.slice (some ⟨g, 0, none⟩) 1 1) 5 1 (cellsQ [(.int .i64 k, .int .i64 n, .string t, .slice a1 n1 c1, .slice a2 n2 c2)]) := by
  subst hg
  refine ⟨_, _, rfl, Nat.le_refl _, by decide, rfl, by simp [cellsQ, five, Value.oneCell'], fun _ => ⟨_, 0, rfl, hS, fun i hi => ?_⟩⟩
  obtain ⟨h0, h1, h2, h3, h4⟩ := box5_new w (.int .i64 k) (.int .i64 n) (.string t) (.slice a1 n1 c1) (.slice a2 n2 c2) 25
  have : i = 0 ∨ i = 1 ∨ i = 2 ∨ i = 3 ∨ i = 4 := by omega
  rcases this with rfl | rfl | rfl | rfl | rfl
  · exact h0
  · exact h1
  · exact h2
  · exact h3
  · exact h4

theorem raw_nil (w : World) (S : Nat → Prop) (sz : Nat) : Raw w S (.slice none 0 0) sz 0 [] :=
  ⟨none, 0, rfl, Nat.le_refl _, by decide, by simp, by simp, fun hh => absurd hh (by simp)⟩

end Go.Proofs.Ytpfbiklbecdmiaa
