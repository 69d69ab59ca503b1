/-
  What the laws of layer 2 share: known.
-/
import Derived.Test.YtpfbiklbecdmiaaVWalksB
import Derived.Test.YtpfbiklbecdmiaaVWithE
import Derived.Test.YtpfbiklbecdmiaaVField
set_option linter.unusedVariables false
set_option linter.unusedSimpArgs false
namespace Go.Proofs.Ytpfbiklbecdmiaa
open Go.RowKit

/-- the fields of a value that is told -/
theorem Is.parts {w : World} {S : Nat → Prop} {k n : Int} {t : ByteArray} {a1 : Option Addr} {n1 c1 : Nat} {a2 : Option Addr} {n2 c2 : Nat} {x : V} (h : Is w S (.agg #[.int .i64 k, .int .i64 n, .string t, .slice a1 n1 c1, .slice a2 n2 c2]) x) :
    k = x.kind ∧ n = x.num ∧ t = x.text ∧ n1 = x.keys.length ∧ n2 = x.list.length := by
  obtain ⟨kv, lv, q, ⟨_, _, rfl, _⟩, ⟨_, _, _, rfl, _⟩, _⟩ := h.open
  simp only [Value.agg.injEq, Array.mk.injEq, List.cons.injEq, and_true, Value.int.injEq, Value.string.injEq, Value.slice.injEq, true_and] at q
  obtain ⟨q0, q1, q2, ⟨_, q3, _⟩, _, q4, _⟩ := q
  exact ⟨q0, q1, q2, q3, q4⟩

def strA : ByteArray := ⟨#[97]⟩
def strB : ByteArray := ⟨#[98]⟩
def knownV : V := ⟨5, 0, ⟨#[]⟩, [strA, strB], [⟨2, 1, ⟨#[]⟩, [], []⟩, ⟨2, 2, ⟨#[]⟩, [], []⟩]⟩

theorem V.textOk_nil (k : Int) : V.textOk k ⟨#[]⟩ = true := by unfold V.textOk; rw [Lib.toList_data]; rfl
theorem V.right_bare (k n : Int) (h0 : 0 ≤ k) (h5 : k ≤ 5) : V.right ⟨k, n, ⟨#[]⟩, [], []⟩ = V.numOk k n := by
  rw [V.right_mk]
  have e1 : V.kindOk k = true := by simp [V.kindOk, h0, h5]
  have e2 := V.textOk_nil k
  have e3 : V.keysOk k [] ([] : List V).length = true := by simp [V.keysOk, V.rises, V.risesTo]
  rw [e1, e2, e3]
  simp

theorem known_right : V.right knownV = true := by
  unfold knownV
  rw [V.right_mk]
  have e1 : V.keysOk 5 [strA, strB] 2 = true := by
    have a1 : V.utf strA = true := by unfold V.utf; rw [show Gm.checkZ strA.data.toList = -1 by decide +kernel]; rfl
    have a2 : V.utf strB = true := by unfold V.utf; rw [show Gm.checkZ strB.data.toList = -1 by decide +kernel]; rfl
    have a3 : V.less strA strB = true := by unfold V.less strA strB; rw [Lib.toList_data, Lib.toList_data]; rfl
    simp [V.keysOk, V.rises, V.risesTo, V.keyOk, a1, a2, a3]
  simp only [List.all_cons, List.all_nil, V.right_bare 2 1 (by decide) (by decide), V.right_bare 2 2 (by decide) (by decide), List.length_cons, List.length_nil]
  rw [show (0 + 1 + 1) = 2 from rfl, e1, V.textOk_nil]
  rfl
theorem known_nine : V.right ⟨9, 0, ⟨#[]⟩, [], []⟩ = false := by
  rw [V.right_mk]; rfl
theorem known_deep : V.deep knownV = 1 := by
  unfold knownV
  rw [V.deep_mk, if_pos (by decide), V.deepL_cons, V.deepL_cons, V.deepL_nil, V.deep_mk, V.deep_mk]
  rfl
theorem known_wt : V.wt knownV = 7 := by
  unfold knownV
  rw [V.wt_mk, V.wtL_cons, V.wtL_cons, V.wtL_nil, V.wt_mk, V.wt_mk]
  rfl
theorem known_placeB : V.place knownV strB = 1 := by
  have := Lib.idxOfS_hit [strA, strB] 2 1 strB (by decide) (by decide) rfl (fun j hj => by
    have : j = 0 := by omega
    subst this
    show strA ≠ strB
    decide)
  exact this
theorem known_placeA : V.place knownV strA = 0 := by
  have := Lib.idxOfS_hit [strA, strB] 2 0 strA (by decide) (by decide) rfl (fun j hj => absurd hj (Nat.not_lt_zero _))
  exact this

theorem known_is (w : World) (S : Nat → Prop) (h0 : S w.heap.size) (h1 : S (w.heap.size + 1)) (g : Nat) (hg : g = w.heap.size + 1) :
    Is ((w.alloc (.cells #[.string ⟨#[97]⟩, .string ⟨#[98]⟩] 9)).alloc (.cells #[.int .i64 2, .int .i64 1, .string ⟨#[]⟩, .slice none 0 0, .slice none 0 0, .int .i64 2, .int .i64 2, .string ⟨#[]⟩, .slice none 0 0, .slice none 0 0] 25)) S
      (.agg #[.int .i64 5, .int .i64 0, .string ⟨#[]⟩, .slice (some ⟨w.heap.size, 0, none⟩) 2 2, .slice (some ⟨g, 0, none⟩) 2 2]) knownV := by
  subst hg
  refine Is.shut (x := knownV) ?_ ?_ (by decide)
  · have hr := Row.cells (row_new w #[.string ⟨#[97]⟩, .string ⟨#[98]⟩] 9 _ rfl) h0 (n := 2) (Nat.le_refl _)
    refine Strs.below ⟨_, _, rfl, Nat.le_refl _, by decide, ?_, hr.congr ?_⟩ (below_alloc _ _)
    · intro k hk
      have : k = strA ∨ k = strB := by simpa [knownV] using hk
      rcases this with rfl | rfl <;> decide
    · intro i hi
      have : i = 0 ∨ i = 1 := by have h2 : i < 2 := hi; omega
      rcases this with rfl | rfl <;> rfl
  · have hr := Row.cells (row_new (w.alloc (.cells #[.string ⟨#[97]⟩, .string ⟨#[98]⟩] 9)) #[.int .i64 2, .int .i64 1, .string ⟨#[]⟩, .slice none 0 0, .slice none 0 0, .int .i64 2, .int .i64 2, .string ⟨#[]⟩, .slice none 0 0, .slice none 0 0] 25 (w.heap.size + 1) (by simp)) h1 (n := 10) (Nat.le_refl _)
    refine ⟨_, _, _, rfl, Nat.le_refl _, by decide, hr, ?_⟩
    intro i hi
    have : i = 0 ∨ i = 1 := by have h2 : i < 2 := hi; omega
    rcases this with rfl | rfl
    · exact is_plain _ _ 2 1 ⟨#[]⟩ (by decide)
    · exact is_plain _ _ 2 2 ⟨#[]⟩ (by decide)

end Go.Proofs.Ytpfbiklbecdmiaa
