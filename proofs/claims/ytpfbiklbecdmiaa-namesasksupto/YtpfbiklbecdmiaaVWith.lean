/-
  THE WALKS over package value: With, Without.
-/
import Derived.Test.YtpfbiklbecdmiaaVPut
set_option linter.unusedVariables false
set_option linter.unusedSimpArgs false
namespace Go.Proofs.Ytpfbiklbecdmiaa
open Go.RowKit

theorem raw_of_strs {w : World} {S : Nat → Prop} {v : Value} {ks : List ByteArray} (h : Strs w S v ks) : Raw w S v 1 ks.length (ks.map .string) := by
  obtain ⟨a, cap, rfl, h1, h2, h3, h4⟩ := h
  refine ⟨a, cap, rfl, h1, h2, by simp, ?_, ?_⟩
  · intro u hu
    obtain ⟨k, _, rfl⟩ := List.mem_map.1 hu
    rfl
  · rw [Nat.mul_one]
    refine h4.congr (fun i hi => ?_)
    simp [List.getD, hi]

theorem strs_of_raw {w : World} {S : Nat → Prop} {v : Value} {m : Nat} {ks : List ByteArray} (h : Raw w S v 1 m (ks.map .string)) (hs : ∀ k ∈ ks, k.size ≤ maxLen) : Strs w S v ks := by
  obtain ⟨a, cap, rfl, h1, h2, h3, h4, h5⟩ := h
  rw [List.length_map, Nat.mul_one] at h3
  subst h3
  refine ⟨a, cap, rfl, h1, h2, hs, ?_⟩
  rw [Nat.mul_one] at h5
  refine h5.congr (fun i hi => ?_)
  simp [List.getD, hi]

/-- five cells, as a list -/
def five (q : Value × Value × Value × Value × Value) : List Value := [q.1, q.2.1, q.2.2.1, q.2.2.2.1, q.2.2.2.2]
def aggQ (q : Value × Value × Value × Value × Value) : Value := .agg #[q.1, q.2.1, q.2.2.1, q.2.2.2.1, q.2.2.2.2]
def cellsQ (es : List (Value × Value × Value × Value × Value)) : List Value := es.flatMap five

theorem cellsQ_len (es : List (Value × Value × Value × Value × Value)) : (cellsQ es).length = es.length * 5 := by
  induction es with
  | nil => rfl
  | cons e es ih => unfold cellsQ at *; rw [List.flatMap_cons, List.length_append, ih, List.length_cons]; simp [five]; omega
theorem cellsQ_append (a b : List (Value × Value × Value × Value × Value)) : cellsQ (a ++ b) = cellsQ a ++ cellsQ b := by unfold cellsQ; rw [List.flatMap_append]
theorem cellsQ_take (es : List (Value × Value × Value × Value × Value)) (p : Nat) (hp : p ≤ es.length) : (cellsQ es).take (p * 5) = cellsQ (es.take p) := by
  have h := cellsQ_append (es.take p) (es.drop p)
  rw [List.take_append_drop] at h
  rw [h, List.take_append_of_le_length (by rw [cellsQ_len, List.length_take]; omega), List.take_of_length_le (by rw [cellsQ_len, List.length_take]; omega)]
theorem cellsQ_drop (es : List (Value × Value × Value × Value × Value)) (p : Nat) (hp : p ≤ es.length) : (cellsQ es).drop (p * 5) = cellsQ (es.drop p) := by
  have h := cellsQ_append (es.take p) (es.drop p)
  rw [List.take_append_drop] at h
  have e : p * 5 = (cellsQ (es.take p)).length := by rw [cellsQ_len, List.length_take]; omega
  rw [h, e, List.drop_left]
theorem cellsQ_get (es : List (Value × Value × Value × Value × Value)) : ∀ (i : Nat) (h : i < es.length), elemV (fun j => (cellsQ es).getD j undef) i = aggQ es[i] := by
  induction es with
  | nil => intro i h; simp at h
  | cons e es ih =>
    intro i h
    cases i with
    | zero => rfl
    | succ i =>
      have h' : i < es.length := by simpa using h
      rw [List.getElem_cons_succ, ← ih i h']
      have g : ∀ j, (cellsQ (e :: es)).getD (j + 5) undef = (cellsQ es).getD j undef := fun j => rfl
      unfold elemV
      simp only [Nat.succ_mul]
      rw [g, show i * 5 + 5 + 1 = (i * 5 + 1) + 5 by omega, show i * 5 + 5 + 2 = (i * 5 + 2) + 5 by omega, show i * 5 + 5 + 3 = (i * 5 + 3) + 5 by omega, show i * 5 + 5 + 4 = (i * 5 + 4) + 5 by omega, g, g, g, g]

/-- elements, as values -/
def Els (w : World) (S : Nat → Prop) (es : List (Value × Value × Value × Value × Value)) (l : List V) : Prop :=
  es.length = l.length ∧ ∀ i (h : i < es.length) (h' : i < l.length), Is w S (aggQ es[i]) l[i]

theorem Els.keep {w w' : World} {S : Nat → Prop} {es : List (Value × Value × Value × Value × Value)} {l : List V} (h : Els w S es l) (k : Keeps S w w') : Els w' S es l := ⟨h.1, fun i h1 h2 => (h.2 i h1 h2).keep k⟩
theorem Els.weak {w : World} {S S' : Nat → Prop} {es : List (Value × Value × Value × Value × Value)} {l : List V} (h : Els w S es l) (k : ∀ b, b < w.heap.size → S b → S' b) : Els w S' es l := ⟨h.1, fun i h1 h2 => (h.2 i h1 h2).weak k⟩
theorem Els.nil (w : World) (S : Nat → Prop) : Els w S [] [] := ⟨rfl, fun i h => absurd h (by simp)⟩
theorem Els.one {w : World} {S : Nat → Prop} {e : Value × Value × Value × Value × Value} {x : V} (h : Is w S (aggQ e) x) : Els w S [e] [x] := ⟨rfl, fun i h1 h2 => by
  have : i = 0 := by simpa using h1
  subst this; exact h⟩
theorem Els.append {w : World} {S : Nat → Prop} {a b : List (Value × Value × Value × Value × Value)} {l m : List V} (h : Els w S a l) (k : Els w S b m) : Els w S (a ++ b) (l ++ m) := by
  refine ⟨by rw [List.length_append, List.length_append, h.1, k.1], fun i h1 h2 => ?_⟩
  by_cases hi : i < a.length
  · have hi' : i < l.length := by rw [← h.1]; exact hi
    rw [List.getElem_append_left hi, List.getElem_append_left hi']
    exact h.2 i hi hi'
  · have hi' : ¬ i < l.length := by rw [← h.1]; exact hi
    rw [List.getElem_append_right (by omega), List.getElem_append_right (by omega)]
    have e := h.1
    simp only [e]
    exact k.2 _ _ _
theorem Els.take {w : World} {S : Nat → Prop} {a : List (Value × Value × Value × Value × Value)} {l : List V} (h : Els w S a l) (n : Nat) : Els w S (a.take n) (l.take n) := by
  refine ⟨by rw [List.length_take, List.length_take, h.1], fun i h1 h2 => ?_⟩
  rw [List.getElem_take, List.getElem_take]
  exact h.2 _ _ _
theorem Els.drop {w : World} {S : Nat → Prop} {a : List (Value × Value × Value × Value × Value)} {l : List V} (h : Els w S a l) (n : Nat) : Els w S (a.drop n) (l.drop n) := by
  refine ⟨by rw [List.length_drop, List.length_drop, h.1], fun i h1 h2 => ?_⟩
  rw [List.getElem_drop, List.getElem_drop]
  exact h.2 _ _ _

theorem isL_of_raw {w : World} {S : Nat → Prop} {v : Value} {m : Nat} {es : List (Value × Value × Value × Value × Value)} {l : List V} (h : Raw w S v 5 m (cellsQ es)) (k : Els w S es l) : IsL w S v l := by
  obtain ⟨a, cap, rfl, h1, h2, h3, h4, h5⟩ := h
  rw [cellsQ_len, k.1] at h3
  have : m = l.length := by omega
  subst this
  refine ⟨a, cap, _, rfl, h1, h2, h5, fun i hi => ?_⟩
  rw [cellsQ_get es i (by rw [k.1]; exact hi)]
  exact k.2 i _ hi

/-- the cells of a slice of values -/
theorem raw_of_isL {w : World} {S : Nat → Prop} {v : Value} {l : List V} (h : IsL w S v l) : ∃ es, Raw w S v 5 l.length (cellsQ es) ∧ Els w S es l := by
  obtain ⟨a, cap, c, rfl, h1, h2, h3, h4⟩ := h
  refine ⟨(List.range l.length).map (fun i => (c (i * 5), c (i * 5 + 1), c (i * 5 + 2), c (i * 5 + 3), c (i * 5 + 4))), ?_, ?_⟩
  · have hg : ∀ i, i < l.length * 5 → (cellsQ ((List.range l.length).map (fun i => (c (i * 5), c (i * 5 + 1), c (i * 5 + 2), c (i * 5 + 3), c (i * 5 + 4))))).getD i undef = c i := by
      intro i hi
      generalize l.length = n at hi
      induction n with
      | zero => omega
      | succ n ih =>
        rw [List.range_succ, List.map_append, cellsQ_append]
        have hl : (cellsQ ((List.range n).map (fun i => (c (i * 5), c (i * 5 + 1), c (i * 5 + 2), c (i * 5 + 3), c (i * 5 + 4))))).length = n * 5 := by rw [cellsQ_len]; simp
        by_cases hlt : i < n * 5
        · rw [← ih hlt]
          simp only [List.getD]
          rw [List.getElem?_append_left (by omega)]
        · simp only [List.getD]
          rw [List.getElem?_append_right (by omega), hl]
          have : i = n * 5 ∨ i = n * 5 + 1 ∨ i = n * 5 + 2 ∨ i = n * 5 + 3 ∨ i = n * 5 + 4 := by omega
          rcases this with rfl | rfl | rfl | rfl | rfl <;> simp [cellsQ, five]
    have hlen : (cellsQ ((List.range l.length).map (fun i => (c (i * 5), c (i * 5 + 1), c (i * 5 + 2), c (i * 5 + 3), c (i * 5 + 4))))).length = l.length * 5 := by rw [cellsQ_len]; simp
    refine ⟨a, cap, rfl, h1, h2, hlen, ?_, h3.congr (fun i hi => (hg i hi).symm)⟩
    intro u hu
    obtain ⟨e, he, hue⟩ := List.mem_flatMap.1 hu
    obtain ⟨i, hi, rfl⟩ := List.mem_map.1 he
    rw [List.mem_range] at hi
    obtain ⟨kv, lv, q, ⟨_, _, rfl, _⟩, ⟨_, _, _, rfl, _⟩, _⟩ := (h4 i hi).open
    unfold elemV at q
    simp only [Value.agg.injEq, Array.mk.injEq, List.cons.injEq, and_true] at q
    obtain ⟨q0, q1, q2, q3, q4⟩ := q
    simp only [five, q0, q1, q2, q3, q4, List.mem_cons, List.not_mem_nil, or_false] at hue
    rcases hue with rfl | rfl | rfl | rfl | rfl <;> rfl
  · refine ⟨by simp, fun i hi hi' => ?_⟩
    simp only [List.getElem_map, List.getElem_range]
    exact h4 i hi'

end Go.Proofs.Ytpfbiklbecdmiaa
