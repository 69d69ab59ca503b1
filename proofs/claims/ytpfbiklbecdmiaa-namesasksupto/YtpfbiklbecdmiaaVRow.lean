/-
  A row of cells that a call made itself.
-/
import Derived.Test.YtpfbiklbecdmiaaVBase
import Derived.Laws.MakeOwn
import Derived.OwnWalk
set_option linter.unusedVariables false
set_option linter.unusedSimpArgs false
namespace Go.Proofs.Ytpfbiklbecdmiaa
open Go.RowKit

/-- block g holds m cells, none frozen -/
def Row (w : World) (g m : Nat) (c : Nat → Value) : Prop := ∀ i, i < m → w.cell? ⟨g, i, none⟩ = some (c i) ∧ w.frozen? ⟨g, i, none⟩ = false

theorem row_new (w : World) (M : Array Value) (t : TypeId) (g : Nat) (h : g = w.heap.size) : Row (w.alloc (.cells M t)) g M.size (fun i => M.getD i undef) := by
  subst h
  intro i hi
  constructor
  · simp only [World.cell?, World.alloc, Array.getElem?_push_size]
    simp [hi]
  · simp only [World.frozen?, World.alloc, Array.getElem?_push_size]
    simp

theorem Row.keep {w w' : World} {g m : Nat} {c : Nat → Value} (h : Row w g m c) (hg : g < w.heap.size) (k : Below w.heap.size w w') : Row w' g m c := by
  intro i hi
  obtain ⟨h1, h2⟩ := h i hi
  exact ⟨by rw [k.cell (p := ⟨g, i, none⟩) hg]; exact h1, by rw [k.frozen (p := ⟨g, i, none⟩) hg]; exact h2⟩

theorem Row.set {w : World} {g m : Nat} {c : Nat → Value} (h : Row w g m c) {j : Nat} (hj : j < m) (v : Value) : Row (w.setCell ⟨g, j, none⟩ v) g m (fun i => if i = j then v else c i) := by
  intro i hi
  obtain ⟨h1, h2⟩ := h i hi
  refine ⟨?_, by rw [World.frozen?_setCell]; exact h2⟩
  by_cases e : i = j
  · subst e
    simp only [if_true]
    exact World.cell?_setCell_same _ _ _ h1
  · simp only [e, if_false]
    rw [World.cell?_setCell_other _ _ _ _ (by simp only [ne_eq, Addr.mk.injEq]; omega)]
    exact h1

theorem Row.cells {w : World} {g m : Nat} {c : Nat → Value} {S : Nat → Prop} (h : Row w g m c) (hS : S g) {n : Nat} (hn : n ≤ m) : Cells w S (some ⟨g, 0, none⟩) n c := by
  intro _
  refine ⟨g, 0, rfl, hS, fun i hi => ?_⟩
  rw [Nat.zero_add]
  exact (h i (by omega)).1

theorem Row.congr {w : World} {g m : Nat} {c c' : Nat → Value} (h : Row w g m c) (k : ∀ i, i < m → c i = c' i) : Row w g m c' := by
  intro i hi
  rw [← k i hi]; exact h i hi

/-- a store into block g leaves what does not lie there -/
theorem keeps_set {S : Nat → Prop} {w : World} {g o : Nat} (v : Value) (h : ¬ S g) : Keeps S w (w.setCell ⟨g, o, none⟩ v) := by
  intro b hb _
  refine Below.heap_setCell _ _ _ _ (fun e => h ?_)
  have e' : b = g := e
  rw [← e']; exact hb

theorem Keeps.trans {S : Nat → Prop} {a b c : World} (h : Keeps S a b) (k : Keeps S b c) (hs : a.heap.size ≤ b.heap.size) : Keeps S a c := by
  intro x hx hl
  rw [k x hx (by omega), h x hx hl]

theorem size_set (w : World) (a : Addr) (v : Value) : (w.setCell a v).heap.size = w.heap.size := by simp [World.setCell]

theorem below_set {B : Nat} {a w : World} (h : Below B a w) {g o : Nat} (hg : B ≤ g) (v : Value) : Below B a (w.setCell ⟨g, o, none⟩ v) := h.setCell hg v

/-- the world behind five stores in a row -/
def set5 (w : World) (g o : Nat) (v0 v1 v2 v3 v4 : Value) : World :=
  ((((w.setCell ⟨g, o, none⟩ v0).setCell ⟨g, o + 1, none⟩ v1).setCell ⟨g, o + 2, none⟩ v2).setCell ⟨g, o + 3, none⟩ v3).setCell ⟨g, o + 4, none⟩ v4

theorem size_set5 (w : World) (g o : Nat) (v0 v1 v2 v3 v4 : Value) : (set5 w g o v0 v1 v2 v3 v4).heap.size = w.heap.size := by simp [set5, size_set]

theorem Row.set5 {w : World} {g m : Nat} {c : Nat → Value} (h : Row w g m c) {o : Nat} (ho : o + 4 < m) (v0 v1 v2 v3 v4 : Value) :
    Row (set5 w g o v0 v1 v2 v3 v4) g m (fun i => if i = o + 4 then v4 else if i = o + 3 then v3 else if i = o + 2 then v2 else if i = o + 1 then v1 else if i = o then v0 else c i) :=
  ((((h.set (by omega) v0).set (by omega) v1).set (by omega) v2).set (by omega) v3).set ho v4

theorem keeps_set5 {S : Nat → Prop} {w : World} {g o : Nat} (v0 v1 v2 v3 v4 : Value) (h : ¬ S g) : Keeps S w (set5 w g o v0 v1 v2 v3 v4) := by
  intro b hb hl
  have e : b ≠ g := fun e => h (by rw [← e]; exact hb)
  unfold set5
  rw [Below.heap_setCell _ _ _ _ e, Below.heap_setCell _ _ _ _ e, Below.heap_setCell _ _ _ _ e, Below.heap_setCell _ _ _ _ e, Below.heap_setCell _ _ _ _ e]

theorem below_set5 {B : Nat} {a w : World} (h : Below B a w) {g o : Nat} (hg : B ≤ g) (v0 v1 v2 v3 v4 : Value) : Below B a (set5 w g o v0 v1 v2 v3 v4) :=
  ((((h.setCell hg v0).setCell hg v1).setCell hg v2).setCell hg v3).setCell hg v4

/-- behind five stores at element j the elements ahead of it are as they were, and j is the new one -/
theorem elem_set5_same (c : Nat → Value) (j : Nat) (v0 v1 v2 v3 v4 : Value) :
    elemV (fun i => if i = j * 5 + 4 then v4 else if i = j * 5 + 3 then v3 else if i = j * 5 + 2 then v2 else if i = j * 5 + 1 then v1 else if i = j * 5 then v0 else c i) j = .agg #[v0, v1, v2, v3, v4] := by
  unfold elemV
  simp

theorem elem_set5_other (c : Nat → Value) (i j : Nat) (h : i ≠ j) (v0 v1 v2 v3 v4 : Value) :
    elemV (fun i => if i = j * 5 + 4 then v4 else if i = j * 5 + 3 then v3 else if i = j * 5 + 2 then v2 else if i = j * 5 + 1 then v1 else if i = j * 5 then v0 else c i) i = elemV c i := by
  unfold elemV
  have e : ∀ x y : Nat, x < 5 → y < 5 → i * 5 + x ≠ j * 5 + y := by intro x y hx hy; omega
  have e0 : ∀ y : Nat, y < 5 → i * 5 ≠ j * 5 + y := by intro y hy; omega
  have e1 : ∀ x : Nat, x < 5 → i * 5 + x ≠ j * 5 := by intro x hx; omega
  have e2 : i * 5 ≠ j * 5 := by omega
  simp [e, e0, e1, e2, h]

end Go.Proofs.Ytpfbiklbecdmiaa
