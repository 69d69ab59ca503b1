/-
  How a value of layer 2 lies in memory.
-/
import Derived.Test.YtpfbiklbecdmiaaVMath
import Derived.Deep.LoopGhost
import Derived.Laws.EntriesVeiled
set_option linter.unusedVariables false
set_option linter.unusedSimpArgs false
namespace Go.Proofs.Ytpfbiklbecdmiaa
open Go.RowKit

/-- m cells lie in a row from a on, in a block of S -/
def Cells (w : World) (S : Nat → Prop) (a : Option Addr) (m : Nat) (f : Nat → Value) : Prop :=
  0 < m → ∃ b off, a = some ⟨b, off, none⟩ ∧ S b ∧ ∀ i, i < m → w.cell? ⟨b, off + i, none⟩ = some (f i)

/-- all blocks of S that lie in w lie in w' as they did -/
def Keeps (S : Nat → Prop) (w w' : World) : Prop := ∀ b, S b → b < w.heap.size → w'.heap[b]? = w.heap[b]?

theorem Keeps.of_below {S : Nat → Prop} {w w' : World} (h : Below w.heap.size w w') : Keeps S w w' := fun b _ hb => h.block b hb

theorem cell_size {w : World} {b o : Nat} {v : Value} (h : w.cell? ⟨b, o, none⟩ = some v) : b < w.heap.size := by
  rcases Nat.lt_or_ge b w.heap.size with h1 | h1
  · exact h1
  · simp [World.cell?, Array.getElem?_eq_none h1] at h

theorem Keeps.cell {S : Nat → Prop} {w w' : World} (h : Keeps S w w') {b o : Nat} {v : Value} (hb : S b) (hc : w.cell? ⟨b, o, none⟩ = some v) : w'.cell? ⟨b, o, none⟩ = some v := by
  rw [← hc]
  exact World.cell?_of_block (w := w) (h b hb (cell_size hc))

theorem Cells.keep {w w' : World} {S : Nat → Prop} {a : Option Addr} {m : Nat} {f : Nat → Value} (h : Cells w S a m f) (k : Keeps S w w') : Cells w' S a m f := by
  intro hm
  obtain ⟨b, off, ha, hb, hc⟩ := h hm
  exact ⟨b, off, ha, hb, fun i hi => k.cell hb (hc i hi)⟩

theorem Cells.weak {w : World} {S S' : Nat → Prop} {a : Option Addr} {m : Nat} {f : Nat → Value} (h : Cells w S a m f) (k : ∀ b, b < w.heap.size → S b → S' b) : Cells w S' a m f := by
  intro hm
  obtain ⟨b, off, ha, hb, hc⟩ := h hm
  exact ⟨b, off, ha, k b (cell_size (hc 0 hm)) hb, hc⟩

theorem Cells.front {w : World} {S : Nat → Prop} {a : Option Addr} {m m' : Nat} {f : Nat → Value} (h : Cells w S a m f) (k : m' ≤ m) : Cells w S a m' f := by
  intro hm
  obtain ⟨b, off, ha, hb, hc⟩ := h (by omega)
  exact ⟨b, off, ha, hb, fun i hi => hc i (by omega)⟩

theorem Cells.congr {w : World} {S : Nat → Prop} {a : Option Addr} {m : Nat} {f g : Nat → Value} (h : Cells w S a m f) (k : ∀ i, i < m → f i = g i) : Cells w S a m g := by
  intro hm
  obtain ⟨b, off, ha, hb, hc⟩ := h hm
  exact ⟨b, off, ha, hb, fun i hi => by rw [← k i hi]; exact hc i hi⟩

/-- a slice of strings -/
def Strs (w : World) (S : Nat → Prop) (v : Value) (ks : List ByteArray) : Prop :=
  ∃ a cap, v = .slice a ks.length cap ∧ ks.length ≤ cap ∧ cap ≤ maxLen ∧ (∀ k ∈ ks, k.size ≤ maxLen) ∧ Cells w S a ks.length (fun i => .string (ks.getD i ByteArray.empty))

theorem Strs.out {w : World} {S : Nat → Prop} {a : Option Addr} {n cap : Nat} {ks : List ByteArray} (h : Strs w S (.slice a n cap) ks) :
    n = ks.length ∧ n ≤ cap ∧ cap ≤ maxLen ∧ (∀ k ∈ ks, k.size ≤ maxLen) ∧ Cells w S a ks.length (fun i => .string (ks.getD i ByteArray.empty)) := by
  obtain ⟨a', cap', h1, h2, h3, h4, h5⟩ := h
  simp only [Value.slice.injEq] at h1
  obtain ⟨rfl, rfl, rfl⟩ := h1
  exact ⟨rfl, h2, h3, h4, h5⟩

theorem getD_size {ks : List ByteArray} (h : ∀ k ∈ ks, k.size ≤ maxLen) (i : Nat) : (ks.getD i ByteArray.empty).size ≤ maxLen := by
  rcases Nat.lt_or_ge i ks.length with hi | hi
  · have e : ks.getD i ByteArray.empty = ks[i] := by simp [List.getD, hi]
    rw [e]; exact h _ (List.getElem_mem hi)
  · have e : ks.getD i ByteArray.empty = ByteArray.empty := by simp [List.getD, List.getElem?_eq_none hi]
    rw [e]; decide

theorem Strs.keep {w w' : World} {S : Nat → Prop} {v : Value} {ks : List ByteArray} (h : Strs w S v ks) (k : Keeps S w w') : Strs w' S v ks := by
  obtain ⟨a, cap, h1, h2, h3, h4, h5⟩ := h
  exact ⟨a, cap, h1, h2, h3, h4, h5.keep k⟩

theorem Strs.weak {w : World} {S S' : Nat → Prop} {v : Value} {ks : List ByteArray} (h : Strs w S v ks) (k : ∀ b, b < w.heap.size → S b → S' b) : Strs w S' v ks := by
  obtain ⟨a, cap, h1, h2, h3, h4, h5⟩ := h
  exact ⟨a, cap, h1, h2, h3, h4, h5.weak k⟩

/-- a string of a row, where it lies -/
theorem str_at' {w w' : World} {S : Nat → Prop} {a : Option Addr} {ks : List ByteArray} (h : Cells w S a ks.length (fun i => .string (ks.getD i ByteArray.empty))) (k : Below w.heap.size w w') {i : Nat} (hi : i < ks.length) :
    ∃ b off K, a = some ⟨b, off, none⟩ ∧ Hid (K = ks.getD i ByteArray.empty) ∧ w'.cell? ⟨b, off + i, none⟩ = some (.string K) := by
  obtain ⟨b, off, ha, _, hc⟩ := (h.keep (Keeps.of_below k)) (by omega)
  exact ⟨b, off, _, ha, rfl, hc i hi⟩

theorem getD_wt {ks : List ByteArray} {n : Nat} (h : V.wtK ks ≤ n) {i : Nat} (hi : i < ks.length) : (ks.getD i ByteArray.empty).size ≤ n := by
  have e : ks.getD i ByteArray.empty = ks[i] := by simp [List.getD, hi]
  have := V.wtK_mem (List.getElem_mem hi)
  rw [e]; omega

/-- the five cells of element i -/
def elemV (c : Nat → Value) (i : Nat) : Value := .agg #[c (i * 5), c (i * 5 + 1), c (i * 5 + 2), c (i * 5 + 3), c (i * 5 + 4)]

/-- the value v is the tree x, down to depth d -/
def IsD (w : World) (S : Nat → Prop) : Nat → Value → V → Prop
  | 0, _, _ => False
  | d + 1, v, x => ∃ kv a cap c, v = .agg #[.int .i64 x.kind, .int .i64 x.num, .string x.text, kv, .slice a x.list.length cap] ∧ Strs w S kv x.keys ∧
      x.list.length ≤ cap ∧ cap ≤ maxLen ∧ x.text.size ≤ maxLen ∧ Cells w S a (x.list.length * 5) c ∧ ∀ i (h : i < x.list.length), IsD w S d (elemV c i) x.list[i]

def Is (w : World) (S : Nat → Prop) (v : Value) (x : V) : Prop := ∃ d, IsD w S d v x

/-- a slice of values: the trees l -/
def IsL (w : World) (S : Nat → Prop) (v : Value) (l : List V) : Prop :=
  ∃ a cap c, v = .slice a l.length cap ∧ l.length ≤ cap ∧ cap ≤ maxLen ∧ Cells w S a (l.length * 5) c ∧ ∀ i (h : i < l.length), Is w S (elemV c i) l[i]

theorem IsD.succ {w : World} {S : Nat → Prop} : ∀ {d : Nat} {v : Value} {x : V}, IsD w S d v x → IsD w S (d + 1) v x
  | 0, _, _, h => h.elim
  | d + 1, v, x, h => by
    obtain ⟨kv, a, cap, c, h1, h2, h3, h4, h5, h6, h7⟩ := h
    exact ⟨kv, a, cap, c, h1, h2, h3, h4, h5, h6, fun i hi => (h7 i hi).succ⟩

theorem IsD.le {w : World} {S : Nat → Prop} {d : Nat} {v : Value} {x : V} (h : IsD w S d v x) : ∀ {e : Nat}, d ≤ e → IsD w S e v x := by
  intro e he
  induction e with
  | zero => have : d = 0 := by omega
            subst this; exact h
  | succ e ih =>
    rcases Nat.lt_or_ge e d with h1 | h1
    · have : d = e + 1 := by omega
      subst this; exact h
    · exact (ih h1).succ

theorem IsD.keep {w w' : World} {S : Nat → Prop} : ∀ {d : Nat} {v : Value} {x : V}, IsD w S d v x → Keeps S w w' → IsD w' S d v x
  | 0, _, _, h, _ => h.elim
  | d + 1, v, x, h, k => by
    obtain ⟨kv, a, cap, c, h1, h2, h3, h4, h5, h6, h7⟩ := h
    exact ⟨kv, a, cap, c, h1, h2.keep k, h3, h4, h5, h6.keep k, fun i hi => (h7 i hi).keep k⟩

theorem IsD.weak {w : World} {S S' : Nat → Prop} : ∀ {d : Nat} {v : Value} {x : V}, IsD w S d v x → (∀ b, b < w.heap.size → S b → S' b) → IsD w S' d v x
  | 0, _, _, h, _ => h.elim
  | d + 1, v, x, h, k => by
    obtain ⟨kv, a, cap, c, h1, h2, h3, h4, h5, h6, h7⟩ := h
    exact ⟨kv, a, cap, c, h1, h2.weak k, h3, h4, h5, h6.weak k, fun i hi => (h7 i hi).weak k⟩

theorem Is.keep {w w' : World} {S : Nat → Prop} {v : Value} {x : V} (h : Is w S v x) (k : Keeps S w w') : Is w' S v x := h.elim fun d hd => ⟨d, hd.keep k⟩
theorem Is.below {w w' : World} {S : Nat → Prop} {v : Value} {x : V} (h : Is w S v x) (k : Below w.heap.size w w') : Is w' S v x := h.keep (Keeps.of_below k)
theorem Is.weak {w : World} {S S' : Nat → Prop} {v : Value} {x : V} (h : Is w S v x) (k : ∀ b, b < w.heap.size → S b → S' b) : Is w S' v x := h.elim fun d hd => ⟨d, hd.weak k⟩
theorem IsL.keep {w w' : World} {S : Nat → Prop} {v : Value} {l : List V} (h : IsL w S v l) (k : Keeps S w w') : IsL w' S v l := by
  obtain ⟨a, cap, c, h1, h2, h3, h4, h5⟩ := h
  exact ⟨a, cap, c, h1, h2, h3, h4.keep k, fun i hi => (h5 i hi).keep k⟩
theorem IsL.below {w w' : World} {S : Nat → Prop} {v : Value} {l : List V} (h : IsL w S v l) (k : Below w.heap.size w w') : IsL w' S v l := h.keep (Keeps.of_below k)
theorem IsL.weak {w : World} {S S' : Nat → Prop} {v : Value} {l : List V} (h : IsL w S v l) (k : ∀ b, b < w.heap.size → S b → S' b) : IsL w S' v l := by
  obtain ⟨a, cap, c, h1, h2, h3, h4, h5⟩ := h
  exact ⟨a, cap, c, h1, h2, h3, h4.weak k, fun i hi => (h5 i hi).weak k⟩
theorem Strs.below {w w' : World} {S : Nat → Prop} {v : Value} {l : List ByteArray} (h : Strs w S v l) (k : Below w.heap.size w w') : Strs w' S v l := h.keep (Keeps.of_below k)

theorem strs_nil (w : World) (S : Nat → Prop) : Strs w S (.slice none 0 0) [] := ⟨none, 0, rfl, Nat.le_refl _, by decide, by simp, fun hh => absurd hh (by simp)⟩
theorem isL_nil (w : World) (S : Nat → Prop) : IsL w S (.slice none 0 0) [] := ⟨none, 0, fun _ => undef, rfl, Nat.le_refl _, by decide, fun hh => absurd hh (by simp), fun i hi => absurd hi (by simp)⟩

/-- from "for each there is one" to one bound -/
theorem all_le (n : Nat) (P : Nat → Nat → Prop) (hP : ∀ i d e, P i d → d ≤ e → P i e) (h : ∀ i, i < n → ∃ d, P i d) : ∃ d, ∀ i, i < n → P i d := by
  induction n with
  | zero => exact ⟨0, fun i hi => by omega⟩
  | succ n ih =>
    obtain ⟨d, hd⟩ := ih (fun i hi => h i (by omega))
    obtain ⟨e, he⟩ := h n (by omega)
    refine ⟨max d e, fun i hi => ?_⟩
    rcases Nat.lt_or_ge i n with h1 | h1
    · exact hP i d _ (hd i h1) (by omega)
    · have : i = n := by omega
      subst this
      exact hP i e _ he (by omega)

/-- a value, by its parts -/
theorem Is.open {w : World} {S : Nat → Prop} {v : Value} {x : V} (h : Is w S v x) :
    ∃ kv lv, v = .agg #[.int .i64 x.kind, .int .i64 x.num, .string x.text, kv, lv] ∧ Strs w S kv x.keys ∧ IsL w S lv x.list ∧ x.text.size ≤ maxLen := by
  obtain ⟨d, h⟩ := h
  cases d with
  | zero => exact h.elim
  | succ d =>
    obtain ⟨kv, a, cap, c, h1, h2, h3, h4, h5, h6, h7⟩ := h
    exact ⟨kv, _, h1, h2, ⟨a, cap, c, rfl, h3, h4, h6, fun i hi => ⟨d, h7 i hi⟩⟩, h5⟩

theorem Is.shut {w : World} {S : Nat → Prop} {x : V} {kv lv : Value} (h1 : Strs w S kv x.keys) (h2 : IsL w S lv x.list) (h3 : x.text.size ≤ maxLen) :
    Is w S (.agg #[.int .i64 x.kind, .int .i64 x.num, .string x.text, kv, lv]) x := by
  obtain ⟨a, cap, c, rfl, h4, h5, h6, h7⟩ := h2
  obtain ⟨d, hd⟩ := all_le x.list.length (fun i d => ∀ h : i < x.list.length, IsD w S d (elemV c i) x.list[i]) (fun i d e hp hde hi => (hp hi).le hde)
    (fun i hi => by obtain ⟨d, hd⟩ := h7 i hi; exact ⟨d, fun _ => hd⟩)
  exact ⟨d + 1, kv, a, cap, c, rfl, h1, h4, h5, h3, h6, fun i hi => hd i hi hi⟩

/-- the five cells of an element, where it lies -/
theorem elem_cells {w : World} {S : Nat → Prop} {a : Option Addr} {n : Nat} {c : Nat → Value} (h : Cells w S a (n * 5) c) {i : Nat} (hi : i < n) :
    ∃ b off, a = some ⟨b, off, none⟩ ∧ S b ∧ w.cell? ⟨b, off + i * 5, none⟩ = some (c (i * 5)) ∧ w.cell? ⟨b, off + i * 5 + 1, none⟩ = some (c (i * 5 + 1)) ∧ w.cell? ⟨b, off + i * 5 + 2, none⟩ = some (c (i * 5 + 2)) ∧ w.cell? ⟨b, off + i * 5 + 3, none⟩ = some (c (i * 5 + 3)) ∧ w.cell? ⟨b, off + i * 5 + 4, none⟩ = some (c (i * 5 + 4)) := by
  obtain ⟨b, off, ha, hb, hc⟩ := h (by omega)
  refine ⟨b, off, ha, hb, hc _ (by omega), ?_, ?_, ?_, ?_⟩
  · rw [Nat.add_assoc]; exact hc _ (by omega)
  · rw [Nat.add_assoc]; exact hc _ (by omega)
  · rw [Nat.add_assoc]; exact hc _ (by omega)
  · rw [Nat.add_assoc]; exact hc _ (by omega)

/-- an element, where it lies, written out -/
theorem elem_open {w w' : World} {S : Nat → Prop} {a : Option Addr} {n d : Nat} {c : Nat → Value} {x : V} (h : Cells w S a (n * 5) c) (k : Below w.heap.size w w') {i : Nat} (hi : i < n) (hx : IsD w S d (elemV c i) x) :
    ∃ b off k n t a1 n1 c1 a2 n2 c2, a = some ⟨b, off, none⟩ ∧ IsD w' S d (.agg #[.int .i64 k, .int .i64 n, .string t, .slice a1 n1 c1, .slice a2 n2 c2]) x ∧ w'.cell? ⟨b, off + i * 5, none⟩ = some (.int .i64 k) ∧ w'.cell? ⟨b, off + i * 5 + 1, none⟩ = some (.int .i64 n) ∧ w'.cell? ⟨b, off + i * 5 + 2, none⟩ = some (.string t) ∧ w'.cell? ⟨b, off + i * 5 + 3, none⟩ = some (.slice a1 n1 c1) ∧ w'.cell? ⟨b, off + i * 5 + 4, none⟩ = some (.slice a2 n2 c2) := by
  obtain ⟨b, off, ha, hb, e0, e1, e2, e3, e4⟩ := elem_cells (h.keep (Keeps.of_below k)) hi
  have hx' := hx.keep (Keeps.of_below k)
  cases d with
  | zero => exact hx.elim
  | succ d =>
    obtain ⟨kv, a2, c2, cc, q, ⟨a1, c1, rfl, _⟩, _⟩ := hx
    have hq := q
    unfold elemV at hq hx'
    simp only [Value.agg.injEq, Array.mk.injEq, List.cons.injEq, and_true] at hq
    obtain ⟨q0, q1, q2, q3, q4⟩ := hq
    rw [q0] at e0; rw [q1] at e1; rw [q2] at e2; rw [q3] at e3; rw [q4] at e4
    rw [q0, q1, q2, q3, q4] at hx'
    exact ⟨b, off, _, _, _, _, _, _, _, _, _, ha, hx', e0, e1, e2, e3, e4⟩

/-- five cells from address 0 of block g on -/
def Box5 (w : World) (g : Nat) (c0 c1 c2 c3 c4 : Value) : Prop :=
  w.cell? ⟨g, 0, none⟩ = some c0 ∧ w.cell? ⟨g, 1, none⟩ = some c1 ∧ w.cell? ⟨g, 2, none⟩ = some c2 ∧ w.cell? ⟨g, 3, none⟩ = some c3 ∧ w.cell? ⟨g, 4, none⟩ = some c4

theorem box5_new (w : World) (c0 c1 c2 c3 c4 : Value) (t : TypeId) : Box5 (w.alloc (.cells #[c0, c1, c2, c3, c4] t)) w.heap.size c0 c1 c2 c3 c4 := by
  refine ⟨?_, ?_, ?_, ?_, ?_⟩ <;> simp only [World.cell?, World.alloc, Array.getElem?_push_size] <;> rfl

theorem Box5.keep {w w' : World} {g : Nat} {c0 c1 c2 c3 c4 : Value} (h : Box5 w g c0 c1 c2 c3 c4) (k : Below w.heap.size w w') : Box5 w' g c0 c1 c2 c3 c4 := by
  obtain ⟨h0, h1, h2, h3, h4⟩ := h
  have kk : Keeps (fun _ => True) w w' := Keeps.of_below k
  exact ⟨kk.cell trivial h0, kk.cell trivial h1, kk.cell trivial h2, kk.cell trivial h3, kk.cell trivial h4⟩

theorem cell_keep {w w' : World} {b o : Nat} {v : Value} (h : w.cell? ⟨b, o, none⟩ = some v) (k : Below w.heap.size w w') : w'.cell? ⟨b, o, none⟩ = some v :=
  (Keeps.of_below (S := fun _ => True) k).cell trivial h

theorem below_alloc (w : World) (o : Obj) : Below w.heap.size w (w.alloc o) := (Below.refl _ _).alloc (Nat.le_refl _) _

theorem cell_new (w : World) (v : Value) (t : TypeId) (g : Nat) (h : g = w.heap.size) : (w.alloc (.cells #[v] t)).cell? ⟨g, 0, none⟩ = some v := by
  subst h
  simp only [World.cell?, World.alloc, Array.getElem?_push_size]; rfl

theorem bthen {a b c : World} (h : Below a.heap.size a b) (k : Below b.heap.size b c) : Below a.heap.size a c := h.trans (k.mono h.size)

end Go.Proofs.Ytpfbiklbecdmiaa
