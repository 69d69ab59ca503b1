/-
  Blocks, rows of bytes; what a call leaves of memory.
-/
import Derived.Test.YtgfjpbiioaahhaaFMath
import Derived.Test.YtgfjpbiioaahhaaChecked
import Derived.WalkKit
import Derived.Maps.AppendAt
import Derived.Lib.AppendZeros
import Derived.Laws.AppendOwnNone
import Derived.Lib.Builder
set_option linter.unusedVariables false
set_option linter.unusedSimpArgs false
set_option maxRecDepth 100000
namespace Go.Proofs.Ytgfjpbiioaahhaa
open Go.RowKit Fr

theorem hide {p : Prop} (h : p) : Hid p := h
theorem below_alloc (w : World) (o : Obj) : Below w.heap.size w (w.alloc o) := (Below.refl _ _).alloc (Nat.le_refl _) _
theorem bthen {a b c : World} (h : Below a.heap.size a b) (k : Below b.heap.size b c) : Below a.heap.size a c := h.trans (k.mono h.size)

/-- ONLY BLOCKS OF S, AND NEW ONES, HAVE TURNED -/
structure Ch (S : Nat → Prop) (w w' : World) : Prop where
  os : w'.os = w.os
  tape : w'.tape = w.tape
  output : w'.output = w.output
  size : w.heap.size ≤ w'.heap.size
  block : ∀ k, k < w.heap.size → ¬ S k → w'.heap[k]? = w.heap[k]?
theorem Ch.refl (S : Nat → Prop) (w : World) : Ch S w w := ⟨rfl, rfl, rfl, Nat.le_refl _, fun _ _ _ => rfl⟩
theorem Ch.of_below {w w' : World} (S : Nat → Prop) (h : Below w.heap.size w w') : Ch S w w' := ⟨h.os, h.tape, h.output, h.size, fun k hk _ => h.block k hk⟩
theorem Ch.of_grown {w w' : World} {row : Option Nat} (h : w.grownBy w' row) : Ch (fun k => row = some k) w w' := ⟨h.os, h.tape, h.output, h.size, fun k hk hn => h.block k hk (fun e => hn e.symm)⟩
theorem Ch.weak {S S' : Nat → Prop} {w w' : World} (h : Ch S w w') (k : ∀ i, i < w.heap.size → S i → S' i) : Ch S' w w' := ⟨h.os, h.tape, h.output, h.size, fun i hi hn => h.block i hi (fun hs => hn (k i hi hs))⟩
theorem Ch.trans {S S1 : Nat → Prop} {a b c : World} (h : Ch S a b) (k : Ch S1 b c) (hs : ∀ i, S1 i → S i ∨ a.heap.size ≤ i) : Ch S a c :=
  ⟨k.os.trans h.os, k.tape.trans h.tape, k.output.trans h.output, Nat.le_trans h.size k.size, fun i hi hn =>
    (k.block i (Nat.lt_of_lt_of_le hi h.size) (fun h1 => by rcases hs i h1 with h2 | h2; exact hn h2; omega)).trans (h.block i hi hn)⟩
theorem Ch.below {S : Nat → Prop} {B : Nat} {a w w' : World} (h : Ch S w w') (hb : Below B a w) (hB : B ≤ w.heap.size) (hS : ∀ i, S i → B ≤ i) : Below B a w' :=
  ⟨h.os.trans hb.os, h.tape.trans hb.tape, h.output.trans hb.output, Nat.le_trans hb.size h.size, fun k hk => (h.block k (by omega) (fun hs => by have := hS k hs; omega)).trans (hb.block k hk)⟩
theorem Ch.kept {S : Nat → Prop} {w w' : World} (h : Ch S w w') {k : Nat} {o : Obj} (ho : w.heap[k]? = some o) (hn : ¬ S k) : w'.heap[k]? = some o := by
  rw [h.block k (Array.getElem?_eq_some_iff.1 ho).1 hn]; exact ho

/-- a block, as a whole -/
abbrev Blk (w : World) (b : Nat) (cs : Array Value) (T : TypeId) : Prop := w.heap[b]? = some (.cells cs T (0, 0))
theorem Blk.cell {w : World} {b : Nat} {cs : Array Value} {T : TypeId} (h : Blk w b cs T) (j : Nat) : w.cell? ⟨b, j, none⟩ = cs[j]? := by simp [World.cell?, h]
theorem Blk.free {w : World} {b : Nat} {cs : Array Value} {T : TypeId} (h : Blk w b cs T) (j : Nat) : w.frozen? ⟨b, j, none⟩ = false := by simp [World.frozen?, h]
theorem Blk.lt {w : World} {b : Nat} {cs : Array Value} {T : TypeId} (h : Blk w b cs T) : b < w.heap.size := (Array.getElem?_eq_some_iff.1 h).1
theorem Blk.set {w : World} {b : Nat} {cs : Array Value} {T : TypeId} (h : Blk w b cs T) (j : Nat) (v : Value) : Blk (w.setCell ⟨b, j, none⟩ v) b (cs.setIfInBounds j v) T := by
  obtain ⟨hl, he⟩ := Array.getElem?_eq_some_iff.1 h
  unfold Blk
  simp [World.setCell, hl, Array.getElem_modify, he]
theorem Blk.other {w : World} {b g : Nat} {cs : Array Value} {T : TypeId} (h : Blk w b cs T) (hne : b ≠ g) (j : Nat) (v : Value) : Blk (w.setCell ⟨g, j, none⟩ v) b cs T := by
  unfold Blk at h ⊢
  rw [Below.heap_setCell _ _ _ _ hne]; exact h
theorem Blk.alloc {w : World} {b : Nat} {cs : Array Value} {T : TypeId} (h : Blk w b cs T) (o : Obj) : Blk (w.alloc o) b cs T := by
  have hl := h.lt
  unfold Blk at h ⊢
  rw [Below.heap_alloc _ _ _ hl]; exact h
theorem Blk.new (w : World) (cs : Array Value) (T : TypeId) : Blk (w.alloc (.cells cs T (0, 0))) w.heap.size cs T := by
  show (w.alloc _).heap[w.heap.size]? = _
  simp only [World.alloc, Array.getElem?_push_size]
theorem Ch.set {w : World} (b j : Nat) (v : Value) : Ch (fun k => k = b) w (w.setCell ⟨b, j, none⟩ v) := by
  have h := (Below.refl 0 w).setCell (p := ⟨b, j, none⟩) (Nat.zero_le _) v
  exact ⟨h.os, h.tape, h.output, h.size, fun k _ hn => Below.heap_setCell _ _ _ _ hn⟩

/-- bytes as cells -/
abbrev u8s (l : Bs) : List Value := l.map fun b => Value.int .u8 b.toNat
/-- a row of bytes of the disk's own -/
abbrev Row (w : World) (v : Value) (l : Bs) : Prop := w.ownsRow 0 5 1 v l.length (u8s l)
theorem u8s_len (l : Bs) : (u8s l).length = l.length := List.length_map _
theorem u8s_one (l : Bs) : ∀ u ∈ u8s l, u.oneCell' = true := by
  intro u hu
  obtain ⟨b, _, rfl⟩ := List.mem_map.1 hu
  rfl
/-- bytes that may be read -/
def Vw (w : World) (v : Value) (l : Bs) : Prop :=
  ∃ a cap, v = .slice a l.length cap ∧ l.length ≤ cap ∧ cap ≤ maxLen ∧ (0 < l.length → ∃ b, a = some ⟨b, 0, none⟩ ∧ ∀ j (h : j < l.length), w.cell? ⟨b, j, none⟩ = some (.int .u8 l[j].toNat))
theorem Row.shape {w : World} {v : Value} {l : Bs} (h : Row w v l) : (v = .slice none 0 0 ∧ l = []) ∨ ∃ g cap cur, v = .slice (some ⟨g, 0, none⟩) l.length cap ∧ Blk w g cur 5 ∧ l.length ≤ cap ∧ cap ≤ maxLen ∧ cur.size = cap ∧ cur.toList.take l.length = u8s l := by
  rcases h.2 with ⟨h1, h2⟩ | ⟨g, cap, cur, h1, _, h2, h3, h4, h5, h6⟩
  · exact .inl ⟨h1, List.eq_nil_of_length_eq_zero h2⟩
  · exact .inr ⟨g, cap, cur, h1, h2, h3, h4, by simpa using h5, by simpa using h6⟩
theorem Row.view {w : World} {v : Value} {l : Bs} (h : Row w v l) : Vw w v l := by
  rcases h.shape with ⟨rfl, rfl⟩ | ⟨g, cap, cur, rfl, hb, h1, h2, h3, h4⟩
  · exact ⟨none, 0, rfl, Nat.le_refl _, by decide, fun h => by simp at h⟩
  · refine ⟨_, cap, rfl, h1, h2, fun _ => ⟨g, rfl, fun j hj => ?_⟩⟩
    rw [hb.cell]
    have e : (cur.toList.take l.length)[j]? = (u8s l)[j]? := by rw [h4]
    rw [List.getElem?_take_of_lt hj] at e
    simpa [hj] using e
theorem Row.front {w : World} {v : Value} {l : Bs} (h : Row w v l) {k : Nat} (hk : k ≤ l.length) : ∃ a cap, v = .slice a l.length cap ∧ l.length ≤ cap ∧ Vw w (.slice a k cap) (l.take k) := by
  obtain ⟨a, cap, h1, h2, h3, h4⟩ := h.view
  have hkl : (l.take k).length = k := by simp; omega
  refine ⟨a, cap, h1, h2, a, cap, by rw [hkl], by omega, h3, fun hp => ?_⟩
  obtain ⟨b, hb, hc⟩ := h4 (by omega)
  exact ⟨b, hb, fun j hj => by rw [List.getElem_take]; exact hc j (by omega)⟩
theorem Vw.below {w w' : World} {v : Value} {l : Bs} (h : Vw w v l) (k : Below w.heap.size w w') : Vw w' v l := by
  obtain ⟨a, cap, h1, h2, h3, h4⟩ := h
  refine ⟨a, cap, h1, h2, h3, fun hp => ?_⟩
  obtain ⟨b, hb, hc⟩ := h4 hp
  refine ⟨b, hb, fun j hj => ?_⟩
  have hh := hc j hj
  rw [k.cell (p := ⟨b, j, none⟩) (by
    show b < w.heap.size
    rcases Nat.lt_or_ge b w.heap.size with h1 | h1
    · exact h1
    · simp [World.cell?, Array.getElem?_eq_none h1] at hh)]
  exact hh
theorem Row.kept {w w' : World} {v : Value} {l : Bs} (h : Row w v l) {S : Nat → Prop} (k : Ch S w w') (hn : ∀ g, v.ownBlock = some g → ¬ S g) : Row w' v l := by
  refine ⟨h.1, ?_⟩
  rcases h.2 with h0 | ⟨g, cap, cur, rfl, h1, h2, h3⟩
  · exact .inl h0
  · exact .inr ⟨g, cap, cur, rfl, h1, k.kept h2 (hn g rfl), h3⟩

theorem append_zero {P : Program} {w : World} (t ty e : TypeId) (i : TypeInfo) (ht : P.underlying t = some (.slice e)) (hi : P.info? e = some i) (base size : Nat)
    (v : Value) (n : Nat) (xs : List Value) (hown : w.ownsRow base e size v n xs) (a : Option Addr) (c : Nat) :
    (Builtin.append_ #[t, t] ty #[v, .slice a 0 c]).run P w = .ok v w := by
  rcases hown.2 with ⟨rfl, rfl⟩ | ⟨g, cap, cur, rfl, _, _, hnc, _⟩
  · cases a <;> simp [Builtin.append_, run_underlying ht, sizeOf, typeInfo, hi, Builtin.lenOf, Builtin.firstCells, loadCells, loadCellsFrom]
  · cases a <;> simp [Builtin.append_, run_underlying ht, sizeOf, typeInfo, hi, Builtin.lenOf, Builtin.firstCells, hnc, storeCells, loadCells, loadCellsFrom]

theorem infoU8 : (Try.prog.info? 5).map (fun i => (i.zero, i.size, i.bytes)) = some (some (.int .u8 0), 1, 1) := by kernel_rfl

/-- append(v, bytes...) on a row of the disk's own -/
theorem append_bytes {w : World} {base : Nat} {v : Value} {l : Bs} (hown : w.ownsRow base 5 1 v l.length (u8s l)) {x : Value} {b : Bs} (hx : Vw w x b) (hsz : l.length + b.length ≤ 140737488355328) (hbase : base ≤ w.heap.size) :
    ∃ v' w', (Builtin.append_ #[26, 26] 26 #[v, x]).run Try.prog w = .ok v' w' ∧ w'.ownsRow base 5 1 v' (l ++ b).length (u8s (l ++ b)) ∧ w.grownBy w' v.ownBlock ∧ (v'.ownBlock = v.ownBlock ∨ v'.ownBlock = some w.heap.size) := by
  obtain ⟨i0, hi, hz0, hz1, hz2⟩ := info_parts infoU8
  obtain ⟨a, cap, rfl, h2, h3, h4⟩ := hx
  cases a with
  | none =>
    have hb0 : b = [] := by
      rcases Nat.eq_zero_or_pos b.length with h | h
      · exact List.eq_nil_of_length_eq_zero h
      · obtain ⟨_, h, _⟩ := h4 h; cases h
    subst hb0
    refine ⟨v, w, append_zero 26 26 5 i0 Try.underlying26 hi base 1 v _ _ hown none cap, ?_, World.grownBy.refl _ _, .inl rfl⟩
    simpa using hown
  | some ad =>
    have hnews : ∀ j u, (u8s b)[j]? = some u → w.cell? (ad.add j) = some u := by
      intro j u hj
      have hjl : j < b.length := by
        rcases Nat.lt_or_ge j b.length with h | h
        · exact h
        · rw [List.getElem?_eq_none (by simpa using h)] at hj; cases hj
      obtain ⟨g, hg, hc⟩ := h4 (by omega)
      cases hg
      have := hc j hjl
      simp [hjl] at hj
      rw [← hj, Addr.add_lit, Nat.zero_add]
      exact this
    obtain ⟨v', w', hr, ho, hg, _, hl⟩ := run_append_own_at w base 26 26 5 i0 (.int .u8 0) 1 1 Try.underlying26 hi hz0 hz1 hz2 rfl (by decide) v l.length (u8s l) hown ad b.length cap (u8s b) (by simp) hnews (u8s_one b) (by unfold maxLen; omega) (by omega) hbase
    refine ⟨v', w', hr, ?_, hg, hl⟩
    rw [List.length_append, show u8s (l ++ b) = u8s l ++ u8s b from List.map_append]; exact ho
end Go.Proofs.Ytgfjpbiioaahhaa
