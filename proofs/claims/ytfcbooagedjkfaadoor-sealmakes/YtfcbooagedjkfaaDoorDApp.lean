/-
  append over slices of bytes; bytes that may be written.
-/
import Derived.Test.YtfcbooagedjkfaaDoorDLaw
set_option linter.unusedVariables false
set_option linter.unusedSimpArgs false
namespace Go.Proofs.YtfcbooagedjkfaaDoor
open Go.RowKit

theorem append_zero {P : Program} {w : World} (t ty e : TypeId) (i : TypeInfo) (ht : P.underlying t = some (.slice e)) (hi : P.info? e = some i) (base size : Nat)
    (v : Value) (n : Nat) (xs : List Value) (hown : w.ownsRow base e size v n xs) (a : Option Addr) (c : Nat) :
    (Builtin.append_ #[t, t] ty #[v, .slice a 0 c]).run P w = .ok v w := by
  rcases hown.2 with ⟨rfl, rfl⟩ | ⟨g, cap, cur, rfl, _, _, hnc, _⟩
  · cases a <;> simp [Builtin.append_, run_underlying ht, sizeOf, typeInfo, hi, Builtin.lenOf, Builtin.firstCells, loadCells, loadCellsFrom]
  · cases a <;> simp [Builtin.append_, run_underlying ht, sizeOf, typeInfo, hi, Builtin.lenOf, Builtin.firstCells, hnc, storeCells, loadCells, loadCellsFrom]
theorem own_shape {w : World} {base : Nat} {e : TypeId} {sz : Nat} {v : Value} {n : Nat} {xs : List Value} (h : w.ownsRow base e sz v n xs) : ∃ a c, v = .slice a n c := by
  rcases h.2 with ⟨rfl, rfl⟩ | ⟨g, cap, cur, rfl, _⟩
  · exact ⟨_, _, rfl⟩
  · exact ⟨_, _, rfl⟩

/-- append(v, part...) of bytes on a row of the call's own -/
theorem append_isB {w : World} (base : Nat) (v : Value) (n : Nat) (l : List Int) (hown : w.ownsRow base 5 1 v n (l.map b8)) {a : Option Addr} {m cap : Nat} {bs : List Int} (hB : IsB w a m cap bs) (hnm : n + m ≤ 1000000) (hbase : base ≤ w.heap.size) :
    ∃ a' c' w', (Builtin.append_ #[22, 22] 22 #[v, .slice a m cap]).run Tryd.prog w = .ok (.slice a' (n + m) c') w' ∧ w'.ownsRow base 5 1 (.slice a' (n + m) c') (n + m) ((l ++ bs).map b8) ∧ w.grownBy w' v.ownBlock := by
  obtain ⟨i0, hi, hz0, hz1, hz2⟩ := info_parts infoByte
  obtain ⟨h1, h2, h3, h4, h5⟩ := hB
  by_cases hm : m = 0
  · subst hm
    have : bs = [] := List.eq_nil_of_length_eq_zero h1
    subst this
    obtain ⟨a', c', rfl⟩ := own_shape hown
    refine ⟨a', c', w, append_zero 22 22 5 i0 Tryd.underlying22 hi base 1 _ n _ hown a cap, ?_, ⟨rfl, rfl, rfl, Nat.le_refl _, fun _ _ _ => rfl⟩⟩
    rw [List.append_nil]
    exact hown
  · rcases h5 with ⟨_, h5⟩ | ⟨x, rfl, h6⟩
    · omega
    obtain ⟨b, o, rfl, hR⟩ := h6 (by omega)
    obtain ⟨v', w', q1, q2, q3, _⟩ := run_append_own w base 22 22 5 i0 (.int .u8 0) 1 1 Tryd.underlying22 hi hz0 hz1 hz2 rfl (by decide) v n _ hown ⟨b, o, none⟩ m cap (bs.map b8) (by simp [h1]) (fun j u hu => by
      have hj : j < bs.length := by have := (List.getElem?_eq_some_iff.1 hu).1; simpa using this
      have e1 : (⟨b, o, none⟩ : Addr).add j = ⟨b, o + j, none⟩ := by unfold Addr.add; split <;> simp_all
      refine Eq.trans (congrArg _ e1) ((hR j hj).trans ?_)
      rw [List.getElem?_map, List.getElem?_eq_getElem hj] at hu
      rw [← hu, List.getElem?_eq_getElem hj]
      rfl) (fun u hu => by simp only [List.mem_map] at hu; obtain ⟨y, _, rfl⟩ := hu; rfl) (by simp [maxLen]; omega) (by omega) hbase
    obtain ⟨a', c', rfl⟩ := own_shape q2
    rw [← List.map_append] at q2
    exact ⟨a', c', w', q1, q2, q3⟩

theorem wpList_append_run {P : Program} {w : World} {ops : Array Oper} {rest : List Oper} {o : Oper} {a : Act} {Q : Exit → Act → World → Prop} (hgd : o.guard = none) (s x : Operand) (t : TypeId)
    (ho : o.op = .call { callee := .builtin .append, args := #[s, x], argTypes := #[t, t] }) (v y : Value) (hs : a.eval s = v) (hx : a.eval x = y) {v' : Value} {w' : World} (hrun : (Builtin.append_ #[t, t] o.type #[v, y]).run P w = .ok v' w')
    (h : wpList P ops Q rest (a.put o.dst v') w') : wpList P ops Q (o :: rest) a w := by
  refine wpList_plain hgd fun K hK' => ?_
  unfold Oper.wp
  simp [execOp, ho, resolve, invoke, builtin, hs, hx, hrun, Result.andThen]
  exact hK' _ _ h

/-- what a call built, as a slice of bytes -/
theorem own_isB' {w : World} {base m : Nat} {a : Option Addr} {c : Nat} {l : List Int} (h : w.ownsRow base 5 1 (.slice a m c) m (l.map b8)) (hl : Dg.B8 l) : IsB w a m c l ∧ (∀ x, a = some x → base ≤ x.block) := by
  obtain ⟨h1, h2⟩ := h
  have hlen : l.length = m := by simpa using h1
  rcases h2 with ⟨h2, h3⟩ | ⟨g', cap, cur, hv, hg, hh, hn, hm, hs, ht⟩
  · simp only [Value.slice.injEq] at h2
    obtain ⟨rfl, rfl, rfl⟩ := h2
    exact ⟨⟨hlen, Nat.le_refl _, by omega, hl, .inl ⟨rfl, rfl⟩⟩, fun x hx => by cases hx⟩
  · simp only [Value.slice.injEq] at hv
    obtain ⟨rfl, _, rfl⟩ := hv
    refine ⟨⟨hlen, hn, by simpa [maxLen] using hm, hl, .inr ⟨_, rfl, fun _ => ⟨g', 0, rfl, fun i hi => ?_⟩⟩⟩, fun x hx => by cases hx; exact hg⟩
    rw [Nat.zero_add, cell_of_row w g' i cur 5 _ hh]
    have e : (cur.toList.take (m * 1))[i]? = (l.map b8)[i]? := by rw [ht]
    rw [List.getElem?_take, if_pos (by omega), Array.getElem?_toList, List.getElem?_map, List.getElem?_eq_getElem hi] at e
    rw [e, List.getElem?_eq_getElem hi]
    rfl

/-- a row of bytes that may be written -/
def Wr (w : World) (g n : Nat) : Prop := ∃ cur, Blk w g 5 cur ∧ n ≤ cur.size ∧ ∀ i, i < n → ∃ y, cur[i]? = some (.int .u8 y)
theorem Wr.at {w : World} {g n : Nat} (h : Wr w g n) {i : Nat} (hi : i < n) : ∃ y, w.cell? ⟨g, i, none⟩ = some (.int .u8 y) ∧ w.frozen? ⟨g, i, none⟩ = false := by
  obtain ⟨cur, h1, h2, h3⟩ := h
  obtain ⟨y, hy⟩ := h3 i hi
  exact ⟨y, (h1.cell i).trans hy, h1.frozen i⟩
theorem Wr.set {w : World} {g n : Nat} (h : Wr w g n) (j : Nat) (y : Int) : Wr (w.setCell ⟨g, j, none⟩ (.int .u8 y)) g n := by
  obtain ⟨cur, h1, h2, h3⟩ := h
  refine ⟨_, h1.set j _, by simpa using h2, fun i hi => ?_⟩
  rw [Array.getElem?_setIfInBounds]
  split
  · rename_i e
    subst e
    exact ⟨y, by rw [if_pos (by omega)]⟩
  · exact h3 i hi
theorem Wr.below {w w' : World} {g n : Nat} (h : Wr w g n) (b : Below w.heap.size w w') : Wr w' g n := by
  obtain ⟨cur, h1, h2, h3⟩ := h
  exact ⟨cur, h1.below' b, h2, h3⟩
theorem Wr.but {w w' : World} {g g' n : Nat} (h : Wr w g n) (b : But g' w w') (hg : g ≠ g') : Wr w' g n := by
  obtain ⟨cur, h1, h2, h3⟩ := h
  exact ⟨cur, b.other h1 hg, h2, h3⟩
theorem own_wr {w : World} {base g m c : Nat} {l : List Int} (h : w.ownsRow base 5 1 (.slice (some ⟨g, 0, none⟩) m c) m (l.map b8)) : Wr w g m := by
  obtain ⟨h1, h2⟩ := h
  have hlen : l.length = m := by simpa using h1
  rcases h2 with ⟨h2, h3⟩ | ⟨g', cap, cur, hv, hg, hh, hn, hm, hs, ht⟩
  · cases h2
  · simp only [Value.slice.injEq, Option.some.injEq, Addr.mk.injEq] at hv
    obtain ⟨⟨rfl, _, _⟩, _, rfl⟩ := hv
    refine ⟨cur, hh, by omega, fun i hi => ?_⟩
    have e : (cur.toList.take (m * 1))[i]? = (l.map b8)[i]? := by rw [ht]
    rw [List.getElem?_take, if_pos (by omega), Array.getElem?_toList, List.getElem?_map, List.getElem?_eq_getElem (by omega)] at e
    exact ⟨_, e⟩

theorem Hs.but {w w' : World} {g g' : Nat} {bs : List Int} (h : Hs w g bs) (b : But g' w w') (hg : g ≠ g') : Hs w' g bs := by
  obtain ⟨s, r, h1, h2⟩ := h
  exact ⟨s, r, b.other h1 hg, h2⟩
end Go.Proofs.YtfcbooagedjkfaaDoor
