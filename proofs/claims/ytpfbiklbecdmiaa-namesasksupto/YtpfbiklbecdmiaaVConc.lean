/-
  THE WALKS over slices.Grow, slices.Concat and value.put, at texts and at values.
-/
import Derived.Test.YtpfbiklbecdmiaaVWalksE
import Derived.Lib.AppendZeros
import Derived.Laws.AppendOwnNone
set_option linter.unusedVariables false
set_option linter.unusedSimpArgs false
namespace Go.Proofs.Ytpfbiklbecdmiaa
open Go.RowKit

theorem hide {p : Prop} (h : p) : Hid p := h

/-- a slice of m elements of sz cells each, told by its cells -/
def Raw (w : World) (S : Nat → Prop) (v : Value) (sz m : Nat) (cs : List Value) : Prop :=
  ∃ a cap, v = .slice a m cap ∧ m ≤ cap ∧ cap ≤ maxLen ∧ cs.length = m * sz ∧ (∀ u ∈ cs, u.oneCell' = true) ∧ Cells w S a (m * sz) (fun i => cs.getD i undef)

theorem Raw.keep {w w' : World} {S : Nat → Prop} {v : Value} {sz m : Nat} {cs : List Value} (h : Raw w S v sz m cs) (k : Keeps S w w') : Raw w' S v sz m cs := by
  obtain ⟨a, cap, h1, h2, h3, h4, h5, h6⟩ := h
  exact ⟨a, cap, h1, h2, h3, h4, h5, h6.keep k⟩
theorem Raw.below {w w' : World} {S : Nat → Prop} {v : Value} {sz m : Nat} {cs : List Value} (h : Raw w S v sz m cs) (k : Below w.heap.size w w') : Raw w' S v sz m cs := h.keep (Keeps.of_below k)

/-- what a call built by append, as a slice -/
theorem Raw.of_own {w : World} {base : Nat} {e : TypeId} {sz : Nat} {v : Value} {n : Nat} {xs : List Value} (h : w.ownsRow base e sz v n xs) (h1 : ∀ u ∈ xs, u.oneCell' = true) : Raw w (fun b => base ≤ b) v sz n xs := by
  have hl := h.1
  rcases id h.2 with ⟨rfl, rfl⟩ | ⟨g, cap, cur, rfl, hb, hg, hnc, hcm, hcs, ht⟩
  · exact ⟨none, 0, rfl, Nat.le_refl _, by decide, hl, h1, fun hh => absurd hh (by simp)⟩
  · refine ⟨_, cap, rfl, hnc, hcm, hl, h1, fun _ => ⟨g, 0, rfl, hb, fun i hi => ?_⟩⟩
    have hx : xs[i]? = some (xs.getD i undef) := by
      rw [List.getElem?_eq_getElem (by omega)]; simp [List.getD, List.getElem?_eq_getElem (show i < xs.length by omega)]
    have := h.cells (g := g) rfl i _ hx
    rw [← this]
    congr 1
    unfold Addr.add
    split <;> simp_all

theorem append_zero {P : Program} {w : World} (t ty e : TypeId) (i : TypeInfo) (ht : P.underlying t = some (.slice e)) (hi : P.info? e = some i) (base size : Nat)
    (v : Value) (n : Nat) (xs : List Value) (hown : w.ownsRow base e size v n xs) (a : Option Addr) (c : Nat) :
    (Builtin.append_ #[t, t] ty #[v, .slice a 0 c]).run P w = .ok v w := by
  rcases hown.2 with ⟨rfl, rfl⟩ | ⟨g, cap, cur, rfl, _, _, hnc, _⟩
  · cases a <;> simp [Builtin.append_, run_underlying ht, sizeOf, typeInfo, hi, Builtin.lenOf, Builtin.firstCells, loadCells, loadCellsFrom]
  · cases a <;> simp [Builtin.append_, run_underlying ht, sizeOf, typeInfo, hi, Builtin.lenOf, Builtin.firstCells, hnc, storeCells, loadCells, loadCellsFrom]

theorem own_shape {w : World} {base : Nat} {e : TypeId} {sz : Nat} {v : Value} {n : Nat} {xs : List Value} (h : w.ownsRow base e sz v n xs) : ∃ a c, v = .slice a n c := by
  rcases h.2 with ⟨rfl, rfl⟩ | ⟨g, cap, cur, rfl, _⟩
  · exact ⟨_, _, rfl⟩
  · exact ⟨_, _, rfl⟩

theorem own_block {w : World} {base : Nat} {e : TypeId} {sz : Nat} {v : Value} {n : Nat} {xs : List Value} (h : w.ownsRow base e sz v n xs) : ∀ k, v.ownBlock = some k → base ≤ k := fun k hk => (h.lt k hk).1

def total (ms : List (Nat × List Value)) : Nat := (ms.map (·.1)).sum
def flat (ms : List (Nat × List Value)) : List Value := ms.flatMap (·.2)
theorem total_take (ms : List (Nat × List Value)) (j : Nat) (h : j < ms.length) : total (ms.take (j + 1)) = total (ms.take j) + ms[j].1 := by
  unfold total; rw [List.take_succ_eq_append_getElem h, List.map_append, List.map_cons, List.map_nil, List.sum_append, List.sum_cons, List.sum_nil, Nat.add_zero]
theorem flat_take (ms : List (Nat × List Value)) (j : Nat) (h : j < ms.length) : flat (ms.take (j + 1)) = flat (ms.take j) ++ ms[j].2 := by
  unfold flat; rw [List.take_succ_eq_append_getElem h, List.flatMap_append, List.flatMap_cons, List.flatMap_nil, List.append_nil]
theorem total_le (ms : List (Nat × List Value)) (j : Nat) : total (ms.take j) ≤ total ms := by
  have : total ms = total (ms.take j) + total (ms.drop j) := by
    unfold total; rw [← List.sum_append, ← List.map_append, List.take_append_drop]
  omega

/-- append(v, part...) on a row of the call's own -/
theorem append_part {P : Program} {w : World} (t ty e : TypeId) (z : Value) (size bytes : Nat) (ht : P.underlying t = some (.slice e)) (hinfo : (P.info? e).map (fun i => (i.zero, i.size, i.bytes)) = some (some z, size, bytes)) (hzs : z.cells.size = size) (hsz : 0 < size)
    (base : Nat) (v : Value) (n : Nat) (xs : List Value) (hown : w.ownsRow base e size v n xs) {S : Nat → Prop} {x : Value} {m : Nat} {cs : List Value} (hx : Raw w S x size m cs)
    (h63 : n + m ≤ maxLen) (hbytes : (n + m) * bytes ≤ 140737488355328) (hbase : base ≤ w.heap.size) :
    ∃ v' w', (Builtin.append_ #[t, t] ty #[v, x]).run P w = .ok v' w' ∧ w'.ownsRow base e size v' (n + m) (xs ++ cs) ∧ w.grownBy w' v.ownBlock := by
  obtain ⟨i0, hi, hz0, hz1, hz2⟩ := info_parts hinfo
  obtain ⟨a, cap, rfl, h1, h2, h3, h4, h5⟩ := hx
  by_cases hm : m = 0
  · subst hm
    have : cs = [] := List.eq_nil_of_length_eq_zero (by omega)
    subst this
    refine ⟨v, w, append_zero t ty e i0 ht hi base size v n xs hown a cap, ?_, ⟨rfl, rfl, rfl, Nat.le_refl _, fun _ _ _ => rfl⟩⟩
    rw [List.append_nil]; exact hown
  · obtain ⟨b, off, rfl, _, hc⟩ := h5 (Nat.mul_pos (by omega) hsz)
    obtain ⟨v', w', q1, q2, q3, _⟩ := run_append_own w base t ty e i0 z size bytes ht hi hz0 hz1 hz2 hzs hsz v n xs hown ⟨b, off, none⟩ m cap cs h3 (fun j u hu => by
      obtain ⟨hj, hju⟩ := List.getElem?_eq_some_iff.1 hu
      have e1 : (⟨b, off, none⟩ : Addr).add j = ⟨b, off + j, none⟩ := by unfold Addr.add; split <;> simp_all
      rw [e1, hc j (by omega)]
      simp [List.getD, hu]) h4 h63 hbytes hbase
    exact ⟨v', w', q1, q2, q3⟩


end Go.Proofs.Ytpfbiklbecdmiaa
