/-
  THE WALKS over value.put, at texts and at values.
-/
import Derived.Test.YteijnkdfacndoaaVConc
import Derived.Deep.RegionWith
set_option linter.unusedVariables false
set_option linter.unusedSimpArgs false
namespace Go.Proofs.Yteijnkdfacndoaa
open Go.RowKit

theorem Raw.weak {w : World} {S S' : Nat → Prop} {v : Value} {sz m : Nat} {cs : List Value} (h : Raw w S v sz m cs) (k : ∀ b, b < w.heap.size → S b → S' b) : Raw w S' v sz m cs := by
  obtain ⟨a, cap, h1, h2, h3, h4, h5, h6⟩ := h
  exact ⟨a, cap, h1, h2, h3, h4, h5, h6.weak k⟩

/-- the front of a slice -/
theorem Raw.front {w : World} {S : Nat → Prop} {a : Option Addr} {m0 cap sz m : Nat} {cs : List Value} (h : Raw w S (.slice a m0 cap) sz m cs) {n : Nat} (hn : n ≤ m) : Raw w S (.slice a n cap) sz n (cs.take (n * sz)) := by
  obtain ⟨a', cap', h1, h2, h3, h4, h5, h6⟩ := h
  simp only [Value.slice.injEq] at h1
  obtain ⟨rfl, rfl, rfl⟩ := h1
  have hle : n * sz ≤ m0 * sz := Nat.mul_le_mul_right _ hn
  refine ⟨a, cap, rfl, by omega, h3, by rw [List.length_take]; omega, fun u hu => h5 u (List.mem_of_mem_take hu), (h6.front hle).congr (fun i hi => ?_)⟩
  simp only [List.getD, List.getElem?_take_of_lt hi]

def tailAddr (a : Option Addr) (cap n sz : Nat) : Option Addr := if cap = n then a else a.map (·.add (n * sz))

/-- the tail of a slice -/
theorem Raw.tail {w : World} {S : Nat → Prop} {a : Option Addr} {m0 cap sz m : Nat} {cs : List Value} (h : Raw w S (.slice a m0 cap) sz m cs) {n : Nat} (hn : n ≤ m) : Raw w S (.slice (tailAddr a cap n sz) (m - n) (cap - n)) sz (m - n) (cs.drop (n * sz)) := by
  obtain ⟨a', cap', h1, h2, h3, h4, h5, h6⟩ := h
  simp only [Value.slice.injEq] at h1
  obtain ⟨rfl, rfl, rfl⟩ := h1
  refine ⟨_, _, rfl, by omega, by omega, by rw [List.length_drop, h4, Nat.sub_mul], fun u hu => h5 u (List.mem_of_mem_drop hu), ?_⟩
  intro hpos
  have hlt : 0 < m0 - n := Nat.pos_of_ne_zero (fun e => by rw [e, Nat.zero_mul] at hpos; exact absurd hpos (Nat.lt_irrefl _))
  have hsz : (m0 - n) * sz = m0 * sz - n * sz := Nat.sub_mul _ _ _
  obtain ⟨b, off, rfl, hb, hc⟩ := h6 (by omega)
  have e1 : (⟨b, off, none⟩ : Addr).add (n * sz) = ⟨b, off + n * sz, none⟩ := by unfold Addr.add; split <;> simp_all
  refine ⟨b, off + n * sz, ?_, hb, fun i hi => ?_⟩
  · unfold tailAddr
    rw [if_neg (by omega)]
    simp only [Option.map_some, e1]
  · rw [Nat.add_assoc, hc _ (by omega)]
    simp only [List.getD, List.getElem?_drop]

theorem slice_tail_str (a : Option Addr) (n cap m : Nat) (h : m ≤ n) (W : World) :
    (Instr.slice 22 (.slice a n cap) (some (.int .i64 (m : Int))) none none).run Try.prog W = .ok (.slice (tailAddr a cap m 1) (n - m) (cap - m)) W := by
  rw [run_slice_l (P := Try.prog) W _ a n cap Try.underlying22 .i64 (m : Int) (by omega) (by omega)]
  simp [sliced, go_sem, tailAddr]

theorem slice_tail_val (a : Option Addr) (n cap m : Nat) (h : m ≤ n) (W : World) :
    (Instr.slice 23 (.slice a n cap) (some (.int .i64 (m : Int))) none none).run Try.prog W = .ok (.slice (tailAddr a cap m 5) (n - m) (cap - m)) W := by
  rw [run_slice_l (P := Try.prog) W _ a n cap Try.underlying23 .i64 (m : Int) (by omega) (by omega)]
  simp [sliced, go_sem, tailAddr]

theorem concat3S_any (W : World) (S : Nat → Prop) (x1 x2 x3 : Value) (m1 m2 m3 : Nat) (c1 c2 c3 : List Value) (h1 : Raw W S x1 1 m1 c1) (h2 : Raw W S x2 1 m2 c2) (h3 : Raw W S x3 1 m3 c3) (hs : m1 + m2 + m3 ≤ 17179869184) (g : Nat) (hg : g = W.heap.size) :
    Calls Try.prog 71 #[.slice (some ⟨g, 0, none⟩) 3 3] (W.alloc (.cells #[x1, x2, x3] 22)) fun e w' => ∃ a' m' c', e = .returned (.slice a' m' c') ∧ Raw w' (fun b => W.heap.size < b) (.slice a' m' c') 1 (m1 + m2 + m3) (c1 ++ c2 ++ c3) ∧ Below W.heap.size W w' := by
  subst hg
  have hb := below_alloc W (.cells #[x1, x2, x3] 22)
  have hrow := row_new W #[x1, x2, x3] 22 _ rfl
  refine (concatS_any (some ⟨W.heap.size, 0, none⟩) 3 (fun i => #[x1, x2, x3].getD i undef) [(m1, c1), (m2, c2), (m3, c3)] (W.alloc (.cells #[x1, x2, x3] 22)) (fun _ => True) (hrow.cells trivial (Nat.le_refl _)) ?_ (by simp) (by simp [total]; omega)).mono ?_
  · intro i hi
    have : i = 0 ∨ i = 1 ∨ i = 2 := by simp at hi; omega
    rcases this with rfl | rfl | rfl
    · exact (h1.weak (fun _ _ _ => trivial)).below hb
    · exact (h2.weak (fun _ _ _ => trivial)).below hb
    · exact (h3.weak (fun _ _ _ => trivial)).below hb
  · rintro e w' ⟨a', m', c', rfl, hr, b⟩
    refine ⟨a', m', c', rfl, ?_, bthen hb b⟩
    have e1 : total [(m1, c1), (m2, c2), (m3, c3)] = m1 + m2 + m3 := by simp [total]; omega
    have e2 : flat [(m1, c1), (m2, c2), (m3, c3)] = c1 ++ c2 ++ c3 := by simp [flat]
    rw [e1, e2] at hr
    exact hr.weak (fun b _ hb => by simp at hb; omega)

set_option maxHeartbeats 4000000 in
theorem putS_any (a : Option Addr) (m cap : Nat) (cs : List Value) (p q : Nat) (y : Value) (my : Nat) (cy : List Value) (w : World) (S : Nat → Prop) (hl : Raw w S (.slice a m cap) 1 m cs) (hy : Raw w S y 1 my cy) (hpq : p ≤ q) (hq : q ≤ m) (hm : m ≤ 4294967296) (hmy : my ≤ 4294967296) :
    Calls Try.prog 46 #[.slice a m cap, .int .i64 p, .int .i64 q, y] w fun e w' => ∃ a' m' c', e = .returned (.slice a' m' c') ∧ Raw w' (fun b => w.heap.size ≤ b) (.slice a' m' c') 1 (p + my + (m - q)) (cs.take (p * 1) ++ cy ++ cs.drop (q * 1)) ∧ Below w.heap.size w w' := by
  have hcap : m ≤ cap := by obtain ⟨_, _, h1, h2, _⟩ := hl; simp only [Value.slice.injEq] at h1; obtain ⟨_, _, rfl⟩ := h1; exact h2
  obtain ⟨ya, yc, rfl, _⟩ := id hy
  have s1 := slice_front_str a m cap p (by omega)
  have s2 := slice_tail_str a m cap q hq
  have HL := hide hl
  have HY := hide hy
  clear hl hy
  obtain ⟨ta, hta⟩ : ∃ t, tailAddr a cap q 1 = t := ⟨_, rfl⟩
  rw [hta] at s2
  have HT := hide hta
  clear hta
  go_enter Try.func46, Try.ntmps46
  go_wp2_with fail
  go_region_with (go_at_call 71; refine (concat3S_any w.drew S _ _ _ p my (m - q) (cs.take (p * 1)) cy (cs.drop (q * 1)) (HL.out.front (by omega)) HY.out (by have := HL.out.tail hq; rw [HT.out] at this; exact this) (by omega) _ rfl).mono ?_; rintro e w1 ⟨a', m', c', rfl, hr, b1⟩)
  all_goals go_wp2
  all_goals go_ret
  all_goals exact ⟨_, _, _, rfl, hr.weak (fun b _ hb => Nat.le_of_lt hb), ((Below.refl w.heap.size w).drew).trans b1⟩

theorem concat3V_any (W : World) (S : Nat → Prop) (x1 x2 x3 : Value) (m1 m2 m3 : Nat) (c1 c2 c3 : List Value) (h1 : Raw W S x1 5 m1 c1) (h2 : Raw W S x2 5 m2 c2) (h3 : Raw W S x3 5 m3 c3) (hs : m1 + m2 + m3 ≤ 17179869184) (g : Nat) (hg : g = W.heap.size) :
    Calls Try.prog 72 #[.slice (some ⟨g, 0, none⟩) 3 3] (W.alloc (.cells #[x1, x2, x3] 23)) fun e w' => ∃ a' m' c', e = .returned (.slice a' m' c') ∧ Raw w' (fun b => W.heap.size < b) (.slice a' m' c') 5 (m1 + m2 + m3) (c1 ++ c2 ++ c3) ∧ Below W.heap.size W w' := by
  subst hg
  have hb := below_alloc W (.cells #[x1, x2, x3] 23)
  have hrow := row_new W #[x1, x2, x3] 23 _ rfl
  refine (concatV_any (some ⟨W.heap.size, 0, none⟩) 3 (fun i => #[x1, x2, x3].getD i undef) [(m1, c1), (m2, c2), (m3, c3)] (W.alloc (.cells #[x1, x2, x3] 23)) (fun _ => True) (hrow.cells trivial (Nat.le_refl _)) ?_ (by simp) (by simp [total]; omega)).mono ?_
  · intro i hi
    have : i = 0 ∨ i = 1 ∨ i = 2 := by simp at hi; omega
    rcases this with rfl | rfl | rfl
    · exact (h1.weak (fun _ _ _ => trivial)).below hb
    · exact (h2.weak (fun _ _ _ => trivial)).below hb
    · exact (h3.weak (fun _ _ _ => trivial)).below hb
  · rintro e w' ⟨a', m', c', rfl, hr, b⟩
    refine ⟨a', m', c', rfl, ?_, bthen hb b⟩
    have e1 : total [(m1, c1), (m2, c2), (m3, c3)] = m1 + m2 + m3 := by simp [total]; omega
    have e2 : flat [(m1, c1), (m2, c2), (m3, c3)] = c1 ++ c2 ++ c3 := by simp [flat]
    rw [e1, e2] at hr
    exact hr.weak (fun b _ hb => by simp at hb; omega)

set_option maxHeartbeats 4000000 in
theorem putV_any (a : Option Addr) (m cap : Nat) (cs : List Value) (p q : Nat) (y : Value) (my : Nat) (cy : List Value) (w : World) (S : Nat → Prop) (hl : Raw w S (.slice a m cap) 5 m cs) (hy : Raw w S y 5 my cy) (hpq : p ≤ q) (hq : q ≤ m) (hm : m ≤ 4294967296) (hmy : my ≤ 4294967296) :
    Calls Try.prog 47 #[.slice a m cap, .int .i64 p, .int .i64 q, y] w fun e w' => ∃ a' m' c', e = .returned (.slice a' m' c') ∧ Raw w' (fun b => w.heap.size ≤ b) (.slice a' m' c') 5 (p + my + (m - q)) (cs.take (p * 5) ++ cy ++ cs.drop (q * 5)) ∧ Below w.heap.size w w' := by
  have hcap : m ≤ cap := by obtain ⟨_, _, h1, h2, _⟩ := hl; simp only [Value.slice.injEq] at h1; obtain ⟨_, _, rfl⟩ := h1; exact h2
  obtain ⟨ya, yc, rfl, _⟩ := id hy
  have s1 := slice_front_val a m cap p (by omega)
  have s2 := slice_tail_val a m cap q hq
  have HL := hide hl
  have HY := hide hy
  clear hl hy
  obtain ⟨ta, hta⟩ : ∃ t, tailAddr a cap q 5 = t := ⟨_, rfl⟩
  rw [hta] at s2
  have HT := hide hta
  clear hta
  go_enter Try.func47, Try.ntmps47
  go_wp2_with fail
  go_region_with (go_at_call 72; refine (concat3V_any w.drew S _ _ _ p my (m - q) (cs.take (p * 5)) cy (cs.drop (q * 5)) (HL.out.front (by omega)) HY.out (by have := HL.out.tail hq; rw [HT.out] at this; exact this) (by omega) _ rfl).mono ?_; rintro e w1 ⟨a', m', c', rfl, hr, b1⟩)
  all_goals go_wp2
  all_goals go_ret
  all_goals exact ⟨_, _, _, rfl, hr.weak (fun b _ hb => Nat.le_of_lt hb), ((Below.refl w.heap.size w).drew).trans b1⟩

end Go.Proofs.Yteijnkdfacndoaa
