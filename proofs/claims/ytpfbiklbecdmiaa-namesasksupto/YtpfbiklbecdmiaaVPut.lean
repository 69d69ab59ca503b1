/-
  THE WALKS over value.put, at texts and at values.
-/
import Derived.Test.YtpfbiklbecdmiaaVConc
import Derived.Deep.RegionWith
set_option linter.unusedVariables false
set_option linter.unusedSimpArgs false
namespace Go.Proofs.Ytpfbiklbecdmiaa
open Go.RowKit

theorem Raw.weak {w : World} {S S' : Nat → Prop} {v : Value} {sz m : Nat} {cs : List Value} (h : Raw w S v sz m cs) (k : ∀ b, b < w.heap.size → S b → S' b) : Raw w S' v sz m cs := by
  obtain ⟨a, cap, h1, h2, h3, h4, h5, h6⟩ := h
  exact ⟨a, cap, h1, h2, h3, h4, h5, h6.weak k⟩

/-- the front of a slice -/
theorem Raw.front {w : World} {S : Nat → Prop} {a : Option Addr} {m0 cap sz m : Nat} {cs : List Value} (h : Raw w S (.slice a m0 cap) sz m cs) {n : Nat} (hn : n ≤ m) : Raw w S (.slice a n cap) sz n (cs.take (n * sz)) := by
  obtain ⟨a', cap', h1, h2, h3, h4, h5, h6⟩ := h
  simp only [Value.slice.injEq] at h1
  obtain ⟨rfl, rfl, rfl⟩ := h1
  have hle : n * sz ≤ m0 * sz := Nat.mul_le_mul_right _ hn
  refine ⟨a, cap, rfl, by omega, h3, by rw [List.length_take]; omega, fun u hu => h5 u (List.mem_of_mem_take hu), (h6.front hle).congr (fun i hi => ?_)⟩
  simp only [List.getD, List.getElem?_take_of_lt hi]

def tailAddr (a : Option Addr) (cap n sz : Nat) : Option Addr := if cap = n then a else a.map (·.add (n * sz))

/-- the tail of a slice -/
theorem Raw.tail {w : World} {S : Nat → Prop} {a : Option Addr} {m0 cap sz m : Nat} {cs : List Value} (h : Raw w S (.slice a m0 cap) sz m cs) {n : Nat} (hn : n ≤ m) : Raw w S (.slice (tailAddr a cap n sz) (m - n) (cap - n)) sz (m - n) (cs.drop (n * sz)) := by
  obtain ⟨a', cap', h1, h2, h3, h4, h5, h6⟩ := h
  simp only [Value.slice.injEq] at h1
  obtain ⟨rfl, rfl, rfl⟩ := h1
  refine ⟨_, _, rfl, by omega, by omega, by rw [List.length_drop, h4, Nat.sub_mul], fun u hu => h5 u (List.mem_of_mem_drop hu), ?_⟩
  intro hpos
  have hlt : 0 < m0 - n := Nat.pos_of_ne_zero (fun e => by rw [e, Nat.zero_mul] at hpos; exact absurd hpos (Nat.lt_irrefl _))
  have hsz : (m0 - n) * sz = m0 * sz - n * sz := Nat.sub_mul _ _ _
  obtain ⟨b, off, rfl, hb, hc⟩ := h6 (by omega)
  have e1 : (⟨b, off, none⟩ : Addr).add (n * sz) = ⟨b, off + n * sz, none⟩ := by unfold Addr.add; split <;> simp_all
  refine ⟨b, off + n * sz, ?_, hb, fun i hi => ?_⟩
  · unfold tailAddr
    rw [if_neg (by omega)]
    simp only [Option.map_some, e1]
  · rw [Nat.add_assoc, hc _ (by omega)]
    simp only [List.getD, List.getElem?_drop]

theorem slice_tail_str (a : Option Addr) (n cap m : Nat) (h : m ≤ n) (W : World) :
    (Instr.slice 22 (.slice a n cap) (some (.int .i64 (m : Int))) none none).run Try.prog W = .ok (.slice (tailAddr a cap m 1) (n - m) (cap - m)) W := by
  rw [run_slice_l (P := Try.prog) W _ a n cap Try.underlying22 .i64 (m : Int) (by omega) (by omega)]
  simp [sliced, go_sem, tailAddr]

theorem slice_tail_val (a : Option Addr) (n cap m : Nat) (h : m ≤ n) (W : World) :
    (Instr.slice 23 (.slice a n cap) (some (.int .i64 (m : Int))) none none).run Try.prog W = .ok (.slice (tailAddr a cap m 5) (n - m) (cap - m)) W := by
  rw [run_slice_l (P := Try.prog) W _ a n cap Try.underlying23 .i64 (m : Int) (by omega) (by omega)]
  simp [sliced, go_sem, tailAddr]

end Go.Proofs.Ytpfbiklbecdmiaa
