/-
  What the laws of layer 4 call, over slices of bytes.
-/
import Derived.Test.YtfcbooagedjkfaaDoorDSum
import Derived.OpenShut
set_option linter.unusedVariables false
set_option linter.unusedSimpArgs false
namespace Go.Proofs.YtfcbooagedjkfaaDoor
open Go.RowKit

/-- a slice of integers that came in -/
def IsRow (k : IntKind) (w : World) (a : Option Addr) (len cap : Nat) (zs : List Int) : Prop :=
  (a = none ∧ len = 0 ∧ cap = 0 ∧ zs = []) ∨
  ∃ x, a = some x ∧ len ≤ cap ∧ cap ≤ maxLen ∧ zs.length = cap ∧ (∀ i, i < zs.length → w.cell? (x.add i) = some (.int k (zs.getD i 0))) ∧ ∀ n ∈ zs, (Lit.int k n).wf = true

theorem spot_none {w : World} {x : Addr} {v : Value} (h : w.cell? x = some v) : x.spot = none := by
  cases hx : x.spot with
  | none => rfl
  | some s =>
    simp only [World.cell?, hx] at h
    split at h <;> simp at h

theorem IsRow.isB {w : World} {a : Option Addr} {len cap : Nat} {zs : List Int} (h : IsRow .u8 w a len cap zs) : IsB w a len cap (zs.take len) := by
  rcases h with ⟨rfl, rfl, rfl, rfl⟩ | ⟨x, rfl, hl, hm, hz, hc, hw⟩
  · exact ⟨rfl, Nat.le_refl _, by omega, Dg.b8_of_mem (by simp), .inl ⟨rfl, rfl⟩⟩
  · refine ⟨by rw [List.length_take]; omega, hl, by simpa [maxLen] using hm, Dg.b8_of_mem (fun y hy => bounds_u8 (hw y (List.mem_of_mem_take hy))), .inr ⟨x, rfl, fun h0 => ?_⟩⟩
    have hs : (x.add 0).spot = none := spot_none (hc 0 (by omega))
    obtain ⟨b, o, s⟩ := x
    have hsn : s = none := by
      unfold Addr.add at hs
      split at hs <;> simp_all
    subst hsn
    refine ⟨b, o, rfl, fun i hi => ?_⟩
    rw [List.length_take] at hi
    have h1 := hc i (by omega)
    have hadd : (⟨b, o, none⟩ : Addr).add i = ⟨b, o + i, none⟩ := by unfold Addr.add; split <;> simp_all
    rw [hadd] at h1
    rw [h1, List.getElem?_take, if_pos (by omega)]
    simp

theorem isB_nil (w : World) : IsB w none 0 0 [] := ⟨rfl, Nat.le_refl _, by omega, Dg.b8_of_mem (by simp), .inl ⟨rfl, rfl⟩⟩

/-- the front of a slice of bytes -/
theorem IsB.front {w : World} {a : Option Addr} {len cap m : Nat} {bs : List Int} (h : IsB w a len cap bs) (hm : m ≤ len) : IsB w a m cap (bs.take m) := by
  obtain ⟨h1, h2, h3, h4, h5⟩ := h
  refine ⟨by rw [List.length_take]; omega, by omega, h3, fun i => take_bytes h4 m i, ?_⟩
  rcases h5 with h5 | ⟨x, rfl, h6⟩
  · exact .inl h5
  · refine .inr ⟨x, rfl, fun hl => ?_⟩
    obtain ⟨b, o, rfl, hR⟩ := h6 (by omega)
    refine ⟨b, o, rfl, fun i hi => ?_⟩
    rw [List.length_take] at hi
    rw [List.getElem?_take, if_pos (by omega)]
    exact hR i (by omega)

theorem sumI (g : Nat) (bs : List Int) (w : World) (hH : Hs w g bs) (hC : Cubes w) (hmax : bs.length ≤ 1125899906842624) :
    Calls Tryd.prog 42 #[.pointer (some ⟨g, 0, none⟩)] w fun e w' => ∃ g', e = .returned (.slice (some ⟨g', 0, none⟩) 32 32) ∧ IsB w' (some ⟨g', 0, none⟩) 32 32 (Dg.sha bs) ∧ w.heap.size ≤ g' ∧ Below w.heap.size w w' :=
  (sum_any g bs w hH hC hmax).mono fun e w' ⟨g', he, ho, hb⟩ => by
    obtain ⟨h1, h2, _⟩ := own_isB ho (Dg.b8_of_mem (Dg.sha_mem _)) (by omega)
    exact ⟨g', he, h1, h2, hb⟩
theorem sumNilI (w : World) (hC : Cubes w) :
    Calls Tryd.prog 42 #[.pointer none] w fun e w' => ∃ g', e = .returned (.slice (some ⟨g', 0, none⟩) 32 32) ∧ IsB w' (some ⟨g', 0, none⟩) 32 32 (Dg.sha []) ∧ w.heap.size ≤ g' ∧ Below w.heap.size w w' :=
  (sum_nil w hC).mono fun e w' ⟨g', he, ho, hb⟩ => by
    obtain ⟨h1, h2, _⟩ := own_isB ho (Dg.b8_of_mem (Dg.sha_mem _)) (by omega)
    exact ⟨g', he, h1, h2, hb⟩
theorem digestI (bs : List Int) (a : Option Addr) (len cap : Nat) (w : World) (hB : IsB w a len cap bs) (hC : Cubes w) (hmax : len ≤ 1125899906842624) :
    Calls Tryd.prog 35 #[.slice a len cap] w fun e w' => ∃ g', e = .returned (.slice (some ⟨g', 0, none⟩) 32 32) ∧ IsB w' (some ⟨g', 0, none⟩) 32 32 (Dg.sha bs) ∧ w.heap.size ≤ g' ∧ Below w.heap.size w w' :=
  (digestSum_any bs a len cap w hB hC hmax).mono fun e w' ⟨g', he, ho, hb⟩ => by
    obtain ⟨h1, h2, _⟩ := own_isB ho (Dg.b8_of_mem (Dg.sha_mem _)) (by omega)
    exact ⟨g', he, h1, h2, hb⟩

set_option maxHeartbeats 1000000 in
/-- the same bytes -/
theorem same_true (bs : List Int) (a a' : Option Addr) (len cap cap' : Nat) (w : World) (hB : IsB w a len cap bs) (hB' : IsB w a' len cap' bs) :
    Calls Tryd.prog 13 #[.slice a len cap, .slice a' len cap'] w fun e w' => e = .returned (.bool true) ∧ Below w.heap.size w w' := by
  have HB := hide hB
  have HB2 := hide hB'
  have hlc := hB.2.1
  have hcx := hB.2.2.1
  clear hB hB'
  go_enter Tryd.func13, Tryd.ntmps13
  go_wp2_with fail
  go_loopw [5] (fun i wr => ∃ k : Nat, k ≤ len ∧ i = .int .i64 k ∧ Hid (Below w.heap.size w wr)) (fun i _ => len - (intOf i).toNat)
  case atStart => exact ⟨0, by omega, rfl, Below.refl _ _⟩
  case round =>
    obtain ⟨k, hk, rfl, HBw⟩ := hrel
    by_cases hlt : k < len
    · obtain ⟨l1, _, _, _, ⟨_, z1⟩ | ⟨x1, rfl, r1⟩⟩ := HB.out.below HBw.out
      · omega
      obtain ⟨l2, _, _, _, ⟨_, z2⟩ | ⟨x2, rfl, r2⟩⟩ := HB2.out.below HBw.out
      · have := HB2.out.2.1; omega
      obtain ⟨b1, o1, rfl, q1⟩ := r1 (by omega)
      obtain ⟨b2, o2, rfl, q2⟩ := r2 (by omega)
      have c1 := q1 k (by omega)
      have c2 := q2 k (by omega)
      obtain ⟨v, hv⟩ : ∃ v, v = bs[k]?.getD 0 := ⟨_, rfl⟩
      rw [← hv] at c1 c2
      clear hv q1 q2 r1 r2 l1 l2
      go_wp2_with fail
      go_quiet (fail)
      go_wp2_with fail
      go_roundw
      case rel => exact ⟨k + 1, by omega, by go_num, below_drewN HBw.out _⟩
      case measure => simp [intOf]; omega
    · go_wp2_with fail
      go_ret
      exact ⟨rfl, HBw.out⟩
end Go.Proofs.YtfcbooagedjkfaaDoor
