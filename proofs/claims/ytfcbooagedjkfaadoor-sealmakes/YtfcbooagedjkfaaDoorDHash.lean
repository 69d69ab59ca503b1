/-
  A Hasher in memory; THE WALKS of New, Long, start, fill.
-/
import Derived.Test.YtfcbooagedjkfaaDoorDTail
set_option linter.unusedVariables false
set_option linter.unusedSimpArgs false
namespace Go.Proofs.YtfcbooagedjkfaaDoor
open Go.RowKit

/-- a Hasher's cells -/
def hr (r : List Int) (n : Int) : Array Value := ((r.map b8) ++ [Value.int .u64 n]).toArray
def hc (s r : List Int) (n : Int) : Array Value := wds s ++ hr r n
theorem hr_size (r : List Int) (n : Int) : (hr r n).size = r.length + 1 := by simp [hr]
theorem hc_size (s r : List Int) (n : Int) : (hc s r n).size = s.length + (r.length + 1) := by simp [hc, wds_size, hr_size]
theorem hc_rest {s r : List Int} {n : Int} (hs : s.length = 8) {i : Nat} (h : i < r.length) : (hc s r n)[8 + i]? = some (b8 (r[i]?.getD 0)) := by
  unfold hc
  rw [Array.getElem?_append_right (by rw [wds_size]; omega), wds_size, hs, show 8 + i - 8 = i by omega]
  simp [hr, List.getElem?_append, h]
theorem hc_long {s r : List Int} {n : Int} (hs : s.length = 8) (hr' : r.length = 64) : (hc s r n)[72]? = some (.int .u64 n) := by
  unfold hc
  rw [Array.getElem?_append_right (by rw [wds_size]; omega), wds_size, hs]
  simp [hr, List.getElem?_append, hr']
theorem hc_setLong {s r : List Int} {n : Int} (hs : s.length = 8) (hr' : r.length = 64) (m : Int) : (hc s r n).setIfInBounds 72 (.int .u64 m) = hc s r m := by
  obtain ⟨a, b, c, d, e, f, g, i, rfl⟩ := Dg.eight hs
  apply Array.ext_getElem?
  intro j
  rw [Array.getElem?_setIfInBounds]
  by_cases h : 72 = j
  · subst h
    rw [if_pos rfl, hc_long rfl hr', hc_size, if_pos (by simp [hr'])]
  · rw [if_neg h]
    unfold hc
    by_cases h8 : j < 8
    · rw [Array.getElem?_append_left (by rw [wds_size]; exact h8), Array.getElem?_append_left (by rw [wds_size]; exact h8)]
    · rw [Array.getElem?_append_right (by rw [wds_size]; simp; omega), Array.getElem?_append_right (by rw [wds_size]; simp; omega)]
      simp only [hr, wds_size, List.getElem?_toArray, List.getElem?_append, List.length_map]
      split
      · rfl
      · have : ¬ j - [a, b, c, d, e, f, g, i].length - r.length = 0 := by simp [hr']; omega
        rw [List.getElem?_eq_none (by simp; simp at this; omega), List.getElem?_eq_none (by simp; simp at this; omega)]

/-- a slice of bytes -/
def IsB (w : World) (a : Option Addr) (len cap : Nat) (bs : List Int) : Prop :=
  bs.length = len ∧ len ≤ cap ∧ cap ≤ 9223372036854775807 ∧ (∀ i : Nat, 0 ≤ bs[i]?.getD 0 ∧ bs[i]?.getD 0 ≤ 255) ∧ ((a = none ∧ cap = 0) ∨ ∃ x, a = some x ∧ (0 < len → ∃ b o, x = ⟨b, o, none⟩ ∧ Rd w b o bs))
/-- it lies outside block g -/
def Off (g : Nat) (a : Option Addr) (len : Nat) : Prop := 0 < len → ∀ x, a = some x → x.block ≠ g

theorem IsB.below {w w' : World} {a : Option Addr} {len cap : Nat} {bs : List Int} (h : IsB w a len cap bs) (b : Below w.heap.size w w') : IsB w' a len cap bs := by
  obtain ⟨h1, h2, h3, h4, h5⟩ := h
  refine ⟨h1, h2, h3, h4, ?_⟩
  rcases h5 with h5 | ⟨x, hx, h6⟩
  · exact .inl h5
  · exact .inr ⟨x, hx, fun hl => by obtain ⟨g, o, e, hr⟩ := h6 hl; exact ⟨g, o, e, hr.below b⟩⟩
theorem IsB.but {w w' : World} {a : Option Addr} {len cap g : Nat} {bs : List Int} (h : IsB w a len cap bs) (b : But g w w') (ho : Off g a len) : IsB w' a len cap bs := by
  obtain ⟨h1, h2, h3, h4, h5⟩ := h
  refine ⟨h1, h2, h3, h4, ?_⟩
  rcases h5 with h5 | ⟨x, hx, h6⟩
  · exact .inl h5
  · exact .inr ⟨x, hx, fun hl => by obtain ⟨q, o, e, hr⟩ := h6 hl; exact ⟨q, o, e, hr.but b (by have := ho hl x hx; rw [e] at this; exact this)⟩⟩

theorem IsB.off {w : World} {a : Option Addr} {len cap : Nat} {bs : List Int} (h : IsB w a len cap bs) {g : Nat} (hg : w.heap.size ≤ g) : Off g a len := by
  intro hl x hx
  obtain ⟨h1, _, _, _, ⟨rfl, _⟩ | ⟨y, rfl, h6⟩⟩ := h
  · cases hx
  · cases hx
    obtain ⟨b, o, rfl, hR⟩ := h6 hl
    have := hR.lt (by omega)
    show b ≠ g
    omega

theorem start_any (w : World) : Calls Tryd.prog 52 #[] w fun e w' => e = .returned (.agg (wds Dg.start)) ∧ Below w.heap.size w w' := by
  go_enter Tryd.func52, Tryd.ntmps52
  go_wp2
  refine bodyPost_ret (v := .agg (wds Dg.start)) ?_ rfl ⟨rfl, (Below.refl _ _).alloc (Nat.le_refl _) _⟩
  exact results_cell_row rfl _ _ w.heap.size 74 (wds Dg.start) (0, 0) _ rfl (blk_new w _ _) Tryd.underlying74 rfl (by kernel_rfl)

theorem new_any (w : World) : Calls Tryd.prog 40 #[] w fun e w' => e = .returned (.pointer (some ⟨w.heap.size, 0, none⟩)) ∧ Below w.heap.size w w' ∧ Blk w' w.heap.size 76 (hc (List.replicate 8 0) (List.replicate 64 0) 0) := by
  obtain ⟨Z, hZ⟩ : ∃ Z, hc (List.replicate 8 0) (List.replicate 64 0) 0 = Z := ⟨_, rfl⟩
  rw [hZ]
  go_enter Tryd.func40, Tryd.ntmps40
  go_upto_region 1 with fail
  refine wp_region_lit ?_
  refine wpList_build rfl 76 #[] rfl (by kernel_rfl) ?_
  have e : ((Tryd.prog.built 76 (Array.map (fun (x : Nat × Operand) => (x.1, Act.eval { tmps := #[Value.pointer none, undef, undef], defers := [] } x.2)) #[]).toList).getD #[]) = hc (List.replicate 8 0) (List.replicate 64 0) 0 := by kernel_rfl
  simp only [Act.put, List.setIfInBounds_toArray, List.set_cons_zero, List.set_cons_succ]
  rw [e.trans hZ]
  clear e hZ
  go_wp2
  go_ret
  exact ⟨rfl, (Below.refl _ _).alloc (Nat.le_refl _) _, blk_new w _ _⟩

/-- bytes put into a Hasher's rest from k on -/
def splice (r bs : List Int) (k : Nat) : List Int := r.take k ++ bs ++ r.drop (k + bs.length)
theorem splice_length (r bs : List Int) (k : Nat) (h : k + bs.length ≤ r.length) : (splice r bs k).length = r.length := by simp [splice]; omega
theorem hc_splice (s r bs : List Int) (n : Int) (k : Nat) (hs : s.length = 8) (h : k + bs.length ≤ r.length) :
    ((hc s r n).toList.take (8 + k) ++ bs.map b8 ++ (hc s r n).toList.drop (8 + k + (bs.map b8).length)).toArray = hc s (splice r bs k) n := by
  have e : (hc s r n).toList = s.map w32 ++ (r.map b8 ++ [Value.int .u64 n]) := by simp [hc, wds, hr]
  have e1 : (s.map w32 ++ (r.map b8 ++ [Value.int .u64 n])).take (8 + k) = s.map w32 ++ (r.take k).map b8 := by
    rw [List.take_append, List.take_of_length_le (by simp; omega), List.length_map, hs, show 8 + k - 8 = k by omega, List.take_append_of_le_length (by simp; omega), List.map_take]
  have e2 : (s.map w32 ++ (r.map b8 ++ [Value.int .u64 n])).drop (8 + k + bs.length) = (r.drop (k + bs.length)).map b8 ++ [Value.int .u64 n] := by
    rw [List.drop_append, List.drop_eq_nil_of_le (by simp; omega), List.length_map, hs, show 8 + k + bs.length - 8 = k + bs.length by omega, List.drop_append_of_le_length (by simp; omega), List.map_drop]
    rfl
  rw [e, e1, List.length_map, e2]
  simp [hc, wds, hr, splice]

/-- copy into the rest -/
theorem run_copy_rest (w : World) (g q : Nat) (s r bs : List Int) (n : Int) (k dLen dCap sLen sCap : Nat) (a : Addr) (hs : s.length = 8) (hb : Blk w g 76 (hc s r n)) (hl : bs.length = Nat.min sLen dLen) (hk : k + bs.length ≤ r.length)
    (hsrc : ∃ b o, a = ⟨b, o, none⟩ ∧ Rd w b o bs) :
    (Builtin.copy_ #[22, 22] 3 #[.slice (some ⟨g, 8 + k, none⟩) dLen dCap, .slice (some a) sLen sCap]).run Tryd.prog w = .ok (goInt bs.length) (w.setRow g (hc s (splice r bs k) n)) := by
  obtain ⟨b, o, rfl, hr'⟩ := hsrc
  have h := run_copy_row (P := Tryd.prog) w 22 22 3 5 g (8 + k) dLen dCap ⟨b, o, none⟩ sLen sCap (hc s r n) 76 (bs.map b8) Tryd.underlying22 (by kernel_rfl) hb (by rw [List.length_map]; exact hl)
    (fun j v hv => by
      have hadd : (⟨b, o, none⟩ : Addr).add j = ⟨b, o + j, none⟩ := by unfold Addr.add; split <;> simp_all
      refine Eq.trans (congrArg _ hadd) ?_
      have hj : j < bs.length := by have := (List.getElem?_eq_some_iff.1 hv).1; simpa using this
      refine (hr' j hj).trans ?_
      rw [List.getElem?_map, List.getElem?_eq_getElem hj] at hv
      simp at hv
      simp [hj, hv])
    (by rw [hc_size, List.length_map, hs]; omega) (fun v hv => by simp only [List.mem_map] at hv; obtain ⟨x, _, rfl⟩ := hv; rfl)
  rw [hc_splice s r bs n k hs hk, List.length_map] at h
  exact h

end Go.Proofs.YtfcbooagedjkfaaDoor
