/-
  THE WALK of fill.
-/
import Derived.Test.YtfcbooagedjkfaaDoorDHash
set_option linter.unusedVariables false
set_option linter.unusedSimpArgs false
namespace Go.Proofs.YtfcbooagedjkfaaDoor
open Go.RowKit

theorem splice_nil (r : List Int) (k : Nat) : splice r [] k = r := by simp [splice]

theorem run_copy_isB (w : World) (g : Nat) (s r bs : List Int) (n : Int) (k dLen dCap len cap m : Nat) (a : Option Addr) (hs : s.length = 8) (hr' : r.length = 64) (hb : Blk w g 76 (hc s r n)) (hB : IsB w a len cap bs) (hm : m = Nat.min len dLen) (hk : k + m ≤ 64) :
    (Builtin.copy_ #[22, 22] 3 #[.slice (some ⟨g, 8 + k, none⟩) dLen dCap, .slice a len cap]).run Tryd.prog w = .ok (.int .i64 m) (w.setRow g (hc s (splice r (bs.take m) k) n)) := by
  obtain ⟨h1, h2, h3, h4, h5⟩ := hB
  by_cases h0 : m = 0
  · subst h0
    rw [List.take_zero, splice_nil, setRow_self w g _ _ _ hb]
    exact run_copy_none w 22 22 3 5 (some ⟨g, 8 + k, none⟩) a dLen dCap len cap Tryd.underlying22 (by kernel_rfl) hm.symm
  · have hlen : 0 < len := by rcases Nat.eq_zero_or_pos len with h | h; · subst h; simp [Nat.min_def] at hm; omega
                              · exact h
    rcases h5 with ⟨_, hc0⟩ | ⟨x, rfl, h6⟩
    · omega
    · obtain ⟨b, o, rfl, hR⟩ := h6 hlen
      have hml : m ≤ len := by rw [hm]; exact Nat.min_le_left _ _
      have := run_copy_rest w g 0 s r (bs.take m) n k dLen dCap len cap ⟨b, o, none⟩ hs hb (by rw [List.length_take, h1, ← hm]; omega) (by rw [List.length_take]; omega)
        ⟨b, o, rfl, fun i hi => by
          rw [List.length_take] at hi
          have := hR i (by omega)
          rw [List.getElem?_take, if_pos (by omega)]
          exact this⟩
      rw [List.length_take, h1, Nat.min_eq_left hml] at this
      exact this

theorem run_slice_rest (w : World) (g k : Nat) (hk : k < 64) : (Instr.sliceAt 39 (.pointer (some ⟨g, 8, none⟩)) (some (.int .i64 k)) none none).run Tryd.prog w = .ok (.slice (some ⟨g, 8 + k, none⟩) (64 - k) (64 - k)) w := by
  have hn : ¬ 64 = k := by omega
  have hu : (Tryd.prog.underlying 39) = some (.array 64 5) := Tryd.underlying39
  have hs : (sizeOf 5).run Tryd.prog w = .ok 1 w := by
    cases hq : Tryd.prog.info? 5 with
    | none => have := infoByte; simp [hq] at this
    | some j =>
      have hj : j.size = 1 := by have := infoByte; simp [hq] at this; exact this.2.1
      simp [sizeOf, typeInfo, hq, hj]
  have h1 : (k : Int) ≤ 64 := by omega
  simp [Instr.sliceAt, Instr.sureAddr, run_underlying hu, Instr.sliceBounds, run_sliceBound, hs, h1, hn, Addr.add]

set_option maxHeartbeats 1000000 in
theorem fill_zero (g : Nat) (s r : List Int) (n : Int) (a : Option Addr) (len cap : Nat) (w : World) (hs : s.length = 8) (hr' : r.length = 64) (hb : Blk w g 76 (hc s r n)) (h0 : 0 ≤ n) (h1 : n < 4611686018427387904) (hk : n % 64 = 0) :
    Calls Tryd.prog 53 #[.pointer (some ⟨g, 0, none⟩), .slice a len cap] w fun e w' => e = .returned (.slice a len cap) ∧ w' = w := by
  have hl := (hb.cell 72).trans (hc_long hs hr')
  clear hs hr' hb
  go_enter Tryd.func53, Tryd.ntmps53
  go_wp2_with fail
  go_ret
  exact ⟨rfl, rfl⟩

theorem take_bytes {bs : List Int} (h : ∀ i : Nat, 0 ≤ bs[i]?.getD 0 ∧ bs[i]?.getD 0 ≤ 255) (m i : Nat) : 0 ≤ (bs.take m)[i]?.getD 0 ∧ (bs.take m)[i]?.getD 0 ≤ 255 := by
  rw [List.getElem?_take]
  split
  · exact h i
  · simp
theorem app_bytes {l r : List Int} (h : ∀ i : Nat, 0 ≤ l[i]?.getD 0 ∧ l[i]?.getD 0 ≤ 255) (h' : ∀ i : Nat, 0 ≤ r[i]?.getD 0 ∧ r[i]?.getD 0 ≤ 255) (i : Nat) : 0 ≤ (l ++ r)[i]?.getD 0 ∧ (l ++ r)[i]?.getD 0 ≤ 255 := by
  rw [List.getElem?_append]
  split
  · exact h i
  · exact h' _
theorem splice_bytes {r bs : List Int} (h : ∀ i : Nat, 0 ≤ r[i]?.getD 0 ∧ r[i]?.getD 0 ≤ 255) (h' : ∀ i : Nat, 0 ≤ bs[i]?.getD 0 ∧ bs[i]?.getD 0 ≤ 255) (k : Nat) : ∀ i : Nat, 0 ≤ (splice r bs k)[i]?.getD 0 ∧ (splice r bs k)[i]?.getD 0 ≤ 255 :=
  fun i => app_bytes (fun i => app_bytes (fun i => take_bytes h k i) h' i) (fun i => by rw [List.getElem?_drop]; exact h _) i

/-- the rest of a slice of bytes -/
def cutA (a : Option Addr) (m cap : Nat) : Option Addr := if cap = m then a else a.map (·.add m)
theorem run_slice_cut (w : World) (a : Option Addr) (len cap m : Nat) (hm : m ≤ len) (hl : len ≤ cap) : (Instr.sliceAt 22 (.slice a len cap) (some (.int .i64 m)) none none).run Tryd.prog w = .ok (.slice (cutA a m cap) (len - m) (cap - m)) w := by
  have hu : (Tryd.prog.underlying 22) = some (.slice 5) := Tryd.underlying22
  have hs : (sizeOf 5).run Tryd.prog w = .ok 1 w := by
    cases hq : Tryd.prog.info? 5 with
    | none => have := infoByte; simp [hq] at this
    | some j =>
      have hj : j.size = 1 := by have := infoByte; simp [hq] at this; exact this.2.1
      simp [sizeOf, typeInfo, hq, hj]
  have h1 : (m : Int) ≤ len := by omega
  simp [Instr.sliceAt, Instr.slice, run_underlying hu, Instr.sliceBounds, run_sliceBound, hs, h1, cutA]
theorem IsB.cut {w : World} {a : Option Addr} {len cap m : Nat} {bs : List Int} (h : IsB w a len cap bs) (hm : m ≤ len) : IsB w (cutA a m cap) (len - m) (cap - m) (bs.drop m) := by
  obtain ⟨h1, h2, h3, h4, h5⟩ := h
  refine ⟨by simp [h1], by omega, by omega, fun i => by rw [List.getElem?_drop]; exact h4 _, ?_⟩
  rcases h5 with ⟨rfl, rfl⟩ | ⟨x, rfl, h6⟩
  · exact .inl ⟨by simp [cutA], by omega⟩
  · unfold cutA
    split
    · exact .inr ⟨x, rfl, fun hl => by omega⟩
    · refine .inr ⟨_, rfl, fun hl => ?_⟩
      obtain ⟨b, o, rfl, hR⟩ := h6 (by omega)
      refine ⟨b, o + m, by unfold Addr.add; split <;> simp_all, fun i hi => ?_⟩
      rw [List.length_drop, h1] at hi
      have := hR (m + i) (by omega)
      rw [List.getElem?_drop, Nat.add_assoc]
      exact this
theorem Off.cut {g : Nat} {a : Option Addr} {len : Nat} (h : Off g a len) (m cap : Nat) : Off g (cutA a m cap) (len - m) := by
  intro hl x hx
  replace h := h (by omega)
  unfold cutA at hx
  split at hx
  · exact h x hx
  · cases a with
    | none => simp at hx
    | some y => simp at hx; have := h y rfl; rw [← hx]; unfold Addr.add; split <;> simpa using this

set_option maxHeartbeats 1000000 in
theorem fill_part (g : Nat) (s r bs : List Int) (n : Int) (k : Nat) (a : Option Addr) (len cap : Nat) (w : World) (hs : s.length = 8) (hr' : r.length = 64) (hb : Blk w g 76 (hc s r n)) (h0 : 0 ≤ n) (h1 : n < 4611686018427387904) (hk : n % 64 = k) (hk0 : 0 < k)
    (hB : IsB w a len cap bs) (hlt : k + len < 64) :
    Calls Tryd.prog 53 #[.pointer (some ⟨g, 0, none⟩), .slice a len cap] w fun e w' => e = .returned (.slice (cutA a len cap) 0 (cap - len)) ∧ But g w w' ∧ Blk w' g 76 (hc s (splice r bs k) n) := by
  have hl := (hb.cell 72).trans (hc_long hs hr')
  have hcp := run_copy_isB w g s r bs n k (64 - k) (64 - k) len cap len a hs hr' hb hB (by simp [Nat.min_def]; omega) (by omega)
  have hlc := hB.2.1
  have hmx := hB.2.2.1
  have hsl := run_slice_rest w g k (by omega)
  have hct := run_slice_cut (w.setRow g (hc s (splice r bs k) n)) a len cap len (Nat.le_refl _) hlc
  rw [Nat.sub_self] at hct
  have hne : ((k : Int) + (len : Int) == 64) = false := by simp; omega
  have HBb := hide hb
  have HL : Hid (bs.take len = bs) := List.take_of_length_le (by rw [hB.1]; exact Nat.le_refl _)
  rw [HL.out] at hcp
  clear hb hB hs hr'
  go_enter Tryd.func53, Tryd.ntmps53
  go_wp2_with fail
  go_ret
  exact ⟨rfl, (But.refl _ _).row _, HBb.out.row _⟩

set_option maxHeartbeats 1000000 in
theorem fill_full (g : Nat) (s r bs : List Int) (n : Int) (k : Nat) (a : Option Addr) (len cap : Nat) (w : World) (hs : s.length = 8) (hr' : r.length = 64) (hb : Blk w g 76 (hc s r n)) (h0 : 0 ≤ n) (h1 : n < 4611686018427387904) (hk : n % 64 = k) (hk0 : 0 < k)
    (hB : IsB w a len cap bs) (hge : 64 ≤ k + len) (hg : 0 ≠ g) (hC : Cubes w) (h8 : ∀ i : Nat, 0 ≤ r[i]?.getD 0 ∧ r[i]?.getD 0 ≤ 255) :
    Calls Tryd.prog 53 #[.pointer (some ⟨g, 0, none⟩), .slice a len cap] w fun e w' => e = .returned (.slice (cutA a (64 - k) cap) (len - (64 - k)) (cap - (64 - k))) ∧ But g w w' ∧
      Blk w' g 76 (hc (Dg.block s (splice r (bs.take (64 - k)) k)) (splice r (bs.take (64 - k)) k) n) := by
  have hk64 : k < 64 := by omega
  have hl := (hb.cell 72).trans (hc_long hs hr')
  obtain ⟨m, hm⟩ : ∃ m, m = 64 - k := ⟨_, rfl⟩
  have hcp := run_copy_isB w g s r bs n k (64 - k) (64 - k) len cap m a hs hr' hb hB (by rw [hm]; exact (Nat.min_eq_right (by omega)).symm) (by omega)
  have hlc := hB.2.1
  have hmx := hB.2.2.1
  have hsl := run_slice_rest w g k (by omega)
  have hne : ((k : Int) + (m : Int) == 64) = true := by simp; omega
  have hm64 : m ≤ 64 := by omega
  have HBb := hide hb
  have HI := hide hB
  have Hr : Hid ((splice r (bs.take m) k).length = 64) := (splice_length _ _ _ (by rw [List.length_take, hr', hB.1]; omega)).trans hr'
  have Hs := hide hs
  rw [← hm]
  have HM := hide hm
  clear hb hB hs hr' hm
  go_enter Tryd.func53, Tryd.ntmps53
  go_upto_region 6 with fail
  clear hne
  generalize ((k : Int) + (m : Int) == 64) = bm
  generalize ((k : Int) == 0) = bk
  generalize n % 64 = nk
  have hb2 := HBb.out.row (hc s (splice r (bs.take m) k) n)
  have b2 : But g w (w.setRow g (hc s (splice r (bs.take m) k) n)) := (But.refl _ _).row _
  have HC2 : Hid (Cubes (w.setRow g (hc s (splice r (bs.take m) k) n))) := hC.but b2 hg
  have HG := hide hg
  have H82 : Hid (∀ i : Nat, 0 ≤ (splice r (bs.take m) k)[i]?.getD 0 ∧ (splice r (bs.take m) k)[i]?.getD 0 ≤ 255) := splice_bytes h8 (fun i => take_bytes HI.out.2.2.2.1 m i) k
  clear hcp hsl hC hg h8 HBb
  generalize hr2 : splice r (bs.take m) k = r2 at hb2 b2 HC2 H82 Hr ⊢
  have HB2 := hide hb2
  have HBu := hide b2
  have HR2 := hide hr2
  clear hb2 b2 hr2
  generalize w.setRow g (hc s r2 n) = w2 at HB2 HBu HC2 ⊢
  refine' wp_region_facts [(fun _ _ v _ => v = (.pointer (some ⟨g, 0, none⟩))), (fun _ _ v _ => v = (.pointer (some ⟨g, 0, none⟩))), (fun _ _ v _ => v = (.pointer (some ⟨g, 0, none⟩))), (fun _ _ v _ => v = (.pointer (some ⟨g, 0, none⟩))), (fun _ _ v _ => v = (.pointer (some ⟨g, 0, none⟩))), (fun _ _ v _ => v = (.pointer (some ⟨g, 8, none⟩))), (fun _ _ v _ => v = (.slice (some ⟨g, 8, none⟩) 64 64))] (by kernel_rfl) rfl ?hA (by kernel_rfl) (by kernel_rfl) (by kernel_rfl) rfl ?mono ?steps ?last
  case hA =>
    intro vs
    simp only [puts, Act.put, List.setIfInBounds_toArray, List.set_cons_zero, List.set_cons_succ, Nat.zero_add, Nat.reduceAdd]
    rfl
  case mono => exact ⟨mono_eq _, mono_eq _, mono_eq _, mono_eq _, mono_eq _, mono_eq _, mono_eq _, trivial⟩
  case steps =>
    intro Q'
    refine And.intro ?_ ?_
    · intro vs lo hi w' hM hd K' hK
      dsimp only at hK ⊢
      simp only [Act.put, List.setIfInBounds_toArray, List.set_cons_zero, List.set_cons_succ] at hK
      go_simp
      exact hK.out _ _ rfl (Below.refl _ _)
    refine And.intro ?_ ?_
    · intro vs lo hi w' hM hd K' hK
      dsimp only at hK ⊢
      simp only [Act.put, List.setIfInBounds_toArray, List.set_cons_zero, List.set_cons_succ] at hK
      have e0 : vs 0 = (.pointer (some ⟨g, 0, none⟩)) := hd 0 (by kernel_rfl)
      simp only [e0] at hK ⊢
      clear e0
      go_simp
      exact hK.out _ _ rfl (Below.refl _ _)
    refine And.intro ?_ ?_
    · intro vs lo hi w' hM hd K' hK
      dsimp only at hK ⊢
      simp only [Act.put, List.setIfInBounds_toArray, List.set_cons_zero, List.set_cons_succ] at hK
      have e1 : vs 1 = (.pointer (some ⟨g, 0, none⟩)) := hd 1 (by kernel_rfl)
      simp only [e1] at hK ⊢
      clear e1
      go_simp
      exact hK.out _ _ rfl (Below.refl _ _)
    refine And.intro ?_ ?_
    · intro vs lo hi w' hM hd K' hK
      dsimp only at hK ⊢
      simp only [Act.put, List.setIfInBounds_toArray, List.set_cons_zero, List.set_cons_succ] at hK
      go_simp
      exact hK.out _ _ rfl (Below.refl _ _)
    refine And.intro ?_ ?_
    · intro vs lo hi w' hM hd K' hK
      dsimp only at hK ⊢
      simp only [Act.put, List.setIfInBounds_toArray, List.set_cons_zero, List.set_cons_succ] at hK
      have e3 : vs 3 = (.pointer (some ⟨g, 0, none⟩)) := hd 3 (by kernel_rfl)
      simp only [e3] at hK ⊢
      clear e3
      go_simp
      exact hK.out _ _ rfl (Below.refl _ _)
    refine And.intro ?_ ?_
    · intro vs lo hi w' hM hd K' hK
      dsimp only at hK ⊢
      simp only [Act.put, List.setIfInBounds_toArray, List.set_cons_zero, List.set_cons_succ] at hK
      have e4 : vs 4 = (.pointer (some ⟨g, 0, none⟩)) := hd 4 (by kernel_rfl)
      simp only [e4] at hK ⊢
      clear e4
      go_simp
      exact hK.out _ _ rfl (Below.refl _ _)
    refine And.intro ?_ ?_
    · intro vs lo hi w' hM hd K' hK
      dsimp only at hK ⊢
      simp only [Act.put, List.setIfInBounds_toArray, List.set_cons_zero, List.set_cons_succ] at hK
      have e5 : vs 5 = (.pointer (some ⟨g, 8, none⟩)) := hd 5 (by kernel_rfl)
      simp only [e5] at hK ⊢
      clear e5
      go_simp
      exact hK.out _ _ rfl (Below.refl _ _)
    exact trivial
  case last =>
    intro vs lo hi w' hM hlo hap hall K' Q' hK
    have h2 : vs 2 = (.pointer (some ⟨g, 0, none⟩)) := hall.2.2.1
    have h6 : vs 6 = (.slice (some ⟨g, 8, none⟩) 64 64) := hall.2.2.2.2.2.2.1
    dsimp only
    simp only [h2, h6]
    clear h2 h6 hall hap hlo
    go_simp
    have hb3 := HB2.out.below' hM
    refine (add_any g _ g 8 64 s r2 (hr r2 n) _ Hs.out hb3 HG.out (HC2.out.below' hM) Hr.out (Nat.le_refl _) (fun i hi => (hb3.cell (8 + i)).trans (hc_rest Hs.out hi)) H82.out).mono ?_
    rintro e w4 ⟨⟨v4, rfl⟩, b4, hb4⟩
    refine hK.out _ _ ?_
    clear hK hb3
    have hct := run_slice_cut w4 a len cap m (by have := HM.out; omega) hlc
    go_wp2_with fail
    go_ret
    rw [← HR2.out] at hb4
    exact ⟨rfl, (HBu.out.then hM).trans b4, hb4⟩
end Go.Proofs.YtfcbooagedjkfaaDoor
