/-
  The document's Texts, walked.
-/
import Derived.Test.YteijnkdfacndoaaRPivot
import Derived.Test.YteijnkdfacndoaaRefVB
import Derived.Test.YteijnkdfacndoaaWVal
import Derived.Lib.AppendZeros
import Derived.Deep.DeepCutAuto
import Derived.Deep.CutBlock
set_option linter.unusedVariables false
set_option linter.unusedSimpArgs false
namespace Go.Proofs.Yteijnkdfacndoaa
open Go.RowKit

def strQ (s : ByteArray) : Value × Value × Value × Value × Value := (.int .i64 3, .int .i64 0, .string s, .slice none 0 0, .slice none 0 0)
/-- a row of one text just made -/
def OneRow (K : ByteArray) : Fact := fun lo hi v w => v = .slice (some ⟨lo, 0, none⟩) 1 1 ∧ Hid (Raw w (fun b => lo ≤ b) (.slice (some ⟨lo, 0, none⟩) 1 1) 5 1 (cellsQ [strQ K]))
theorem mono_row (K : ByteArray) : Mono (OneRow K) := by
  rintro lo hi v w w' ⟨rfl, h⟩ b
  exact ⟨rfl, h.out.below b⟩
theorem row_fact (K : ByteArray) (w : World) : OneRow K w.heap.size (w.alloc (.cells #[.int .i64 3, .int .i64 0, .string K, .slice none 0 0, .slice none 0 0] 25)).heap.size (.slice (some ⟨w.heap.size, 0, none⟩) 1 1) (w.alloc (.cells #[.int .i64 3, .int .i64 0, .string K, .slice none 0 0, .slice none 0 0] 25)) :=
  ⟨rfl, raw_one_val w 3 0 K none 0 0 none 0 0 _ _ rfl (Nat.le_refl _)⟩

theorem boxF_low {w w' : World} {n g : Nat} {c0 c1 c2 c3 c4 : Value} (h : BoxF w g c0 c1 c2 c3 c4) (b : Below n w w') (hg : g < n) : BoxF w' g c0 c1 c2 c3 c4 := by
  obtain ⟨⟨q0, q1, q2, q3, q4⟩, f0, f1, f2, f3, f4⟩ := h
  refine ⟨⟨?_, ?_, ?_, ?_, ?_⟩, ?_, ?_, ?_, ?_, ?_⟩
  all_goals first
    | (rw [b.cell (p := ⟨g, _, none⟩) hg]; assumption)
    | (rw [b.frozen (p := ⟨g, _, none⟩) hg]; assumption)
theorem boxF_apart {w : World} {g g' o' : Nat} {c0 c1 c2 c3 c4 : Value} (h : BoxF w g c0 c1 c2 c3 c4) (hg : g' ≠ g) (v : Value) : BoxF (w.setCell ⟨g', o', none⟩ v) g c0 c1 c2 c3 c4 := by
  obtain ⟨⟨q0, q1, q2, q3, q4⟩, f0, f1, f2, f3, f4⟩ := h
  have hne : ∀ i, (⟨g', o', none⟩ : Addr) ≠ ⟨g, i, none⟩ := fun i hh => by injection hh; omega
  refine ⟨⟨?_, ?_, ?_, ?_, ?_⟩, ?_, ?_, ?_, ?_, ?_⟩
  all_goals first
    | (rw [World.cell?_setCell_other _ _ _ _ (hne _)]; assumption)
    | (rw [World.frozen?_setCell]; assumption)
theorem boxF_four {w : World} {g : Nat} {c0 c1 c2 c3 c4 : Value} (h : BoxF w g c0 c1 c2 c3 c4) (v : Value) : BoxF (w.setCell ⟨g, 4, none⟩ v) g c0 c1 c2 c3 v := by
  obtain ⟨⟨q0, q1, q2, q3, q4⟩, f0, f1, f2, f3, f4⟩ := h
  have hne : ∀ i, i ≠ 4 → (⟨g, 4, none⟩ : Addr) ≠ ⟨g, i, none⟩ := fun i hi hh => by injection hh; omega
  refine ⟨⟨?_, ?_, ?_, ?_, World.cell?_setCell_same _ _ _ q4⟩, ?_, ?_, ?_, ?_, ?_⟩
  all_goals first
    | (rw [World.cell?_setCell_other _ _ _ _ (hne _ (by decide))]; assumption)
    | (rw [World.frozen?_setCell]; assumption)
theorem heap_setCell_ne (w : World) (g o : Nat) (v : Value) {k : Nat} (h : g ≠ k) : (w.setCell ⟨g, o, none⟩ v).heap[k]? = w.heap[k]? := by
  simp [World.setCell, Array.getElem?_modify, h]
theorem texts_succ (ks : List ByteArray) (j : Nat) (h : j < ks.length) : cellsQ ((ks.take (j + 1)).map strQ) = cellsQ ((ks.take j).map strQ) ++ cellsQ [strQ (ks.getD j ByteArray.empty)] := by
  have e : ks.getD j ByteArray.empty = ks[j] := by simp [List.getD, h]
  rw [e, List.take_succ_eq_append_getElem h, List.map_append]
  simp [cellsQ]
theorem els_strs (w : World) (S : Nat → Prop) (ks : List ByteArray) (hs : ∀ k ∈ ks, k.size ≤ maxLen) : Els w S (ks.map strQ) (ks.map V.str) := by
  refine ⟨by simp, fun i h1 h2 => ?_⟩
  simp only [List.getElem_map]
  exact is_plain w S 3 0 _ (hs _ (List.getElem_mem _))

set_option maxHeartbeats 2000000 in
set_option maxRecDepth 100000 in
theorem refTexts_any {a : Option Addr} {n cap : Nat} {ks : List ByteArray} {w : World} {S : Nat → Prop} (h : Strs w S (.slice a n cap) ks) (hw : V.wtK ks ≤ 1048576) :
    Calls Try.prog 21 #[.slice a n cap] w fun e w' => ∃ a' n' c', e = .returned (.agg #[.int .i64 4, .int .i64 0, .string ⟨#[]⟩, .slice none 0 0, .slice a' n' c']) ∧ Is w' (fun _ => True) (.agg #[.int .i64 4, .int .i64 0, .string ⟨#[]⟩, .slice none 0 0, .slice a' n' c']) (V.texts ks) ∧ Below w.heap.size w w' := by
  obtain ⟨rfl, hc1, hc2, hsz, hcell⟩ := h.out
  have hlen : ks.length ≤ 1048576 := Nat.le_trans (V.wtK_len ks) hw
  have HC := hide hcell
  have HS := hide hsz
  clear h hc1 hc2 hcell hsz
  go_enter Try.func21, Try.ntmps21
  go_wp2_with fail
  go_loopg [4] ks.length (fun g iv wr => ∃ (j : Nat) (la : Option Addr) (lc : Nat), j + g = ks.length ∧ iv = .int .i64 j ∧ Hid (Below w.heap.size w wr) ∧ Hid (w.heap.size + 2 ≤ wr.heap.size) ∧ Hid (BoxF wr w.heap.size (.int .i64 0) (.int .i64 0) (.string ⟨#[]⟩) (.slice none 0 0) (.slice none 0 0)) ∧ Hid (BoxF wr (w.heap.size + 1) (.int .i64 4) (.int .i64 0) (.string ⟨#[]⟩) (.slice none 0 0) (.slice la j lc)) ∧ Hid (wr.ownsRow (w.heap.size + 2) 25 5 (.slice la j lc) j (cellsQ ((ks.take j).map strQ))))
  case atStart =>
    refine ⟨0, none, 0, by omega, rfl, bthen (below_alloc _ _) (below_alloc _ _), by simp [Hid], (boxF_at w _ _ _ _ _ 25 _ rfl).keep (below_alloc _ _), boxF_at _ _ _ _ _ _ 25 _ (by simp), World.ownsRow_nil _ _ _ _⟩
  case round =>
    obtain ⟨j, la, lc, hj, rfl, HBJ, HSZ, HBR, HBV, HOWN⟩ := hrel
    by_cases hlt : j < ks.length
    · obtain ⟨sb, so, K, rfl, HKE, es⟩ := str_at' HC.out HBJ.out hlt
      have HSJ := hide es
      clear es
      have hi0 : (0 : Int) ≤ (j : Int) := by omega
      have hi1 : (j : Int) < (ks.length : Int) := by omega
      go_upto_region 5 with fail
      refine wp_region_any (by kernel_rfl) ?_
      change wpAny _ _ _ _ _ _ _ wr.drew
      have hb0 : Below wr.heap.size wr wr.drew := (Below.refl _ _).drew
      replace HBV := hide (HBV.out.keep hb0)
      replace HBR := hide (HBR.out.keep hb0)
      replace HSJ := hide (cell_keep HSJ.out hb0)
      replace HOWN := hide (own_below HOWN.out hb0)
      replace HBJ := hide (bthen HBJ.out hb0)
      replace HSZ : Hid (w.heap.size + 2 ≤ wr.drew.heap.size) := hide HSZ.out
      clear hb0
      generalize wr.drew = wq at HBV HBR HSJ HOWN HBJ HSZ ⊢
      refine' wpAny_pivot_at 8 [false, false] [(fun _ _ v _ => v = (.pointer (some ⟨w.heap.size + 1, 4, none⟩))), (fun _ _ v _ => v = (.slice la j lc)), (fun _ _ v _ => v = (.slice (some ⟨sb, so, none⟩) ks.length cap)), (fun _ _ v _ => v = (.int .i64 (j : Int))), (fun _ _ v _ => v = (.pointer (some ⟨sb, so + j, none⟩))), (fun _ _ v _ => v = (.string K)), (fun _ _ v _ => v = (.agg #[.int .i64 3, .int .i64 0, .string K, .slice none 0 0, .slice none 0 0])), (OneRow K)] rfl (by kernel_rfl) ?hA (by kernel_rfl) (by kernel_rfl) (by kernel_rfl) rfl rfl (by kernel_rfl) (by decide) ?mono ?steps ?last
      case hA =>
        intro vs
        simp only [List.take_succ_cons, List.take_zero, puts, Act.put, List.setIfInBounds_toArray, List.set_cons_zero, List.set_cons_succ, Nat.zero_add, Nat.reduceAdd]
        rfl
      case mono => exact ⟨mono_eq _, mono_eq _, mono_eq _, mono_eq _, mono_eq _, mono_eq _, mono_eq _, mono_row K, trivial⟩
      case steps =>
        intro Q'
        refine And.intro ?_ ?_
        · intro vs lo hi w' hM hd K' hK
          dsimp only at hK ⊢
          simp only [Act.put, List.setIfInBounds_toArray, List.set_cons_zero, List.set_cons_succ] at hK
          go_simp
          exact hK.out _ _ rfl (Below.refl _ _)
        refine And.intro ?_ ?_
        · intro vs lo hi w' hM hd K' hK
          dsimp only at hK ⊢
          simp only [Act.put, List.setIfInBounds_toArray, List.set_cons_zero, List.set_cons_succ] at hK
          have e0 : vs 0 = (.pointer (some ⟨w.heap.size + 1, 4, none⟩)) := hd 0 (by kernel_rfl)
          simp only [e0] at hK ⊢
          clear e0
          obtain ⟨⟨y0, y1, y2, y3, y4⟩, _⟩ := HBV.out.keep hM
          go_simp
          exact hK.out _ _ rfl (Below.refl _ _)
        refine And.intro ?_ ?_
        · intro vs lo hi w' hM hd K' hK
          dsimp only at hK ⊢
          simp only [Act.put, List.setIfInBounds_toArray, List.set_cons_zero, List.set_cons_succ] at hK
          go_simp
          exact hK.out _ _ rfl (Below.refl _ _)
        refine And.intro ?_ ?_
        · intro vs lo hi w' hM hd K' hK
          dsimp only at hK ⊢
          simp only [Act.put, List.setIfInBounds_toArray, List.set_cons_zero, List.set_cons_succ] at hK
          go_simp
          exact hK.out _ _ rfl (Below.refl _ _)
        refine And.intro ?_ ?_
        · intro vs lo hi w' hM hd K' hK
          dsimp only at hK ⊢
          simp only [Act.put, List.setIfInBounds_toArray, List.set_cons_zero, List.set_cons_succ] at hK
          have e2 : vs 2 = (.slice (some ⟨sb, so, none⟩) ks.length cap) := hd 2 (by kernel_rfl)
          have e3 : vs 3 = (.int .i64 (j : Int)) := hd 3 (by kernel_rfl)
          simp only [e2, e3] at hK ⊢
          clear e2 e3
          go_simp
          exact hK.out _ _ rfl (Below.refl _ _)
        refine And.intro ?_ ?_
        · intro vs lo hi w' hM hd K' hK
          dsimp only at hK ⊢
          simp only [Act.put, List.setIfInBounds_toArray, List.set_cons_zero, List.set_cons_succ] at hK
          have e4 : vs 4 = (.pointer (some ⟨sb, so + j, none⟩)) := hd 4 (by kernel_rfl)
          simp only [e4] at hK ⊢
          clear e4
          have q0 := cell_keep HSJ.out hM
          go_simp
          exact hK.out _ _ rfl (Below.refl _ _)
        refine And.intro ?_ ?_
        · intro vs lo hi w' hM hd K' hK
          dsimp only at hK ⊢
          simp only [Act.put, List.setIfInBounds_toArray, List.set_cons_zero, List.set_cons_succ] at hK
          have e5 : vs 5 = (.string K) := hd 5 (by kernel_rfl)
          simp only [e5] at hK ⊢
          clear e5
          go_simp
          refine (refStr_any K _).mono ?_
          rintro e w7 ⟨rfl, b7⟩
          exact hK.out _ _ rfl b7
        refine And.intro ?_ ?_
        · intro vs lo hi w' hM hd K' hK
          dsimp only at hK ⊢
          simp only [Act.put, List.setIfInBounds_toArray, List.set_cons_zero, List.set_cons_succ] at hK
          have e6 : vs 6 = (.agg #[.int .i64 3, .int .i64 0, .string K, .slice none 0 0, .slice none 0 0]) := hd 6 (by kernel_rfl)
          simp only [e6] at hK ⊢
          clear e6
          go_simp
          exact hK.out _ _ (row_fact K _) (below_alloc _ _)
        exact trivial
      case last =>
        intro vs lo hi w' hM hlo hap hall K' Q' hK
        obtain ⟨_, h1, _, _, _, _, _, h7, _⟩ := hall
        obtain ⟨e7, H7⟩ := h7
        change vs 1 = _ at h1
        have hz := (hlo 7 (by decide)).1
        dsimp only
        simp only [h1, e7]
        clear h1 e7 hap
        have hown := own_below HOWN.out hM
        obtain ⟨v', wA, hrun, hown', hgr⟩ := append_part 23 23 25 (.agg #[.int .i64 0, .int .i64 0, .string ⟨#[]⟩, .slice none 0 0, .slice none 0 0]) 5 80 Try.underlying23 (by kernel_rfl) rfl (by decide) _ _ _ _ hown H7.out (Nat.le_trans (m := 1048577) (by omega) (by decide)) (by omega) (by have h1 := hM.size; have h2 := HSZ.out; omega)
        rw [if_pos (by rfl)]
        refine Lib.wp_append_run _ (.tmp 13) (.tmp 19) 23 23 rfl _ _ (by simp [Act.eval]) (by simp [Act.eval]) _ _ hrun ?_
        obtain ⟨na, nc, rfl⟩ := own_shape hown'
        have bA : Below (w.heap.size + 2) wq wA := (hM.mono HSZ.out).grown hgr (by have h1 := HSZ.out; have h2 := hM.size; omega) (own_block hown)
        have HBVA := hide (boxF_low HBV.out bA (by omega))
        have HBRA := hide (boxF_low HBR.out bA (by omega))
        have HOWNA := hide hown'
        have HBA := hide bA
        clear hown hrun hown' hgr bA
        refine hK.out _ _ (fun fuel hfuel => ?_)
        obtain ⟨f, rfl⟩ : ∃ f, fuel = f + 2 := ⟨fuel - 2, by have : 2 ≤ fuel := hfuel; omega⟩
        clear hK hM hlo hz H7
        simp only [Act.put, List.setIfInBounds_toArray, List.set_cons_zero, List.set_cons_succ]
        refine wpAny_ready (rs := [9]) (by kernel_rfl) (by simp) ?_
        refine AllReady.cons rfl (fun K2 hK2 => ?_) AllReady.nil
        have HK2 := hide hK2
        clear hK2
        go_simp
        refine HK2.out _ _ ?_
        clear HK2
        refine wpAny_ready (rs := [10]) (by kernel_rfl) (by simp) ?_
        refine AllReady.cons rfl (fun K2 hK2 => ?_) AllReady.nil
        have HK2 := hide hK2
        clear hK2
        obtain ⟨⟨y0, y1, y2, y3, y4⟩, g0, g1, g2, g3, g4⟩ := id HBVA.out
        go_simp
        refine HK2.out _ _ ?_
        clear HK2 y0 y1 y2 y3 y4 g0 g1 g2 g3 g4
        refine wpAny_done (by kernel_rfl) ?_ _
        go_wp2_with fail
        go_roundg (gk - 1)
        case measure => omega
        case rel =>
          have hb2 := (HBA.out.mono (B' := w.heap.size) (by omega)).setCell (p := ⟨w.heap.size + 1, 4, none⟩) (by show w.heap.size ≤ w.heap.size + 1; omega) (.slice na (j + 1) nc)
          refine ⟨j + 1, na, nc, by omega, rfl, HBJ.out.trans hb2, ?_, boxF_apart HBRA.out (by omega) _, boxF_four HBVA.out _, ?_⟩
          · have h1 := HSZ.out; have h2 := HBA.out.size; show w.heap.size + 2 ≤ _; simp; omega
          · rw [texts_succ ks j hlt, HKE.out.symm]
            exact own_keep HOWNA.out (fun g hg => heap_setCell_ne _ _ _ _ (by have := own_block HOWNA.out g hg; omega))
    · have hje : j = ks.length := by omega
      subst hje
      obtain ⟨⟨y0, y1, y2, y3, y4⟩, _⟩ := id HBV.out
      obtain ⟨⟨x0, x1, x2, x3, x4⟩, g0, g1, g2, g3, g4⟩ := id HBR.out
      go_wp2_with fail
      obtain ⟨u0, u1, u2, u3, u4⟩ := Box5.all HBR.out.1 (.int .i64 4) (.int .i64 0) (.string ⟨#[]⟩) (.slice none 0 0) (.slice la ks.length lc)
      refine bodyPost_ret (v := .agg #[.int .i64 4, .int .i64 0, .string ⟨#[]⟩, .slice none 0 0, .slice la ks.length lc]) (by simp [results, Try.results21, go_sem, u0, u1, u2, u3, u4]) rfl ?_
      refine ⟨_, _, _, rfl, ?_, ((((HBJ.out.setCell (Nat.le_refl _) _).setCell (Nat.le_refl _) _).setCell (Nat.le_refl _) _).setCell (Nat.le_refl _) _).setCell (Nat.le_refl _) _⟩
      have hel := els_strs wr (fun b => w.heap.size + 2 ≤ b) (ks.take ks.length) (fun k hk => HS.out k (List.mem_of_mem_take hk))
      have hl := isL_of_raw (Raw.of_own HOWN.out hel.cells) hel
      have kp := keeps_set5 (S := fun b => w.heap.size + 2 ≤ b) (w := wr) (g := w.heap.size) (o := 0) (.int .i64 4) (.int .i64 0) (.string ⟨#[]⟩) (.slice none 0 0) (.slice la ks.length lc) (by omega)
      rw [List.take_length] at hl
      refine Is.shut (x := V.texts ks) (strs_nil _ _) ?_ (Nat.zero_le _)
      exact (hl.keep kp).weak (fun _ _ _ => trivial)

end Go.Proofs.Yteijnkdfacndoaa
