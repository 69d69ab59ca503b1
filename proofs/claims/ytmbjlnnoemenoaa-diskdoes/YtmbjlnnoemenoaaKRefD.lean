/-
  THE WALK of heliastref09's Lasting (layer 9).
-/
import Derived.Test.YtmbjlnnoemenoaaKRefC
import Derived.Test.YtmbjlnnoemenoaaKRFacts
set_option linter.unusedVariables false
set_option linter.unusedSimpArgs false
set_option maxRecDepth 100000
namespace Go.Proofs.Ytmbjlnnoemenoaa
open Go.RowKit Go.Maps Go.Sort Dk

set_option maxHeartbeats 4000000 in
theorem rlasting_any (P : PD) (e : Nat) (S : Nat → Prop) (n : ByteArray) (w : World) (h : IsE w e S P) :
    Calls Try.prog 49 #[ptr e, .string n] w fun x w' => x = .returned (.string (st (lasting P (bs n)))) ∧ Below w.heap.size w w' := by
  have HE := hide h
  obtain ⟨v, lv, h⟩ := h
  have c1 := h.blk.cell 1
  simp [rHead] at c1
  have hel := h.blk.lt
  have HB := hide h.blk
  have HF := hide (fun w => rfind_any P e S n w)
  cases hg : get P.fs (bs n) with
  | none =>
    have hix := idxI_none hg
    have HG := hide hg
    clear h hg
    go_enter Try.func49, Try.ntmps49
    go_wp2_with fail
    refine (HF.out _ HE.out).mono ?_
    rintro x w ⟨rfl, rfl⟩
    rw [hix]
    clear hix
    go_wp2_with fail
    go_ret
    exact ⟨by unfold Dk.lasting; rw [HG.out]; rfl, Below.refl _ _⟩
  | some f =>
    obtain ⟨k, hk, hix, hfk, _⟩ := idxI_some hg
    obtain ⟨a, cap, rfl, hlc, hcm⟩ := h.row.shape
    obtain ⟨g, cur, rfl, hb, g0, g1, g2⟩ := h.row.at hk
    rw [hfk] at g0 g1 g2
    rw [show st (bs n) = n from rfl] at g0
    have hla := h.wf.last _ (get_mem hg)
    simp only at hla g1 g2
    obtain ⟨T, hT⟩ : ∃ T, T = st f.all := ⟨_, rfl⟩
    have hTs : T.size = f.all.length := by rw [hT, st_size]
    have hsl : f.all.take f.last = bs (T.extract 0 f.last) := by rw [bs_front, hT]
    rw [← hT] at g1
    have hgl := hb.lt
    obtain ⟨len, hlen⟩ : ∃ len, len = P.fs.length := ⟨_, rfl⟩
    rw [← hlen] at c1 hlc hk
    have hki : (k : Int) < len := by omega
    have HG := hide hg
    have hnk : ¬ ((k : Int) < 0) := by omega
    have hlT : f.last ≤ T.size := by omega
    have hlTi : (f.last : Int) ≤ T.size := by omega
    clear h hg hfk hb hlen hT
    go_enter Try.func49, Try.ntmps49
    go_wp2_with fail
    refine (HF.out _ HE.out).mono ?_
    rintro x w ⟨rfl, rfl⟩
    rw [hix]
    go_upto_region 3 with fail
    refine' wp_region_facts [(fun _ _ v _ => v = (.pointer (some ⟨e, 0, none⟩))), (fun _ _ v _ => v = (.pointer (some ⟨e, 0, none⟩))), (fun _ _ v _ => v = (.pointer (some ⟨e, 1, none⟩))), (fun _ _ v _ => v = (.slice (some ⟨g, 0, none⟩) len cap)), (fun _ _ v _ => v = (.pointer (some ⟨e, 0, none⟩))), (fun _ _ v _ => v = (.string n)), (fun _ _ v _ => v = (.int .i64 (k : Int))), (fun _ _ v _ => v = (.pointer (some ⟨g, k * 3, none⟩))), (fun _ _ v _ => v = (.agg #[.string n, .string T, .int .i64 (f.last : Int)])), (fun lo _ v w => v = .pointer (some ⟨lo, 0, none⟩) ∧ Blk w lo #[.string ⟨#[]⟩, .string ⟨#[]⟩, .int .i64 0] 91)] (by kernel_rfl) rfl ?hA (by kernel_rfl) (by kernel_rfl) (by kernel_rfl) rfl ?mono ?steps ?last
    case hA =>
      intro vs
      simp only [puts, Act.put, List.setIfInBounds_toArray, List.set_cons_zero, List.set_cons_succ, Nat.zero_add, Nat.reduceAdd]
      rfl
    case mono => exact ⟨mono_eq _, mono_eq _, mono_eq _, mono_eq _, mono_eq _, mono_eq _, mono_eq _, mono_eq _, mono_eq _, (fun lo hi v w w' h hb => ⟨h.1, (Ch.of_below (fun _ => False) hb).kept h.2 (fun h => h)⟩), trivial⟩
    case steps =>
      intro Q'
      refine And.intro ?_ ?_
      · intro vs lo hi w' hM hd K' hK
        dsimp only at hK ⊢
        simp only [Act.put, List.setIfInBounds_toArray, List.set_cons_zero, List.set_cons_succ] at hK
        go_simp
        exact hK.out _ _ rfl (Below.refl _ _)
      refine And.intro ?_ ?_
      · intro vs lo hi w' hM hd K' hK
        dsimp only at hK ⊢
        simp only [Act.put, List.setIfInBounds_toArray, List.set_cons_zero, List.set_cons_succ] at hK
        have e0 : vs 0 = (.pointer (some ⟨e, 0, none⟩)) := hd 0 (by kernel_rfl)
        simp only [e0] at hK ⊢
        clear e0
        go_simp
        exact hK.out _ _ rfl (Below.refl _ _)
      refine And.intro ?_ ?_
      · intro vs lo hi w' hM hd K' hK
        dsimp only at hK ⊢
        simp only [Act.put, List.setIfInBounds_toArray, List.set_cons_zero, List.set_cons_succ] at hK
        have e1 : vs 1 = (.pointer (some ⟨e, 0, none⟩)) := hd 1 (by kernel_rfl)
        simp only [e1] at hK ⊢
        clear e1
        go_simp
        exact hK.out _ _ rfl (Below.refl _ _)
      refine And.intro ?_ ?_
      · intro vs lo hi w' hM hd K' hK
        dsimp only at hK ⊢
        simp only [Act.put, List.setIfInBounds_toArray, List.set_cons_zero, List.set_cons_succ] at hK
        have e2 : vs 2 = (.pointer (some ⟨e, 1, none⟩)) := hd 2 (by kernel_rfl)
        simp only [e2] at hK ⊢
        clear e2
        have q1 := (hM.cell (p := ⟨e, 1, none⟩) hel).trans c1
        go_simp
        exact hK.out _ _ rfl (Below.refl _ _)
      refine And.intro ?_ ?_
      · intro vs lo hi w' hM hd K' hK
        dsimp only at hK ⊢
        simp only [Act.put, List.setIfInBounds_toArray, List.set_cons_zero, List.set_cons_succ] at hK
        go_simp
        exact hK.out _ _ rfl (Below.refl _ _)
      refine And.intro ?_ ?_
      · intro vs lo hi w' hM hd K' hK
        dsimp only at hK ⊢
        simp only [Act.put, List.setIfInBounds_toArray, List.set_cons_zero, List.set_cons_succ] at hK
        go_simp
        exact hK.out _ _ rfl (Below.refl _ _)
      refine And.intro ?_ ?_
      · intro vs lo hi w' hM hd K' hK
        dsimp only at hK ⊢
        simp only [Act.put, List.setIfInBounds_toArray, List.set_cons_zero, List.set_cons_succ] at hK
        have e4 : vs 4 = (.pointer (some ⟨e, 0, none⟩)) := hd 4 (by kernel_rfl)
        have e5 : vs 5 = (.string n) := hd 5 (by kernel_rfl)
        simp only [e4, e5] at hK ⊢
        clear e4 e5
        go_simp
        refine (HF.out _ (HE.out.below hM)).mono ?_
        rintro x w7 ⟨rfl, rfl⟩
        rw [hix]
        exact hK.out _ _ rfl (Below.refl _ _)
      refine And.intro ?_ ?_
      · intro vs lo hi w' hM hd K' hK
        dsimp only at hK ⊢
        simp only [Act.put, List.setIfInBounds_toArray, List.set_cons_zero, List.set_cons_succ] at hK
        have e3 : vs 3 = (.slice (some ⟨g, 0, none⟩) len cap) := hd 3 (by kernel_rfl)
        have e6 : vs 6 = (.int .i64 (k : Int)) := hd 6 (by kernel_rfl)
        simp only [e3, e6] at hK ⊢
        clear e3 e6
        go_simp
        exact hK.out _ _ rfl (Below.refl _ _)
      refine And.intro ?_ ?_
      · intro vs lo hi w' hM hd K' hK
        dsimp only at hK ⊢
        simp only [Act.put, List.setIfInBounds_toArray, List.set_cons_zero, List.set_cons_succ] at hK
        have e7 : vs 7 = (.pointer (some ⟨g, k * 3, none⟩)) := hd 7 (by kernel_rfl)
        simp only [e7] at hK ⊢
        clear e7
        have q1 := (hM.cell (p := ⟨g, k * 3, none⟩) hgl).trans g0
        have q2 := (hM.cell (p := ⟨g, k * 3 + 1, none⟩) hgl).trans g1
        have q3 := (hM.cell (p := ⟨g, k * 3 + 2, none⟩) hgl).trans g2
        go_simp
        exact hK.out _ _ rfl (Below.refl _ _)
      refine And.intro ?_ ?_
      · intro vs lo hi w' hM hd K' hK
        dsimp only at hK ⊢
        simp only [Act.put, List.setIfInBounds_toArray, List.set_cons_zero, List.set_cons_succ] at hK
        go_simp
        exact hK.out _ _ ⟨rfl, Blk.new _ _ _⟩ (below_alloc _ _)
      exact trivial
    case last =>
      intro vs lo hi w' hM hlo hap hall K' Q' hK
      obtain ⟨_, _, _, _, _, _, _, _, e8, h9, _⟩ := hall
      obtain ⟨e9, HBX⟩ := h9
      have hz9 := (hlo 9 (by decide)).1
      dsimp only
      simp only [e8, e9]
      clear e8 e9 hap hlo
      generalize lo 9 = fb at HBX hz9 ⊢
      have x0 := HBX.cell 0
      have x1 := HBX.cell 1
      have x2 := HBX.cell 2
      have y0 := HBX.free 0
      have y1 := HBX.free 1
      have y2 := HBX.free 2
      simp at x0 x1 x2
      have hz3 := ((HBX.set 0 (.string n)).set 1 (.string T)).set 2 (.int .i64 (f.last : Int))
      have z0 := hz3.cell 0
      have z1 := hz3.cell 1
      have z2 := hz3.cell 2
      simp at z0 z1 z2
      have hbb : Below w.heap.size w (((w'.setCell ⟨fb, 0, none⟩ (.string n)).setCell ⟨fb, 1, none⟩ (.string T)).setCell ⟨fb, 2, none⟩ (.int .i64 (f.last : Int))) := ((hM.setCell (p := ⟨fb, 0, none⟩) hz9 _).setCell (p := ⟨fb, 1, none⟩) hz9 _).setCell (p := ⟨fb, 2, none⟩) hz9 _
      have HBB := hide hbb
      clear hbb hz3
      go_simp
      refine hK.out _ _ ?_
      clear hK x0 x1 x2 y0 y1 y2
      go_wp2_with fail
      go_ret
      refine ⟨?_, HBB.out⟩
      have hL : lasting P (bs n) = bs (T.extract 0 f.last) := by unfold Dk.lasting; rw [HG.out]; exact hsl
      rw [hL]; rfl
end Go.Proofs.Ytmbjlnnoemenoaa
