/-
  THE WALKS of heliastref09's Sync, Cut (layer 9).
-/
import Derived.Test.YtmbjlnnoemenoaaKRefC
set_option linter.unusedVariables false
set_option linter.unusedSimpArgs false
set_option maxRecDepth 100000
namespace Go.Proofs.Ytmbjlnnoemenoaa
open Go.RowKit Go.Maps Go.Sort Dk

theorem sync_eq {P : PD} {n : Bs} {f : PF} (hd : P.dead = false) (hg : get P.fs n = some f) : sync P n = if steps P 1 < 1 then (21, gone P 1) else (0, { gone P 1 with fs := upd n ⟨f.all, f.all.length⟩ P.fs }) := by
  unfold Dk.sync; rw [if_neg (by simp [hd]), hg]

set_option maxHeartbeats 4000000 in
theorem rsync_any (P : PD) (e : Nat) (S : Nat → Prop) (n : ByteArray) (w : World) (h : IsE w e S P) :
    Calls Try.prog 42 #[ptr e, .string n] w fun x w' => x = .returned (.int .i64 ((sync P (bs n)).1 : Nat)) ∧ IsE w' e S (sync P (bs n)).2 ∧ Turn S w S w' := by
  have HE := hide h
  obtain ⟨v, lv, h⟩ := h
  have HB := hide h.blk
  have HF := hide (fun w => rfind_any P e S n w)
  cases hd : P.dead with
  | true =>
    have HD := hide hd
    clear h hd
    go_enter Try.func42, Try.ntmps42
    go_wp2_with fail
    refine (rdead_any HB.out).mono ?_
    rintro x w ⟨rfl, rfl⟩
    rw [HD.out]
    go_wp2_with fail
    go_ret
    have hs : sync P (bs n) = (21, P) := by unfold Dk.sync; rw [HD.out]; rfl
    rw [hs]
    exact ⟨rfl, HE.out, Turn.refl _ _⟩
  | false =>
    have HD := hide hd
    clear hd
    cases hg : get P.fs (bs n) with
    | none =>
      have hix := idxI_none hg
      have HG := hide hg
      clear h hg
      go_enter Try.func42, Try.ntmps42
      go_wp2_with fail
      refine (rdead_any HB.out).mono ?_
      rintro x w ⟨rfl, rfl⟩
      rw [HD.out]
      go_wp2_with fail
      refine (HF.out _ HE.out).mono ?_
      rintro x w ⟨rfl, rfl⟩
      rw [hix]
      clear hix
      go_wp2_with fail
      go_ret
      have hs : sync P (bs n) = (31, P) := by unfold Dk.sync; rw [HD.out, HG.out]; rfl
      rw [hs]
      exact ⟨rfl, HE.out, Turn.refl _ _⟩
    | some f =>
      obtain ⟨k, hk, hix, hfk, hno⟩ := idxI_some hg
      obtain ⟨a, cap, rfl, hlc, hcm⟩ := h.row.shape
      obtain ⟨ok, hok⟩ : ∃ ok, ok = decide (steps P 1 = 1) := ⟨_, rfl⟩
      obtain ⟨len, hlen⟩ : ∃ len, len = P.fs.length := ⟨_, rfl⟩
      have hki : (k : Int) < len := by omega
      have HK := hide hk
      have HG := hide hg
      have hnk : ¬ ((k : Int) < 0) := by omega
      have HFK := hide hfk
      have HNO := hide hno
      have HH := hide h
      have HLN := hide hlen
      have HOK := hide hok
      rw [← hlen] at hlc
      clear h hg hfk hlen hno hok
      go_enter Try.func42, Try.ntmps42
      go_wp2_with fail
      refine (rdead_any HB.out).mono ?_
      rintro x w ⟨rfl, rfl⟩
      rw [HD.out]
      go_wp2_with fail
      refine (HF.out _ HE.out).mono ?_
      rintro x w ⟨rfl, rfl⟩
      rw [hix]
      go_wp2_with fail
      refine (rstep_any P e S _ lv w HH.out HD.out ok HOK.out).mono ?_
      rintro x w1 ⟨rfl, ⟨lv1, h1⟩, k1⟩
      have hse := sync_eq HD.out HG.out
      cases ok with
      | false =>
        have h0 : steps P 1 < 1 := by have := HOK.out; have := steps01 P; simp at *; omega
        rw [if_pos h0] at hse
        have HSE := hide hse
        have H1 := hide h1
        have K1 := hide k1
        clear hse h1 k1 h0
        go_wp2_with fail
        go_ret
        rw [HSE.out]
        exact ⟨rfl, ⟨_, lv1, H1.out⟩, K1.out.weak (fun i _ hi => hi ▸ H1.out.inS), fun k hk => .inl hk⟩
      | true =>
        have h0 : ¬ steps P 1 < 1 := by have := HOK.out; simp at *; omega
        rw [if_neg h0] at hse
        have HSE := hide hse
        have c1 := h1.blk.cell 1
        simp [rHead] at c1
        rw [← HLN.out] at c1
        obtain ⟨g, cur, rfl, hb, g0, g1, g2⟩ := h1.row.at (i := k) HK.out
        have hfz := hb.free (k * 3 + 2)
        have hgk : (gone P 1).fs[k]'HK.out = (bs n, f) := HFK.out
        rw [hgk] at g1
        obtain ⟨T, hT⟩ : ∃ T, T = st f.all := ⟨_, rfl⟩
        have hTs : T.size = f.all.length := by rw [hT, st_size]
        simp only at g1
        rw [← hT] at g1
        have H1 := hide h1
        have K1 := hide k1
        have HBg := hide hb
        clear hse h1 k1 h0 hgk hT hb g0
        go_wp2_with fail
        go_region
        have hrow := FRow.set H1.out.row (k * 3 + 2) (by rw [fcs_len]; show _ < P.fs.length * 3; omega) (.int .i64 (f.all.length : Int))
        have hfc := fcs_last P.fs k hk f.all.length HFK.out HNO.out
        have hne := ne_of_blk H1.out.blk HBg.out (by decide)
        have hch : Ch (fun i => i = e ∨ (Value.slice (some ⟨g, 0, none⟩) P.fs.length cap).ownBlock = some i) w1 ((w1.setCell ⟨g, k * 3 + 2, none⟩ (.int .i64 (f.all.length : Int))).drew) :=
          ((Ch.set g (k * 3 + 2) (.int .i64 (f.all.length : Int))).weak (fun i _ hi => .inr (by rw [hi]; rfl))).trans (Ch.of_below (fun _ => False) ((Below.refl _ _).drew)) (fun i hi => hi.elim)
        have hin := H1.out.within (P' := { gone P 1 with fs := upd (bs n) ⟨f.all, f.all.length⟩ P.fs }) (lv' := lv1) hch
          (wf_upd H1.out.wf (n := bs n) (f := f) (f' := ⟨f.all, f.all.length⟩) HG.out rfl rfl H1.out.wf.left (by have h1 := used_upd (f := ⟨f.all, f.all.length⟩) HG.out; have h2 := HH.out.wf.used; simp only at h1 ⊢; show used (upd _ _ _) ≤ P.room; omega) (Nat.le_refl _))
          (H1.out.blk.other hne _ _) H1.out.left (by
            show World.ownsRow _ 0 91 3 _ (upd (bs n) ⟨f.all, f.all.length⟩ P.fs).length (fcs (upd (bs n) ⟨f.all, f.all.length⟩ P.fs))
            rw [hfc, len_upd]; exact hrow)
        have HIN := hide hin
        clear hrow hfc hne hch hin
        generalize (w1.setCell ⟨g, k * 3 + 2, none⟩ (.int .i64 (f.all.length : Int))).drew = w5 at HIN ⊢
        go_wp2_with fail
        go_ret
        rw [HSE.out]
        obtain ⟨i1, i2⟩ := HIN.out
        exact ⟨rfl, ⟨_, lv1, i1⟩, (show Turn S w S w1 from ⟨K1.out.weak (fun i _ hi => hi ▸ H1.out.inS), fun k hk => .inl hk⟩).trans i2⟩

theorem fcs_both : ∀ (fs : List (Bs × PF)) (k : Nat) (h : k < fs.length) {n : Bs} {f : PF} (x : Bs) (m : Nat), fs[k] = (n, f) → (∀ j (hj : j < k), fs[j].1 ≠ n) → fcs (upd n ⟨x, m⟩ fs) = ((fcs fs).set (k * 3 + 1) (.string (st x))).set (k * 3 + 2) (.int .i64 m)
  | [], k, h, _, _, _, _, _, _ => absurd h (Nat.not_lt_zero _)
  | p :: r, 0, h, n, f, x, m, hk, _ => by
    simp only [List.getElem_cons_zero] at hk
    subst hk
    simp [Dk.upd, fcs]
  | p :: r, k + 1, h, n, f, x, m, hk, hno => by
    have h0 : p.1 ≠ n := by have := hno 0 (by omega); simpa using this
    have ih := fcs_both r k (by simpa using h) x m (by simpa using hk) (fun j hj => by have := hno (j + 1) (by omega); simpa using this)
    simp only [Dk.upd, if_neg h0, fcs, ih, show (k + 1) * 3 + 1 = k * 3 + 1 + 1 + 1 + 1 by omega, show (k + 1) * 3 + 2 = k * 3 + 2 + 1 + 1 + 1 by omega, List.set_cons_succ]
theorem cut_eq {P : PD} {n : Bs} {f : PF} {m : Nat} (hd : P.dead = false) (hg : get P.fs n = some f) (hm : m ≤ f.all.length) : cut P n m = if steps P 1 < 1 then (21, gone P 1) else (0, { gone P 1 with fs := upd n ⟨f.all.take m, min f.last m⟩ P.fs }) := by
  unfold Dk.cut; rw [if_neg (by simp [hd]), hg]
  simp only
  rw [if_neg (by omega)]
  rfl
theorem upd_two {n : Bs} {f g : PF} : ∀ (fs : List (Bs × PF)), upd n g (upd n f fs) = upd n g fs
  | [] => rfl
  | p :: r => by
    by_cases h : p.1 = n
    · simp [Dk.upd, h]
    · simp [Dk.upd, h, upd_two r]

set_option maxHeartbeats 4000000 in
theorem rcut_any (P : PD) (e : Nat) (S : Nat → Prop) (n : ByteArray) (m : Int) (w : World) (h : IsE w e S P) :
    Calls Try.prog 43 #[ptr e, .string n, .int .i64 m] w fun x w' => x = .returned (.int .i64 ((cut P (bs n) m).1 : Nat)) ∧ IsE w' e S (cut P (bs n) m).2 ∧ Turn S w S w' := by
  have HE := hide h
  obtain ⟨v, lv, h⟩ := h
  have HB := hide h.blk
  have HF := hide (fun w => rfind_any P e S n w)
  cases hd : P.dead with
  | true =>
    have HD := hide hd
    clear h hd
    go_enter Try.func43, Try.ntmps43
    go_wp2_with fail
    refine (rdead_any HB.out).mono ?_
    rintro x w ⟨rfl, rfl⟩
    rw [HD.out]
    go_wp2_with fail
    go_ret
    have hs : cut P (bs n) m = (21, P) := by unfold Dk.cut; rw [HD.out]; rfl
    rw [hs]
    exact ⟨rfl, HE.out, Turn.refl _ _⟩
  | false =>
    have HD := hide hd
    clear hd
    cases hg : get P.fs (bs n) with
    | none =>
      have hix := idxI_none hg
      have HG := hide hg
      clear h hg
      go_enter Try.func43, Try.ntmps43
      go_wp2_with fail
      refine (rdead_any HB.out).mono ?_
      rintro x w ⟨rfl, rfl⟩
      rw [HD.out]
      go_wp2_with fail
      refine (HF.out _ HE.out).mono ?_
      rintro x w ⟨rfl, rfl⟩
      rw [hix]
      clear hix
      go_wp2_with fail
      go_ret
      have hs : cut P (bs n) m = (31, P) := by unfold Dk.cut; rw [HD.out, HG.out]; rfl
      rw [hs]
      exact ⟨rfl, HE.out, Turn.refl _ _⟩
    | some f =>
      obtain ⟨k, hk, hix, hfk, hno⟩ := idxI_some hg
      obtain ⟨a, cap, rfl, hlc, hcm⟩ := h.row.shape
      obtain ⟨ok, hok⟩ : ∃ ok, ok = decide (steps P 1 = 1) := ⟨_, rfl⟩
      obtain ⟨len, hlen⟩ : ∃ len, len = P.fs.length := ⟨_, rfl⟩
      have hki : (k : Int) < len := by omega
      have HG := hide hg
      have hnk : ¬ ((k : Int) < 0) := by omega
      have c1 := h.blk.cell 1
      simp [rHead] at c1
      obtain ⟨g, cur, rfl, hb, _, g1, _⟩ := h.row.at hk
      rw [hfk] at g1
      obtain ⟨T, hT⟩ : ∃ T, T = st f.all := ⟨_, rfl⟩
      have hTs : T.size = f.all.length := by rw [hT, st_size]
      simp only at g1
      rw [← hT] at g1
      have HT := hide hT
      have HFK := hide hfk
      have HNO := hide hno
      have HH := hide h
      have HLN := hide hlen
      have HOK := hide hok
      rw [← hlen] at hlc c1
      clear h hg hfk hlen hno hok hT hb
      by_cases hm : m < 0
      · have hs : cut P (bs n) m = (1, P) := by unfold Dk.cut; rw [HD.out, HG.out]; simp [hm]
        have HS := hide hs
        clear hs
        go_enter Try.func43, Try.ntmps43
        go_wp2_with fail
        refine (rdead_any HB.out).mono ?_
        rintro x w ⟨rfl, rfl⟩
        rw [HD.out]
        go_wp2_with fail
        refine (HF.out _ HE.out).mono ?_
        rintro x w ⟨rfl, rfl⟩
        rw [hix]
        go_wp2_with fail
        go_ret
        rw [HS.out]
        exact ⟨rfl, HE.out, Turn.refl _ _⟩
      · by_cases hm2 : (T.size : Int) < m
        · have hs : cut P (bs n) m = (1, P) := by unfold Dk.cut; rw [HD.out, HG.out]; simp only [Bool.false_eq_true, if_false]; rw [if_pos (.inr (by omega))]
          have HS := hide hs
          clear hs
          go_enter Try.func43, Try.ntmps43
          go_wp2_with fail
          refine (rdead_any HB.out).mono ?_
          rintro x w ⟨rfl, rfl⟩
          rw [HD.out]
          go_wp2_with fail
          refine (HF.out _ HE.out).mono ?_
          rintro x w ⟨rfl, rfl⟩
          rw [hix]
          go_wp2_with fail
          go_ret
          rw [HS.out]
          exact ⟨rfl, HE.out, Turn.refl _ _⟩
        · obtain ⟨q, rfl⟩ : ∃ q : Nat, m = q := ⟨m.toNat, by omega⟩
          have hq : q ≤ T.size := by omega
          have hse := cut_eq HD.out HG.out (m := q) (by omega)
          have HSE := hide hse
          clear hse
          go_enter Try.func43, Try.ntmps43
          go_wp2_with fail
          refine (rdead_any HB.out).mono ?_
          rintro x w ⟨rfl, rfl⟩
          rw [HD.out]
          go_wp2_with fail
          refine (HF.out _ HE.out).mono ?_
          rintro x w ⟨rfl, rfl⟩
          rw [hix]
          go_wp2_with fail
          refine (rstep_any P e S _ lv w HH.out HD.out ok HOK.out).mono ?_
          rintro x w1 ⟨rfl, ⟨lv1, h1⟩, k1⟩
          have hse := HSE.out
          clear c1 g1
          cases ok with
          | false =>
            have h0 : steps P 1 < 1 := by have := HOK.out; have := steps01 P; simp at *; omega
            rw [if_pos h0] at hse
            have HS := hide hse
            have H1 := hide h1
            have K1 := hide k1
            clear hse h1 k1 h0
            go_wp2_with fail
            go_ret
            rw [HS.out]
            exact ⟨rfl, ⟨_, lv1, H1.out⟩, K1.out.weak (fun i _ hi => hi ▸ H1.out.inS), fun k hk => .inl hk⟩
          | true =>
            have h0 : ¬ steps P 1 < 1 := by have := HOK.out; simp at *; omega
            rw [if_neg h0] at hse
            have HS := hide hse
            have c1 := h1.blk.cell 1
            simp [rHead] at c1
            rw [← HLN.out] at c1
            obtain ⟨g', cur1, hgg, hb, _, g1, g2⟩ := h1.row.at (i := k) hk
            obtain rfl : g = g' := by simpa using hgg
            have hfz := hb.free (k * 3 + 1)
            have hgk : (gone P 1).fs[k]'hk = (bs n, f) := HFK.out
            rw [hgk] at g1 g2
            simp only at g1 g2
            rw [← HT.out] at g1
            have H1 := hide h1
            have K1 := hide k1
            have HBg := hide hb
            clear hse h1 k1 h0 hgk hb hgg
            go_wp2_with fail
            go_region
            have hb2 := HBg.out.set (k * 3 + 1) (.string (T.extract 0 q))
            have x2 := hb2.cell (k * 3 + 2)
            rw [Array.getElem?_setIfInBounds_ne (by omega), ← HBg.out.cell, g2] at x2
            have hfz2 := hb2.free (k * 3 + 2)
            have hne := ne_of_blk H1.out.blk HBg.out (by decide)
            have he2 := H1.out.blk.other hne (k * 3 + 1) (.string (T.extract 0 q))
            have y1 := he2.cell 1
            simp [rHead] at y1
            rw [← HLN.out] at y1
            obtain ⟨W, hW⟩ : ∃ W, W = (w1.setCell ⟨g, k * 3 + 1, none⟩ (.string (T.extract 0 q))).drew := ⟨_, rfl⟩
            have z1 : W.cell? ⟨g, k * 3 + 2, none⟩ = some (.int .i64 f.last) := by rw [hW]; exact x2
            have z2 : W.frozen? ⟨g, k * 3 + 2, none⟩ = false := by rw [hW]; exact hfz2
            have z3 : W.cell? ⟨e, 1, none⟩ = some (.slice (some ⟨g, 0, none⟩) len cap) := by rw [hW]; exact y1
            have HW := hide hW
            rw [← hW]
            clear hb2 x2 hfz2 he2 y1 hW c1 g1 g2 hfz
            go_wp2_with fail
            go_region
            obtain ⟨q2, hq2⟩ : ∃ q2 : Nat, q2 = min f.last q := ⟨_, rfl⟩
            have hq3 : min (f.last : Int) (q : Int) = q2 := by omega
            rw [hq3]
            have hrow := FRow.set (FRow.set H1.out.row (k * 3 + 1) (by rw [fcs_len]; show _ < P.fs.length * 3; omega) (.string (T.extract 0 q))) (k * 3 + 2) (by rw [List.length_set, fcs_len]; show _ < P.fs.length * 3; omega) (.int .i64 (q2 : Int))
            have hTq : T.extract 0 q = st (f.all.take q) := by rw [HT.out]; apply bs_inj; rw [bs_front]
            have hfc := fcs_both P.fs k hk (f.all.take q) q2 HFK.out HNO.out
            rw [← hTq] at hfc
            have hch : Ch (fun i => i = e ∨ (Value.slice (some ⟨g, 0, none⟩) P.fs.length cap).ownBlock = some i) w1 ((W.setCell ⟨g, k * 3 + 2, none⟩ (.int .i64 (q2 : Int))).drew) := by
              rw [HW.out]
              exact (((Ch.set g (k * 3 + 1) (.string (T.extract 0 q))).trans (Ch.of_below (fun _ => False) ((Below.refl _ _).drew)) (fun i hi => hi.elim)).trans ((Ch.set g (k * 3 + 2) (.int .i64 (q2 : Int))).trans (Ch.of_below (fun _ => False) ((Below.refl _ _).drew)) (fun i hi => hi.elim)) (fun i hi => .inl hi)).weak (fun i _ hi => .inr (by rw [hi]; rfl))
            have hin := H1.out.within (P' := { gone P 1 with fs := upd (bs n) ⟨f.all.take q, min f.last q⟩ P.fs }) (lv' := lv1) hch
              (wf_upd H1.out.wf (n := bs n) (f := f) (f' := ⟨f.all.take q, min f.last q⟩) HG.out rfl rfl H1.out.wf.left (by have h1 := used_upd (f := ⟨f.all.take q, min f.last q⟩) HG.out; have h2 := HH.out.wf.used; simp only [List.length_take] at h1 ⊢; show used (upd _ _ _) ≤ P.room; omega) (by have := HH.out.wf.last _ (get_mem HG.out); simp only [List.length_take] at this ⊢; omega))
              (by rw [HW.out]; exact (H1.out.blk.other hne _ _).other hne _ _) H1.out.left (by
                show World.ownsRow _ 0 91 3 _ (upd (bs n) ⟨f.all.take q, min f.last q⟩ P.fs).length (fcs (upd (bs n) ⟨f.all.take q, min f.last q⟩ P.fs))
                rw [← hq2, hfc, len_upd, HW.out]; exact hrow)
            have HIN := hide hin
            clear hrow hfc hch hin hTq hq3
            generalize (W.setCell ⟨g, k * 3 + 2, none⟩ (.int .i64 (q2 : Int))).drew = w5 at HIN ⊢
            go_wp2_with fail
            go_ret
            rw [HS.out]
            obtain ⟨i1, i2⟩ := HIN.out
            exact ⟨rfl, ⟨_, lv1, i1⟩, (show Turn S w S w1 from ⟨K1.out.weak (fun i _ hi => hi ▸ H1.out.inS), fun k hk => .inl hk⟩).trans i2⟩
end Go.Proofs.Ytmbjlnnoemenoaa
