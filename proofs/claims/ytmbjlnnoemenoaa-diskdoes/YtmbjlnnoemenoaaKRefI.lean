/-
  THE WALK of heliastref09's Append (layer 9).
-/
import Derived.Test.YtmbjlnnoemenoaaKRefH
import Derived.Test.YtmbjlnnoemenoaaKAppend
set_option linter.unusedVariables false
set_option linter.unusedSimpArgs false
set_option maxRecDepth 100000
namespace Go.Proofs.Ytmbjlnnoemenoaa
open Go.RowKit Go.Maps Go.Sort Dk

theorem idx_keys {n : Bs} : ∀ {fs gs : List (Bs × PF)}, fs.map (·.1) = gs.map (·.1) → idx fs n = idx gs n
  | [], [], _ => rfl
  | [], _ :: _, h => by cases h
  | _ :: _, [], h => by cases h
  | p :: r, q :: t, h => by
    simp only [List.map_cons, List.cons.injEq] at h
    simp only [idx, h.1, idx_keys h.2]
theorem upd_upd {n : Bs} {f g : PF} : ∀ fs : List (Bs × PF), upd n f (upd n g fs) = upd n f fs
  | [] => rfl
  | p :: r => by
    by_cases h : p.1 = n
    · simp [Dk.upd, h]
    · simp [Dk.upd, h, upd_upd r]
theorem upd_id {n : Bs} {f : PF} : ∀ {fs : List (Bs × PF)}, get fs n = some f → upd n f fs = fs
  | [], h => by cases h
  | p :: r, h => by
    unfold Dk.get at h
    split at h
    · rename_i e
      cases h
      obtain ⟨p1, p2⟩ := p
      simp only at e
      subst e
      simp only [Dk.upd, if_true]
    · rename_i e; simp only [Dk.upd, if_neg e, upd_id h]
theorem gone_zero {P : PD} (h : P.dead = false) : gone P 0 = P := by
  obtain ⟨room, fs, fused, left, dead⟩ := P
  simp only at h; subst h
  cases fused <;> simp [gone, steps]
/-- the disk when k bytes are put -/
def stK (P : PD) (n : Bs) (f : PF) (b : Bs) (k : Nat) : PD := { gone P k with fs := upd n ⟨f.all ++ b.take k, f.last⟩ (made n P.fs) }
theorem stK_gone (P : PD) (n : Bs) (f : PF) (b : Bs) (k : Nat) : gone (stK P n f b k) 1 = { gone (gone P k) 1 with fs := upd n ⟨f.all ++ b.take k, f.last⟩ (made n P.fs) } := rfl
theorem stK_steps (P : PD) (n : Bs) (f : PF) (b : Bs) (k m : Nat) : steps (stK P n f b k) m = steps (gone P k) m := rfl
theorem stK_zero {P : PD} {n : Bs} {f : PF} {b : Bs} (hd : P.dead = false) (hg : get (made n P.fs) n = some f) : stK P n f b 0 = { P with fs := made n P.fs } := by
  unfold stK
  rw [gone_zero hd, List.take_zero, List.append_nil]
  rw [show (⟨f.all, f.last⟩ : PF) = f from rfl, upd_id hg]
theorem one_more (X b : ByteArray) (k : Nat) (h : k < b.size) : bs (X ++ b.extract k (k + 1)) = bs X ++ ((bs b).take (k + 1)).drop k := by
  simp [bs, ByteArray.data_append, ByteArray.data_extract]
  rw [List.drop_take]
  simp
theorem take_more {b : Bs} (k : Nat) : b.take k ++ (b.take (k + 1)).drop k = b.take (k + 1) := by
  have h := List.take_append_drop k (b.take (k + 1))
  rw [List.take_take, Nat.min_eq_left (by omega)] at h
  exact h
/-- where the file stands -/
theorem stK_at {P : PD} {n : Bs} {f : PF} {b : Bs} {k0 : Nat} (hg : get (made n P.fs) n = some f) (hk : idxI (made n P.fs) n = k0) (k : Nat) :
    ∃ h : k0 < (stK P n f b k).fs.length, (stK P n f b k).fs[k0] = (n, ⟨f.all ++ b.take k, f.last⟩) ∧ ∀ j (hj : j < k0), (stK P n f b k).fs[j].1 ≠ n := by
  have h1 : get (stK P n f b k).fs n = some ⟨f.all ++ b.take k, f.last⟩ := get_upd_same hg
  obtain ⟨k', hk', e1, e2, e3⟩ := idxI_some h1
  have h2 : idxI (stK P n f b k).fs n = idxI (made n P.fs) n := by unfold idxI; rw [idx_keys (show (stK P n f b k).fs.map (·.1) = (made n P.fs).map (·.1) from keys_upd _)]
  have : k' = k0 := by rw [h2, hk] at e1; omega
  subst this
  exact ⟨hk', e2, e3⟩
/-- one byte is put -/
theorem putByte {wr w5 : World} {e : Nat} {S : Nat → Prop} {P : PD} {n : Bs} {f : PF} {b : Bs} {k : Nat} {v : Value} {lv : Int} (h : IsR wr e S { gone P (k + 1) with fs := upd n ⟨f.all ++ b.take k, f.last⟩ (made n P.fs) } v lv)
    (hg : get (made n P.fs) n = some f) (hk : k < b.length) (hf : ¬ P.room < used P.fs + b.length) (hl : f.last ≤ f.all.length)
    (hch : Ch (fun i => i = e ∨ v.ownBlock = some i) wr w5) (hb : Blk w5 e (rHead (gone P (k + 1)) v lv) 75) (hr : FRow w5 v (upd n ⟨f.all ++ b.take (k + 1), f.last⟩ (made n P.fs))) :
    IsR w5 e S (stK P n f b (k + 1)) v lv ∧ Turn S wr S w5 := by
  refine h.within hch (wf_upd h.wf (n := n) (f := ⟨f.all ++ b.take k, f.last⟩) (f' := ⟨f.all ++ b.take (k + 1), f.last⟩) (get_upd_same hg) ?_ rfl h.wf.left ?_ ?_) hb h.left hr
  · show upd n _ (made n P.fs) = upd n _ (upd n _ (made n P.fs))
    rw [upd_upd]
  · show used (upd n _ (made n P.fs)) ≤ P.room
    have h1 := used_upd (f := ⟨f.all ++ b.take (k + 1), f.last⟩) hg
    rw [used_made] at h1
    simp only [List.length_append, List.length_take] at h1
    omega
  · simp only [List.length_append]; omega

set_option maxHeartbeats 8000000 in
theorem rappend_any (P : PD) (e : Nat) (S : Nat → Prop) (n b : ByteArray) (w : World) (h : IsE w e S P) (hn : n.size ≤ 1099511627776) (hbz : b.size ≤ 140737488355328) :
    Calls Try.prog 47 #[ptr e, .string n, .string b] w fun x w' => ∃ S', x = .returned (.int .i64 ((append P (bs n) (bs b)).1 : Nat)) ∧ IsE w' e S' (append P (bs n) (bs b)).2 ∧ Turn S w S' w' := by
  have HE := hide h
  obtain ⟨v, lv, h⟩ := h
  obtain ⟨a, cap, rfl, hlc, hcm⟩ := h.row.shape
  have hU : Hid (used P.fs ≤ 4194304 ∧ P.room ≤ 4194304) := hide ⟨Nat.le_trans h.wf.used h.wf.room, h.wf.room⟩
  have HW := hide h.wf
  have c0 := h.blk.cell 0
  have c1 := h.blk.cell 1
  simp [rHead] at c0 c1
  have HB := hide h.blk
  have HF := hide (fun w => rfind_any P e S n w)
  have HLB := hide (bs_len b)
  have hwr : IntKind.i64.wrap ((used P.fs : Int) + b.size) = (used P.fs : Int) + b.size := by have := hU.out; rw [IntKind.wrap_i64]; omega
  have HWR := hide hwr
  have HN := hide hn
  clear hwr hn
  cases hd : P.dead with
  | true =>
    have HD := hide hd
    clear h hd
    go_enter Try.func47, Try.ntmps47
    go_wp2_with fail
    refine (rdead_any HB.out).mono ?_
    rintro x w ⟨rfl, rfl⟩
    rw [HD.out]
    go_wp2_with fail
    go_ret
    rw [append_dead HD.out]
    first | exact ⟨S, rfl, HE.out, Turn.refl _ _⟩ | exact ⟨rfl, S, HE.out, Turn.refl _ _⟩
  | false =>
    have HD := hide hd
    clear hd
    by_cases hne : bs n = []
    · have hemp : n.toList.isEmpty = true := by rw [Lib.toList_data]; simp [hne]
      have HNE := hide hne
      clear h hne
      go_enter Try.func47, Try.ntmps47
      go_wp2_with fail
      refine (rdead_any HB.out).mono ?_
      rintro x w ⟨rfl, rfl⟩
      rw [HD.out]
      go_wp2_with fail
      refine (HF.out _ HE.out).mono ?_
      rintro x w ⟨rfl, rfl⟩
      go_wp2_with fail
      go_ret
      rw [append_arg HD.out (.inl HNE.out)]
      first | exact ⟨S, rfl, HE.out, Turn.refl _ _⟩ | exact ⟨rfl, S, HE.out, Turn.refl _ _⟩
    · have hemp : n.toList.isEmpty = false := by rw [Lib.toList_data]; simpa using hne
      cases hg : get P.fs (bs n) with
      | none =>
        have hix := idxI_none hg
        by_cases hfour : 4 ≤ P.fs.length
        · have h4 : (4 : Int) ≤ P.fs.length := by omega
          have HA := hide (show bs n = [] ∨ (get P.fs (bs n) = none ∧ 4 ≤ P.fs.length) from .inr ⟨hg, hfour⟩)
          clear h hne hg hfour
          go_enter Try.func47, Try.ntmps47
          go_wp2_with fail
          refine (rdead_any HB.out).mono ?_
          rintro x w ⟨rfl, rfl⟩
          rw [HD.out]
          go_wp2_with fail
          refine (HF.out _ HE.out).mono ?_
          rintro x w ⟨rfl, rfl⟩
          rw [hix]
          go_wp2_with fail
          go_ret
          rw [append_arg HD.out HA.out]
          first | exact ⟨S, rfl, HE.out, Turn.refl _ _⟩ | exact ⟨rfl, S, HE.out, Turn.refl _ _⟩
        · have h4 : ¬ (4 : Int) ≤ P.fs.length := by omega
          have HA := hide (show ¬ (bs n = [] ∨ (get P.fs (bs n) = none ∧ 4 ≤ P.fs.length)) from fun hh => by rcases hh with hh | ⟨_, hh⟩; exact hne hh; exact hfour hh)
          have HFEW := hide (show P.fs.length < 4 by omega)
          have HG := hide hg
          obtain ⟨f, hgm⟩ := get_made (n := bs n) P.fs
          have HGM := hide hgm
          clear h hne hg hfour hgm
          go_enter Try.func47, Try.ntmps47
          go_wp2_with fail
          refine (rdead_any HB.out).mono ?_
          rintro x w ⟨rfl, rfl⟩
          rw [HD.out]
          go_wp2_with fail
          refine (HF.out _ HE.out).mono ?_
          rintro x w ⟨rfl, rfl⟩
          rw [hix]
          go_upto_region 6 with fail
          have cA : ∀ d os, Calls Try.prog 51 #[ptr e] (grow (redrawn w d) os) fun x w'' => x = .returned (.int .i64 (used P.fs : Int)) ∧ ∃ p : Regrown, w'' = grow (redrawn w p.d) p.os := fun d os => Calls.regrown_of (by
            refine (rused_any P e S _ (HE.out.below (below_regrown w d os))).mono ?_
            rintro x w' ⟨rfl, rfl⟩
            exact ⟨rfl, Below.refl _ _⟩)
          have k0' := cell_regrown c0
          have hwr := HWR.out
          refine wp_region_quiet_below (by kernel_rfl) (by kernel_rfl) ?_
          repeat (go_big_quiet_step (with_reducible exact cA _ _))
          refine wpQuiet_nil ?_
          intro _ hw'
          obtain ⟨⟨dq, osq⟩, rfl⟩ := hw'
          have b2 := below_regrown w dq osq
          have HE2 := hide (HE.out.below b2)
          have HT2 := hide (show Turn S w S (grow (redrawn w dq) osq) from Turn.of_below b2)
          generalize grow (redrawn w dq) osq = w2 at HE2 HT2 ⊢
          clear cA k0' hwr b2 c0 c1
          by_cases hroom : P.room < used P.fs + (bs b).length
          · have hri : (P.room : Int) < (used P.fs : Int) + b.size := by have := HLB.out; omega
            have HR := hide hroom
            clear hroom
            go_wp2_with fail
            go_ret
            rw [append_full HD.out HA.out HR.out]
            first | exact ⟨S, rfl, HE2.out, HT2.out⟩ | exact ⟨rfl, S, HE2.out, HT2.out⟩
          · have hri : ¬ ((P.room : Int) < (used P.fs : Int) + b.size) := by have := HLB.out; omega
            have HR := hide hroom
            clear hroom

            go_wp2_with fail
            refine (rput_any P e S n w2 HE2.out HG.out HFEW.out HN.out).mono ?_
            rintro x w3 ⟨S3, rfl, h3, t3⟩
            rw [← get_made_none HG.out] at h3 ⊢
            obtain ⟨kk, hkk0, hkk, _, _⟩ := idxI_some HGM.out
            have HKK := hide hkk
            have HE3 := hide h3
            have HT3 := hide (HT2.out.trans t3)
            rw [hkk]
            clear h3 t3 hkk
            have HAD := hide (append_done HD.out HA.out HR.out HGM.out)
            have HL0 : Hid (f.last ≤ f.all.length) := hide (by
              obtain ⟨v9, lv9, h9⟩ := HE3.out
              exact h9.wf.last (bs n, f) (get_mem HGM.out))
            have HE4 : Hid (IsE w3 e S3 (stK P (bs n) f (bs b) 0)) := hide (by rw [stK_zero HD.out HGM.out]; exact HE3.out)
            clear HE3
            obtain ⟨v4, lv4, h4'⟩ := HE4.out
            obtain ⟨a4, cap4, rfl, hlc4, hcm4⟩ := h4'.row.shape
            obtain ⟨len, hlen⟩ : ∃ len, len = (made (bs n) P.fs).length := ⟨_, rfl⟩
            have hlst : ∀ k, (stK P (bs n) f (bs b) k).fs.length = len := fun k => by rw [hlen]; exact len_upd _
            rw [hlst] at hlc4 h4'
            have hkm : kk < len := by obtain ⟨q1, _⟩ := stK_at (b := bs b) HGM.out HKK.out 0; rw [hlst] at q1; exact q1
            have hkmi : (kk : Int) < len := by omega
            have HLST := hide hlst
            have HI4 := hide h4'
            clear h4' hlen hlst
            unfold maxLen at hcm4
            go_wp2_with fail
            go_loopw [8] (fun i wr => ∃ k : Nat, i = .int .i64 k ∧ k ≤ b.size ∧ Hid (steps P k = k) ∧ Hid (∃ lv, IsR wr e S3 (stK P (bs n) f (bs b) k) (.slice a4 len cap4) lv) ∧ Hid (Turn S w S3 wr)) (fun i _ => b.size - (intOf i).toNat)
            case atStart => exact ⟨0, rfl, Nat.zero_le _, hide (by simp [steps]), hide ⟨_, HI4.out⟩, HT3⟩
            case round =>
              obtain ⟨k, rfl, hk, HS, HI, HT⟩ := hrel
              by_cases hlt : k < b.size
              · have hli : (k : Int) < b.size := by omega
                obtain ⟨lv5, hI⟩ := HI.out
                have HI5 := hide hI
                have hm1 := (steps_more HS.out hlt).1
                have hm2 := (steps_more HS.out hlt).2
                have hgm := gone_more HD.out HS.out
                obtain ⟨ok, hok⟩ : ∃ ok, ok = decide (steps (gone P k) 1 = 1) := ⟨_, rfl⟩
                have HOK := hide hok
                have HM1 := hide hm1
                have HM2 := hide hm2
                have HGN := hide hgm
                clear hok hm1 hm2 hgm hI
                go_wp2_with fail
                refine (rstep_any (stK P (bs n) f (bs b) k) e S3 _ lv5 wr HI5.out (by have h := HS.out; show decide (steps P k < k) = false; simp; omega) ok HOK.out).mono ?_
                rintro x w1 ⟨rfl, ⟨lv1, h1⟩, k1⟩
                rw [stK_gone, HGN.out] at h1
                have HT5 : Hid (Turn S w S3 w1) := hide (HT.out.trans ⟨k1.weak (fun i _ hi => hi ▸ HI5.out.inS), fun k hk => .inl hk⟩)
                clear k1
                cases ok with
                | false =>
                  have hno : steps (gone P k) 1 ≠ 1 := by simpa using HOK.out.symm
                  rw [if_neg hno] at h1
                  have H1 := hide h1
                  have HNO := hide (HM2.out hno)
                  clear h1 hno
                  go_wp2_with fail
                  go_ret
                  obtain ⟨q1, q2, q3⟩ := HNO.out
                  have q4 : steps P (bs b).length = k := by rw [HLB.out]; exact q1
                  have q5 : k < (bs b).length := by rw [HLB.out]; exact hlt
                  have hfin : append P (bs n) (bs b) = (21, { ({ gone P k with left := (gone P k).left - 1, dead := true } : PD) with fs := upd (bs n) ⟨f.all ++ (bs b).take k, f.last⟩ (made (bs n) P.fs) }) := by
                    rw [HAD.out, q4, if_pos q5]
                    have e1 : gone P (bs b).length = { gone P k with left := (gone P k).left - 1, dead := true } := by
                      have q6 : steps P (bs b).length < (bs b).length := by omega
                      simp [gone, q2, q3, q6]; omega
                    rw [e1]
                  rw [hfin]
                  first | exact ⟨S3, rfl, ⟨_, lv1, H1.out⟩, HT5.out⟩ | exact ⟨rfl, S3, ⟨_, lv1, H1.out⟩, HT5.out⟩
                | true =>
                  have hyes : steps (gone P k) 1 = 1 := by simpa using HOK.out.symm
                  rw [if_pos hyes] at h1
                  have HS2 := hide (HM1.out hyes)
                  have c1 := h1.blk.cell 1
                  simp [rHead] at c1
                  obtain ⟨hk1, hat, hbf⟩ := stK_at (b := bs b) HGM.out HKK.out k
                  obtain ⟨g, cur, rfl, hb, g0, g1, g2⟩ := h1.row.at (i := kk) hk1
                  have hat' : ({ gone P (k + 1) with fs := upd (bs n) ⟨f.all ++ (bs b).take k, f.last⟩ (made (bs n) P.fs) } : PD).fs[kk]'hk1 = (bs n, ⟨f.all ++ (bs b).take k, f.last⟩) := hat
                  rw [hat'] at g1
                  simp only at g1
                  have hfz := hb.free (kk * 3 + 1)
                  obtain ⟨X, hX⟩ : ∃ X, X = st (f.all ++ (bs b).take k) := ⟨_, rfl⟩
                  rw [← hX] at g1
                  have hXz : X.size ≤ 4194304 := by
                    have q1 := get_used HGM.out
                    have q2 := hU.out
                    have q3 := HR.out
                    rw [used_made] at q1
                    have q4 := HLB.out
                    rw [hX, st_size, List.length_append, List.length_take]
                    omega
                  have HX := hide hX
                  have H1 := hide h1
                  have HBg := hide hb
                  have HBF := hide hbf
                  have HAT := hide hat
                  clear h1 hX hb hyes hat hat' hbf g0 g2
                  go_wp2_with fail
                  go_region
                  have hY : X ++ b.extract k (k + 1) = st (f.all ++ (bs b).take (k + 1)) := by
                    apply bs_inj
                    rw [one_more _ _ _ hlt, HX.out, bs_st, bs_st, List.append_assoc, take_more]
                  have q2 : w1.ownsRow 0 91 3 (.slice (some ⟨g, 0, none⟩) len cap4) (stK P (bs n) f (bs b) k).fs.length (fcs (stK P (bs n) f (bs b) k).fs) := H1.out.row
                  rw [HLST.out] at q2
                  have hrow := FRow.set q2 (kk * 3 + 1) (by rw [fcs_len]; show _ < (stK P (bs n) f (bs b) k).fs.length * 3; rw [HLST.out]; omega) (.string (X ++ b.extract k (k + 1)))
                  have hfc := fcs_all _ kk hk1 (f.all ++ (bs b).take (k + 1)) HAT.out HBF.out
                  rw [← hY] at hfc
                  have hne := ne_of_blk H1.out.blk HBg.out (by decide)
                  have hch : Ch (fun i => i = e ∨ (Value.slice (some ⟨g, 0, none⟩) len cap4).ownBlock = some i) w1 ((w1.setCell ⟨g, kk * 3 + 1, none⟩ (.string (X ++ b.extract k (k + 1)))).drew) :=
                    ((Ch.set g (kk * 3 + 1) (.string (X ++ b.extract k (k + 1)))).weak (fun i _ hi => .inr (by rw [hi]; rfl))).trans (Ch.of_below (fun _ => False) ((Below.refl _ _).drew)) (fun i hi => hi.elim)
                  have hin := putByte (b := bs b) H1.out HGM.out (by rw [HLB.out]; exact hlt) HR.out HL0.out hch (H1.out.blk.other hne _ _) (by
                    have hu : upd (bs n) ⟨f.all ++ (bs b).take (k + 1), f.last⟩ (made (bs n) P.fs) = upd (bs n) ⟨f.all ++ (bs b).take (k + 1), f.last⟩ (stK P (bs n) f (bs b) k).fs := (upd_upd _).symm
                    rw [hu]
                    show World.ownsRow _ 0 91 3 _ (upd (bs n) ⟨f.all ++ (bs b).take (k + 1), f.last⟩ (stK P (bs n) f (bs b) k).fs).length (fcs (upd (bs n) ⟨f.all ++ (bs b).take (k + 1), f.last⟩ (stK P (bs n) f (bs b) k).fs))
                    rw [hfc, len_upd, HLST.out]; exact hrow)
                  have HIN := hide hin
                  clear hY hrow hfc hne hch hin hfz g1 c1 HBF HAT hXz
                  generalize (w1.setCell ⟨g, kk * 3 + 1, none⟩ (.string (X ++ b.extract k (k + 1)))).drew = w5 at HIN ⊢
                  go_wp2_with fail
                  go_roundw
                  case rel => exact ⟨k + 1, by go_num, by omega, HS2, hide ⟨lv1, HIN.out.1⟩, hide (HT5.out.trans HIN.out.2)⟩
                  case measure => simp [intOf]; omega
              · have hks : k = b.size := by omega
                subst hks
                have hnl : ¬ ((b.size : Int) < b.size) := by omega
                go_wp2_with fail
                go_ret
                obtain ⟨lv5, hI⟩ := HI.out
                have q0 := HS.out
                rw [← HLB.out] at q0 hI
                have hfin : append P (bs n) (bs b) = (0, stK P (bs n) f (bs b) (bs b).length) := by
                  rw [HAD.out, q0, if_neg (by omega)]; rfl
                rw [hfin]
                first | exact ⟨S3, rfl, ⟨_, lv5, hI⟩, HT.out⟩ | exact ⟨rfl, S3, ⟨_, lv5, hI⟩, HT.out⟩
      | some f =>
        obtain ⟨k0, hk0, hix, _, _⟩ := idxI_some hg
        have hnk : ¬ ((k0 : Int) < 0) := by omega
        have HA := hide (show ¬ (bs n = [] ∨ (get P.fs (bs n) = none ∧ 4 ≤ P.fs.length)) from fun hh => by rcases hh with hh | ⟨hh, _⟩; exact hne hh; rw [hg] at hh; cases hh)
        have HG := hide hg
        have HGM : Hid (get (made (bs n) P.fs) (bs n) = some f) := hide (by rw [get_made_some hg]; exact hg)
        clear h hne hg
        go_enter Try.func47, Try.ntmps47
        go_wp2_with fail
        refine (rdead_any HB.out).mono ?_
        rintro x w ⟨rfl, rfl⟩
        rw [HD.out]
        go_wp2_with fail
        refine (HF.out _ HE.out).mono ?_
        rintro x w ⟨rfl, rfl⟩
        rw [hix]
        go_upto_region 6 with fail
        have cA : ∀ d os, Calls Try.prog 51 #[ptr e] (grow (redrawn w d) os) fun x w'' => x = .returned (.int .i64 (used P.fs : Int)) ∧ ∃ p : Regrown, w'' = grow (redrawn w p.d) p.os := fun d os => Calls.regrown_of (by
          refine (rused_any P e S _ (HE.out.below (below_regrown w d os))).mono ?_
          rintro x w' ⟨rfl, rfl⟩
          exact ⟨rfl, Below.refl _ _⟩)
        have k0' := cell_regrown c0
        have hwr := HWR.out
        refine wp_region_quiet_below (by kernel_rfl) (by kernel_rfl) ?_
        repeat (go_big_quiet_step (with_reducible exact cA _ _))
        refine wpQuiet_nil ?_
        intro _ hw'
        obtain ⟨⟨dq, osq⟩, rfl⟩ := hw'
        have b2 := below_regrown w dq osq
        have HE2 := hide (HE.out.below b2)
        have HT2 := hide (show Turn S w S (grow (redrawn w dq) osq) from Turn.of_below b2)
        generalize grow (redrawn w dq) osq = w2 at HE2 HT2 ⊢
        clear cA k0' hwr b2 c0 c1
        by_cases hroom : P.room < used P.fs + (bs b).length
        · have hri : (P.room : Int) < (used P.fs : Int) + b.size := by have := HLB.out; omega
          have HR := hide hroom
          clear hroom
          go_wp2_with fail
          go_ret
          rw [append_full HD.out HA.out HR.out]
          first | exact ⟨S, rfl, HE2.out, HT2.out⟩ | exact ⟨rfl, S, HE2.out, HT2.out⟩
        · have hri : ¬ ((P.room : Int) < (used P.fs : Int) + b.size) := by have := HLB.out; omega
          have HR := hide hroom
          clear hroom

          have HKK : Hid (idxI (made (bs n) P.fs) (bs n) = k0) := hide (by rw [get_made_some HG.out]; exact hix)
          have HE3 : Hid (IsE w2 e S { P with fs := made (bs n) P.fs }) := hide (by rw [get_made_some HG.out]; exact HE2.out)
          have HT3 := HT2
          clear hix
          have HAD := hide (append_done HD.out HA.out HR.out HGM.out)
          have HL0 : Hid (f.last ≤ f.all.length) := hide (by
            obtain ⟨v9, lv9, h9⟩ := HE3.out
            exact h9.wf.last (bs n, f) (get_mem HGM.out))
          have HE4 : Hid (IsE w2 e S (stK P (bs n) f (bs b) 0)) := hide (by rw [stK_zero HD.out HGM.out]; exact HE3.out)
          clear HE3
          obtain ⟨v4, lv4, h4'⟩ := HE4.out
          obtain ⟨a4, cap4, rfl, hlc4, hcm4⟩ := h4'.row.shape
          obtain ⟨len, hlen⟩ : ∃ len, len = (made (bs n) P.fs).length := ⟨_, rfl⟩
          have hlst : ∀ k, (stK P (bs n) f (bs b) k).fs.length = len := fun k => by rw [hlen]; exact len_upd _
          rw [hlst] at hlc4 h4'
          have hkm : k0 < len := by obtain ⟨q1, _⟩ := stK_at (b := bs b) HGM.out HKK.out 0; rw [hlst] at q1; exact q1
          have hkmi : (k0 : Int) < len := by omega
          have HLST := hide hlst
          have HI4 := hide h4'
          clear h4' hlen hlst
          unfold maxLen at hcm4
          go_wp2_with fail
          go_loopw [8] (fun i wr => ∃ k : Nat, i = .int .i64 k ∧ k ≤ b.size ∧ Hid (steps P k = k) ∧ Hid (∃ lv, IsR wr e S (stK P (bs n) f (bs b) k) (.slice a4 len cap4) lv) ∧ Hid (Turn S w S wr)) (fun i _ => b.size - (intOf i).toNat)
          case atStart => exact ⟨0, rfl, Nat.zero_le _, hide (by simp [steps]), hide ⟨_, HI4.out⟩, HT3⟩
          case round =>
            obtain ⟨k, rfl, hk, HS, HI, HT⟩ := hrel
            by_cases hlt : k < b.size
            · have hli : (k : Int) < b.size := by omega
              obtain ⟨lv5, hI⟩ := HI.out
              have HI5 := hide hI
              have hm1 := (steps_more HS.out hlt).1
              have hm2 := (steps_more HS.out hlt).2
              have hgm := gone_more HD.out HS.out
              obtain ⟨ok, hok⟩ : ∃ ok, ok = decide (steps (gone P k) 1 = 1) := ⟨_, rfl⟩
              have HOK := hide hok
              have HM1 := hide hm1
              have HM2 := hide hm2
              have HGN := hide hgm
              clear hok hm1 hm2 hgm hI
              go_wp2_with fail
              refine (rstep_any (stK P (bs n) f (bs b) k) e S _ lv5 wr HI5.out (by have h := HS.out; show decide (steps P k < k) = false; simp; omega) ok HOK.out).mono ?_
              rintro x w1 ⟨rfl, ⟨lv1, h1⟩, k1⟩
              rw [stK_gone, HGN.out] at h1
              have HT5 : Hid (Turn S w S w1) := hide (HT.out.trans ⟨k1.weak (fun i _ hi => hi ▸ HI5.out.inS), fun k hk => .inl hk⟩)
              clear k1
              cases ok with
              | false =>
                have hno : steps (gone P k) 1 ≠ 1 := by simpa using HOK.out.symm
                rw [if_neg hno] at h1
                have H1 := hide h1
                have HNO := hide (HM2.out hno)
                clear h1 hno
                go_wp2_with fail
                go_ret
                obtain ⟨q1, q2, q3⟩ := HNO.out
                have q4 : steps P (bs b).length = k := by rw [HLB.out]; exact q1
                have q5 : k < (bs b).length := by rw [HLB.out]; exact hlt
                have hfin : append P (bs n) (bs b) = (21, { ({ gone P k with left := (gone P k).left - 1, dead := true } : PD) with fs := upd (bs n) ⟨f.all ++ (bs b).take k, f.last⟩ (made (bs n) P.fs) }) := by
                  rw [HAD.out, q4, if_pos q5]
                  have e1 : gone P (bs b).length = { gone P k with left := (gone P k).left - 1, dead := true } := by
                    have q6 : steps P (bs b).length < (bs b).length := by omega
                    simp [gone, q2, q3, q6]; omega
                  rw [e1]
                rw [hfin]
                first | exact ⟨S, rfl, ⟨_, lv1, H1.out⟩, HT5.out⟩ | exact ⟨rfl, S, ⟨_, lv1, H1.out⟩, HT5.out⟩
              | true =>
                have hyes : steps (gone P k) 1 = 1 := by simpa using HOK.out.symm
                rw [if_pos hyes] at h1
                have HS2 := hide (HM1.out hyes)
                have c1 := h1.blk.cell 1
                simp [rHead] at c1
                obtain ⟨hk1, hat, hbf⟩ := stK_at (b := bs b) HGM.out HKK.out k
                obtain ⟨g, cur, rfl, hb, g0, g1, g2⟩ := h1.row.at (i := k0) hk1
                have hat' : ({ gone P (k + 1) with fs := upd (bs n) ⟨f.all ++ (bs b).take k, f.last⟩ (made (bs n) P.fs) } : PD).fs[k0]'hk1 = (bs n, ⟨f.all ++ (bs b).take k, f.last⟩) := hat
                rw [hat'] at g1
                simp only at g1
                have hfz := hb.free (k0 * 3 + 1)
                obtain ⟨X, hX⟩ : ∃ X, X = st (f.all ++ (bs b).take k) := ⟨_, rfl⟩
                rw [← hX] at g1
                have hXz : X.size ≤ 4194304 := by
                  have q1 := get_used HGM.out
                  have q2 := hU.out
                  have q3 := HR.out
                  rw [used_made] at q1
                  have q4 := HLB.out
                  rw [hX, st_size, List.length_append, List.length_take]
                  omega
                have HX := hide hX
                have H1 := hide h1
                have HBg := hide hb
                have HBF := hide hbf
                have HAT := hide hat
                clear h1 hX hb hyes hat hat' hbf g0 g2
                go_wp2_with fail
                go_region
                have hY : X ++ b.extract k (k + 1) = st (f.all ++ (bs b).take (k + 1)) := by
                  apply bs_inj
                  rw [one_more _ _ _ hlt, HX.out, bs_st, bs_st, List.append_assoc, take_more]
                have q2 : w1.ownsRow 0 91 3 (.slice (some ⟨g, 0, none⟩) len cap4) (stK P (bs n) f (bs b) k).fs.length (fcs (stK P (bs n) f (bs b) k).fs) := H1.out.row
                rw [HLST.out] at q2
                have hrow := FRow.set q2 (k0 * 3 + 1) (by rw [fcs_len]; show _ < (stK P (bs n) f (bs b) k).fs.length * 3; rw [HLST.out]; omega) (.string (X ++ b.extract k (k + 1)))
                have hfc := fcs_all _ k0 hk1 (f.all ++ (bs b).take (k + 1)) HAT.out HBF.out
                rw [← hY] at hfc
                have hne := ne_of_blk H1.out.blk HBg.out (by decide)
                have hch : Ch (fun i => i = e ∨ (Value.slice (some ⟨g, 0, none⟩) len cap4).ownBlock = some i) w1 ((w1.setCell ⟨g, k0 * 3 + 1, none⟩ (.string (X ++ b.extract k (k + 1)))).drew) :=
                  ((Ch.set g (k0 * 3 + 1) (.string (X ++ b.extract k (k + 1)))).weak (fun i _ hi => .inr (by rw [hi]; rfl))).trans (Ch.of_below (fun _ => False) ((Below.refl _ _).drew)) (fun i hi => hi.elim)
                have hin := putByte (b := bs b) H1.out HGM.out (by rw [HLB.out]; exact hlt) HR.out HL0.out hch (H1.out.blk.other hne _ _) (by
                  have hu : upd (bs n) ⟨f.all ++ (bs b).take (k + 1), f.last⟩ (made (bs n) P.fs) = upd (bs n) ⟨f.all ++ (bs b).take (k + 1), f.last⟩ (stK P (bs n) f (bs b) k).fs := (upd_upd _).symm
                  rw [hu]
                  show World.ownsRow _ 0 91 3 _ (upd (bs n) ⟨f.all ++ (bs b).take (k + 1), f.last⟩ (stK P (bs n) f (bs b) k).fs).length (fcs (upd (bs n) ⟨f.all ++ (bs b).take (k + 1), f.last⟩ (stK P (bs n) f (bs b) k).fs))
                  rw [hfc, len_upd, HLST.out]; exact hrow)
                have HIN := hide hin
                clear hY hrow hfc hne hch hin hfz g1 c1 HBF HAT hXz
                generalize (w1.setCell ⟨g, k0 * 3 + 1, none⟩ (.string (X ++ b.extract k (k + 1)))).drew = w5 at HIN ⊢
                go_wp2_with fail
                go_roundw
                case rel => exact ⟨k + 1, by go_num, by omega, HS2, hide ⟨lv1, HIN.out.1⟩, hide (HT5.out.trans HIN.out.2)⟩
                case measure => simp [intOf]; omega
            · have hks : k = b.size := by omega
              subst hks
              have hnl : ¬ ((b.size : Int) < b.size) := by omega
              go_wp2_with fail
              go_ret
              obtain ⟨lv5, hI⟩ := HI.out
              have q0 := HS.out
              rw [← HLB.out] at q0 hI
              have hfin : append P (bs n) (bs b) = (0, stK P (bs n) f (bs b) (bs b).length) := by
                rw [HAD.out, q0, if_neg (by omega)]; rfl
              rw [hfin]
              first | exact ⟨S, rfl, ⟨_, lv5, hI⟩, HT.out⟩ | exact ⟨rfl, S, ⟨_, lv5, hI⟩, HT.out⟩
end Go.Proofs.Ytmbjlnnoemenoaa
