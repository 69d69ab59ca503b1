/-
  THE WALK of DiskAlone (layer 9).
-/
import Derived.Test.YtmbjlnnoemenoaaKPair
set_option linter.unusedVariables false
set_option linter.unusedSimpArgs false
set_option maxRecDepth 100000
namespace Go.Proofs.Ytmbjlnnoemenoaa
open Go.RowKit Go.Maps Dk

abbrev nOne : ByteArray := ⟨#[111, 110, 101]⟩
abbrev nLog : ByteArray := ⟨#[108, 111, 103]⟩
structure AlD (x y : Bs) (P : PD) : Prop where
  dead : P.dead = false
  fused : P.fused = false
  one : get P.fs [111, 110, 101] = some ⟨x ++ y, x.length⟩
structure AlC (x y : Bs) (Q : PD) : Prop where
  dead : Q.dead = false
  fused : Q.fused = false
  log : get Q.fs [108, 111, 103] = none
  one : ∃ r, r ≤ x.length + y.length ∧ get Q.fs [111, 110, 101] = some ⟨(x ++ y).take r, min x.length r⟩
theorem steps_un {P : PD} (h : P.fused = false) (m : Nat) : steps P m = m := by simp [Dk.steps, h]
theorem get_made_other {n m : Bs} (h : m ≠ n) (fs : List (Bs × PF)) : get (made n fs) m = get fs m := by
  unfold Dk.made; split
  · rfl
  · exact get_ins_other h fs
theorem AlD.append {x y : Bs} {P : PD} (h : AlD x y P) {n : Bs} (hn : n ≠ [111, 110, 101]) (b : Bs) : AlD x y (append P n b).2 := by
  unfold Dk.append
  rw [if_neg (by simp [h.dead])]
  split
  · exact h
  · split
    · exact h
    · refine ⟨by simp [Dk.gone, steps_un h.fused], by simp [Dk.gone, h.fused], ?_⟩
      simp only
      cases hg : get (made n P.fs) n with
      | none => simp only; rw [get_made_other (Ne.symm hn)]; exact h.one
      | some f => simp only; rw [get_upd_other (Ne.symm hn), get_made_other (Ne.symm hn)]; exact h.one
theorem AlD.sync {x y : Bs} {P : PD} (h : AlD x y P) {n : Bs} (hn : n ≠ [111, 110, 101]) : AlD x y (sync P n).2 := by
  unfold Dk.sync
  rw [if_neg (by simp [h.dead])]
  cases hg : get P.fs n with
  | none => exact h
  | some f =>
    simp only
    rw [if_neg (by rw [steps_un h.fused]; omega)]
    exact ⟨by simp [Dk.gone, steps_un h.fused], by simp [Dk.gone, h.fused], by simp only; rw [get_upd_other (Ne.symm hn)]; exact h.one⟩
theorem AlD.cut {x y : Bs} {P : PD} (h : AlD x y P) {n : Bs} (hn : n ≠ [111, 110, 101]) (m : Int) : AlD x y (cut P n m).2 := by
  unfold Dk.cut
  rw [if_neg (by simp [h.dead])]
  cases hg : get P.fs n with
  | none => exact h
  | some f =>
    simp only
    split
    · exact h
    · rw [if_neg (by rw [steps_un h.fused]; omega)]
      exact ⟨by simp [Dk.gone, steps_un h.fused], by simp [Dk.gone, h.fused], by simp only; rw [get_upd_other (Ne.symm hn)]; exact h.one⟩
theorem AlC.cut {x y : Bs} {Q : PD} (h : AlC x y Q) (m : Int) : AlC x y (cut Q [111, 110, 101] m).2 := by
  obtain ⟨r, hr, h1⟩ := h.one
  unfold Dk.cut
  rw [if_neg (by simp [h.dead]), h1]
  simp only
  split
  · exact h
  · rename_i hm
    rw [if_neg (by rw [steps_un h.fused]; omega)]
    refine ⟨by simp [Dk.gone, steps_un h.fused], by simp [Dk.gone, h.fused], by simp only; rw [get_upd_other (by decide)]; exact h.log, m.toNat, ?_, ?_⟩
    · simp only [List.length_take, List.length_append] at hm; omega
    · simp only
      rw [get_upd_same h1, List.take_take]
      simp only [List.length_take, List.length_append] at hm
      have e1 : min m.toNat r = m.toNat := by omega
      have e2 : min (min x.length r) m.toNat = min x.length m.toNat := by omega
      rw [e1, e2]
theorem al_start (x y : Bs) (h : x.length + y.length ≤ 4000) : append ⟨4000, [], false, 0, false⟩ [111, 110, 101] x = (0, ⟨4000, [([111, 110, 101], ⟨x, 0⟩)], false, 0, false⟩) ∧
    sync ⟨4000, [([111, 110, 101], ⟨x, 0⟩)], false, 0, false⟩ [111, 110, 101] = (0, ⟨4000, [([111, 110, 101], ⟨x, x.length⟩)], false, 0, false⟩) ∧
    append ⟨4000, [([111, 110, 101], ⟨x, x.length⟩)], false, 0, false⟩ [111, 110, 101] y = (0, ⟨4000, [([111, 110, 101], ⟨x ++ y, x.length⟩)], false, 0, false⟩) := by
  have h1 : ¬ 4000 < x.length := by omega
  have h2 : ¬ 4000 < x.length + y.length := by omega
  refine ⟨?_, ?_, ?_⟩
  · simp [Dk.append, Dk.get, Dk.made, Dk.ins, Dk.upd, Dk.used, Dk.steps, Dk.gone, h1]
  · simp [Dk.sync, Dk.get, Dk.upd, Dk.steps, Dk.gone]
  · simp [Dk.append, Dk.get, Dk.made, Dk.ins, Dk.upd, Dk.used, Dk.steps, Dk.gone, h2]
theorem al_new : new 4000 = ⟨4000, [], false, 0, false⟩ := by kernel_rfl

set_option maxHeartbeats 4000000 in
theorem diskAlone_walk (a0 : ByteArray) (a1 : ByteArray) (w0 : a0.size ≤ 140737488355328) (w1 : a1.size ≤ 140737488355328) (a2 : Option Addr) (cap : Nat) (l : List Dd) (hlc : l.length ≤ cap) (hcm : cap ≤ maxLen) (w : World) (hl : Dds w a2 l) :
    Calls Try.prog 8 #[.string a0, .string a1, .slice a2 l.length cap] w fun e w' => e = .returned (.bool true) ∧ Below w.heap.size w w' := by
  have hw : IntKind.i64.wrap ((a0.size : Int) + a1.size) = (a0.size : Int) + a1.size := by rw [IntKind.wrap_i64]; omega
  have l0 := bs_len a0
  have l1 := bs_len a1
  have HH := hide (fun w (h : Dds w a2 l) => heavy_any a2 cap l w h hlc hcm)
  unfold maxLen at hcm
  obtain ⟨len, hlen⟩ : ∃ len, len = l.length := ⟨_, rfl⟩
  rw [← hlen] at hlc HH ⊢
  have HL := hide hl
  have HLN := hide hlen
  clear hl hlen w0 w1
  go_enter Try.func8, Try.ntmps8
  go_wp2_with fail
  refine (HH.out w HL.out).mono ?_
  rintro e w ⟨⟨hv, rfl⟩, rfl⟩
  by_cases h200 : (200 : Int) < hv
  · go_wp2_with fail
    refine (known_any _).mono ?_
    rintro e w3 ⟨rfl, b3⟩
    have B3 := hide b3
    clear b3
    go_wp2_with fail
    go_ret
    exact ⟨rfl, B3.out⟩
  · by_cases hs : (100 : Int) < (a0.size : Int) + a1.size
    · go_wp2_with fail
      refine (known_any _).mono ?_
      rintro e w3 ⟨rfl, b3⟩
      have B3 := hide b3
      clear b3
      go_wp2_with fail
      go_ret
      exact ⟨rfl, B3.out⟩
    · obtain ⟨e1, e2, e3⟩ := al_start (bs a0) (bs a1) (by omega)
      have E1 := hide e1
      have E2 := hide e2
      have E3 := hide e3
      clear e1 e2 e3
      go_wp2_with fail
      refine (new_st 4000 (Below.refl w.heap.size w) (Nat.le_refl _) (by decide)).mono ?_
      rintro e w1 ⟨d, rfl, h1⟩
      rw [al_new] at h1
      have H1 := hide h1
      clear h1
      go_wp2_with fail
      refine (append_st H1.out nOne a0 (by decide) E1.out).mono ?_
      rintro e w2 ⟨rfl, h2⟩
      have H2 := hide h2
      clear h2 H1
      go_wp2_with fail
      refine (sync_st H2.out nOne (by decide) E2.out).mono ?_
      rintro e w3 ⟨rfl, h3⟩
      have H3 := hide h3
      clear h3 H2
      go_wp2_with fail
      refine (append_st H3.out nOne a1 (by decide) E3.out).mono ?_
      rintro e w4 ⟨rfl, h4⟩
      have H4 := hide h4
      clear h4 H3
      go_wp2_with fail
      refine (copy_st H4.out).mono ?_
      rintro e w5 ⟨c, rfl, h5⟩
      have H5 : Hid (∃ P Q, AlD (bs a0) (bs a1) P ∧ AlC (bs a0) (bs a1) Q ∧ St2 w.heap.size w w5 d P c Q) := hide ⟨_, _, ⟨rfl, rfl, by simp [Dk.get]⟩, ⟨rfl, rfl, by simp [Dk.get], (bs a0).length + (bs a1).length, Nat.le_refl _, by simp only [Dk.get, if_true]; rw [List.take_of_length_le (by simp), Nat.min_eq_left (Nat.le_add_right _ _)]⟩, h5⟩
      clear h5 H4 E1 E2 E3
      go_wp2_with fail
      go_loopw [9] (fun iv wr => ∃ k : Nat, k ≤ len ∧ iv = .int .i64 k ∧ Hid (∃ P Q, AlD (bs a0) (bs a1) P ∧ AlC (bs a0) (bs a1) Q ∧ St2 w.heap.size w wr d P c Q)) (fun iv _ => len - (intOf iv).toNat)
      case atStart => exact ⟨0, Nat.zero_le _, rfl, H5⟩
      case round =>
        obtain ⟨k, hk, rfl, HS⟩ := hrel
        by_cases hlt : k < len
        · have hli : (k : Int) < len := by omega
          have hkl : k < l.length := by have := HLN.out; omega
          obtain ⟨b, off, rfl, g0, g1, g2, g3⟩ := HL.out.2 k hkl
          have hok := HL.out.1 _ (List.getElem_mem hkl)
          generalize l[k] = y at g0 g1 g2 g3 hok
          obtain ⟨yk, ya, yn, yb⟩ := y
          simp only at g0 g1 g2 g3
          have okk := hok.kind
          have oka := hok.a
          simp only at okk oka
          obtain ⟨q, hq, hq4⟩ : ∃ q : Nat, yk.tmod 4 = q ∧ q < 4 := ⟨(yk.tmod 4).toNat, by rw [Int.tmod_eq_emod_of_nonneg okk.1]; omega, by rw [Int.tmod_eq_emod_of_nonneg okk.1]; omega⟩
          have hbl : b < w.heap.size := by
            rcases Nat.lt_or_ge b w.heap.size with h | h
            · exact h
            · simp [World.cell?, Array.getElem?_eq_none h] at g0
          obtain ⟨P, Q, hP, hQ, hst⟩ := HS.out
          have c0 := (hst.out.cell (p := ⟨b, off + k * 4, none⟩) hbl).trans g0
          have c1 := (hst.out.cell (p := ⟨b, off + k * 4 + 1, none⟩) hbl).trans g1
          have c2 := (hst.out.cell (p := ⟨b, off + k * 4 + 2, none⟩) hbl).trans g2
          have c3 := (hst.out.cell (p := ⟨b, off + k * 4 + 3, none⟩) hbl).trans g3
          have HP := hide hP
          have HQ := hide hQ
          have HST := hide hst
          have G0 := hide g0
          have G2 := hide g2
          have G3 := hide g3
          clear g0 g1 g2 g3 hok hP hQ hst HS
          go_wp2_with fail
          refine (file_any ya oka _).mono ?_
          rintro e w6 ⟨⟨nm, hnm, rfl⟩, b6⟩
          have hst6 := HST.out.below b6
          have d0 := (hst6.out.cell (p := ⟨b, off + k * 4, none⟩) hbl).trans G0.out
          have d2 := (hst6.out.cell (p := ⟨b, off + k * 4 + 2, none⟩) hbl).trans G2.out
          have d3 := (hst6.out.cell (p := ⟨b, off + k * 4 + 3, none⟩) hbl).trans G3.out
          have HN1 := hide (nms_small nm hnm)
          have HN2 := hide (nms_one nm hnm)
          have H6 := hide hst6
          clear hst6 b6 HST hnm c0 c1 c2 c3
          have hq5 : q = 0 ∨ q = 1 ∨ q = 2 ∨ q = 3 := by omega
          rcases hq5 with rfl | rfl | rfl | rfl
          · go_wp2_with fail
            refine (append_st2 H6.out nm yb HN1.out).mono ?_
            rintro e w7 ⟨rfl, h7⟩
            have H7 : Hid (∃ P Q, AlD (bs a0) (bs a1) P ∧ AlC (bs a0) (bs a1) Q ∧ St2 w.heap.size w w7 d P c Q) := hide ⟨_, _, HP.out.append HN2.out _, HQ.out, h7⟩
            clear h7 H6 d0 d2 d3
            go_wp2_with fail
            refine ⟨⟨k + 1, by omega, by congr 1, H7⟩, ?_⟩
            simp [intOf]; omega
          · go_wp2_with fail
            refine (sync_st2 H6.out nm HN1.out).mono ?_
            rintro e w7 ⟨rfl, h7⟩
            have H7 : Hid (∃ P Q, AlD (bs a0) (bs a1) P ∧ AlC (bs a0) (bs a1) Q ∧ St2 w.heap.size w w7 d P c Q) := hide ⟨_, _, HP.out.sync HN2.out, HQ.out, h7⟩
            clear h7 H6 d0 d2 d3
            go_wp2_with fail
            refine ⟨⟨k + 1, by omega, by congr 1, H7⟩, ?_⟩
            simp [intOf]; omega
          · go_wp2_with fail
            refine (cut_st2 H6.out nm yn HN1.out).mono ?_
            rintro e w7 ⟨rfl, h7⟩
            have H7 : Hid (∃ P Q, AlD (bs a0) (bs a1) P ∧ AlC (bs a0) (bs a1) Q ∧ St2 w.heap.size w w7 d P c Q) := hide ⟨_, _, HP.out.cut HN2.out _, HQ.out, h7⟩
            clear h7 H6 d0 d2 d3
            go_wp2_with fail
            refine ⟨⟨k + 1, by omega, by congr 1, H7⟩, ?_⟩
            simp [intOf]; omega
          · go_wp2_with fail
            refine (cut_st2 H6.out.swap nOne yn (by decide)).mono ?_
            rintro e w7 ⟨rfl, h7⟩
            have H7 : Hid (∃ P Q, AlD (bs a0) (bs a1) P ∧ AlC (bs a0) (bs a1) Q ∧ St2 w.heap.size w w7 d P c Q) := hide ⟨_, _, HP.out, HQ.out.cut _, h7.swap⟩
            clear h7 H6 d0 d2 d3
            go_wp2_with fail
            refine ⟨⟨k + 1, by omega, by congr 1, H7⟩, ?_⟩
            simp [intOf]; omega
        · have hnl : ¬ ((k : Int) < len) := by omega
          obtain ⟨P, Q, hP, hQ, hst⟩ := HS.out
          obtain ⟨r, hr, h1⟩ := hQ.one
          have r1 : read P [111, 110, 101] = bs (a0 ++ a1) := by unfold Dk.read; rw [hP.dead, hP.one, bs_append]; rfl
          have r2 : lasting P [111, 110, 101] = bs a0 := by unfold Dk.lasting; rw [hP.one]; simp
          have r3 : read Q [108, 111, 103] = bs ⟨#[]⟩ := by unfold Dk.read; rw [hQ.dead, hQ.log]; rfl
          have r4 : read Q [111, 110, 101] = bs ((a0 ++ a1).extract 0 r) := by unfold Dk.read; rw [hQ.dead, h1, bs_front, bs_append]; rfl
          obtain ⟨T, hT⟩ : ∃ T, T = (a0 ++ a1).extract 0 r := ⟨_, rfl⟩
          have hTs : T.size = r := by rw [hT, ← bs_len, bs_front, bs_append, List.length_take, List.length_append]; omega
          have r5 : lasting Q [111, 110, 101] = bs (T.extract 0 (min a0.size T.size)) := by
            unfold Dk.lasting; rw [h1, hTs, bs_front, hT, bs_front, bs_append, l0]
          rw [← hT] at r4
          have hmn : min (a0.size : Int) (T.size : Int) = ((min a0.size T.size : Nat) : Int) := by omega
          have hmb : min a0.size T.size ≤ T.size := Nat.min_le_right _ _
          obtain ⟨mm, hmm⟩ : ∃ mm, mm = min a0.size T.size := ⟨_, rfl⟩
          rw [← hmm] at hmn hmb r5
          have hmb2 : (mm : Int) ≤ T.size := by omega
          have R1 := hide r1
          have R2 := hide r2
          have R3 := hide r3
          have R4 := hide r4
          have R5 := hide r5
          have HST := hide hst
          clear r1 r2 r3 r4 r5 hP hQ hst hT hTs hmm h1 HS l0 l1
          go_wp2_with fail
          refine (known_any _).mono ?_
          rintro e w8 ⟨rfl, h8⟩
          have H8 := hide (HST.out.below h8)
          clear h8 HST
          go_wp2_with fail
          obtain ⟨S9, T9, q9, _⟩ := id (H8.out)
          refine (read_any _ d _ nOne _ q9 (by decide)).mono ?_
          rintro e w9 ⟨rfl, h9⟩
          rw [show read _ (bs nOne) = bs (a0 ++ a1) from R1.out]
          rw [show (⟨(bs (a0 ++ a1)).toArray⟩ : ByteArray) = (a0 ++ a1) from rfl]
          have H9 := hide (H8.out.below h9)
          clear h9 H8 q9
          go_wp2_with fail
          obtain ⟨S10, T10, q10, _⟩ := id (H9.out)
          refine (lasting_any _ d _ nOne _ q10 (by decide)).mono ?_
          rintro e w10 ⟨rfl, h10⟩
          rw [show lasting _ (bs nOne) = bs a0 from R2.out]
          rw [show (⟨(bs a0).toArray⟩ : ByteArray) = a0 from rfl]
          have H10 := hide (H9.out.below h10)
          clear h10 H9 q10
          go_wp2_with fail
          obtain ⟨S11, T11, q11, _⟩ := id (H10.out.swap)
          refine (read_any _ c _ nLog _ q11 (by decide)).mono ?_
          rintro e w11 ⟨rfl, h11⟩
          rw [show read _ (bs nLog) = bs ⟨#[]⟩ from R3.out]
          rw [show (⟨(bs ⟨#[]⟩).toArray⟩ : ByteArray) = ⟨#[]⟩ from rfl]
          have H11 := hide (H10.out.below h11)
          clear h11 H10 q11
          go_wp2_with fail
          obtain ⟨S12, T12, q12, _⟩ := id (H11.out.swap)
          refine (lasting_any _ c _ nOne _ q12 (by decide)).mono ?_
          rintro e w12 ⟨rfl, h12⟩
          rw [show lasting _ (bs nOne) = bs (T.extract 0 mm) from R5.out]
          rw [show (⟨(bs (T.extract 0 mm)).toArray⟩ : ByteArray) = (T.extract 0 mm) from rfl]
          have H12 := hide (H11.out.below h12)
          clear h12 H11 q12
          go_wp2_with fail
          obtain ⟨S13, T13, q13, _⟩ := id (H12.out.swap)
          refine (read_any _ c _ nOne _ q13 (by decide)).mono ?_
          rintro e w13 ⟨rfl, h13⟩
          rw [show read _ (bs nOne) = bs T from R4.out]
          rw [show (⟨(bs T).toArray⟩ : ByteArray) = T from rfl]
          have H13 := hide (H12.out.below h13)
          clear h13 H12 q13
          go_wp2_with fail
          obtain ⟨S14, T14, q14, _⟩ := id (H13.out.swap)
          refine (read_any _ c _ nOne _ q14 (by decide)).mono ?_
          rintro e w14 ⟨rfl, h14⟩
          rw [show read _ (bs nOne) = bs T from R4.out]
          rw [show (⟨(bs T).toArray⟩ : ByteArray) = T from rfl]
          have H14 := hide (H13.out.below h14)
          clear h14 H13 q14
          go_wp2_with fail
          go_ret
          refine ⟨?_, H14.out.out⟩
          first | rfl | (simp; omega)
end Go.Proofs.Ytmbjlnnoemenoaa
