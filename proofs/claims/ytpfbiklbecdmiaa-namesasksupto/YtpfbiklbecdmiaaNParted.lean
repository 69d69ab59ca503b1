/-
  THE WALK of NamesParted.
-/
import Derived.Test.YtpfbiklbecdmiaaNMarks
import Derived.Test.YtpfbiklbecdmiaaNOne
set_option linter.unusedVariables false
set_option linter.unusedSimpArgs false
namespace Go.Proofs.Ytpfbiklbecdmiaa
open Go.RowKit Go.Shelf Go.Sort

def abB : ByteArray := ⟨#[97, 98]⟩
theorem slice_ab (z : Nat) (h : z < 2) (w : World) : (Instr.sliceAt 9 (.string ⟨#[97, 98]⟩) (some (.int .u8 (z : Int))) (some (.int .u8 ((z : Int) + 1))) none).run Try.prog w = .ok (.string ⟨(Nm.plTab.getD z []).toArray⟩) w := by
  have hu : (Try.prog.underlying 9) = some .string := Try.underlying9
  have : z = 0 ∨ z = 1 := by omega
  rcases this with rfl | rfl
  · simp [Instr.sliceAt, Instr.slice, run_underlying hu, Instr.sliceBounds, run_sliceBound, Nm.plTab]
    rfl
  · simp [Instr.sliceAt, Instr.slice, run_underlying hu, Instr.sliceBounds, run_sliceBound, Nm.plTab]
    rfl

set_option maxRecDepth 100000 in
set_option maxHeartbeats 1000000 in
theorem pl_row (a : Option Addr) (len cap : Nat) (zs : List Int) (w : World) (hB : Bys w a len zs) :
    Calls Try.prog 25 #[.slice a len cap] w fun e w' => e = .returned (.string ⟨(Nm.pl zs len).toArray⟩) ∧ Below w.heap.size w w' := by
  obtain ⟨hl, hm, hwz, hc⟩ := hB
  unfold maxLen at hm
  have HC : Hid _ := hc
  have HW : Hid _ := hwz
  clear hc hwz
  go_enter Try.func25, Try.ntmps25
  go_wp2_with fail
  go_loopw [3, 4] (fun s i wr => ∃ (k : Nat) (P : ByteArray), k ≤ min len 10 ∧ i = .int .i64 k ∧ s = .string P ∧ Hid (P = ⟨(Nm.pick 2 Nm.plTab zs k).toArray⟩) ∧ P.size ≤ 4 * k ∧ Hid (Below w.heap.size w wr)) (fun _ i _ => 10 - (intOf i).toNat)
  case atStart => exact ⟨0, ⟨#[]⟩, by omega, rfl, rfl, by show _ = _; rw [Nm.pick_zero], by show 0 ≤ _; omega, Below.refl _ _⟩
  case round =>
    obtain ⟨k, P, hk, rfl, rfl, HP, hPs, HBw⟩ := hrel
    by_cases h1 : k < len
    · have h1' : (k : Int) < len := by omega
      by_cases h2 : k < 10
      · have h2' : (k : Int) < 10 := by omega
        obtain ⟨b, off, ha, hcell0⟩ := HC.out k h1
        have hcell := cell_below hcell0 HBw.out
        have hz := getD_u8 HW.out k (by omega)
        have HPS := nhide (Nm.pick_succ 2 Nm.plTab zs k)
        have HPL := nhide (Nm.pick_len 2 Nm.plTab (by decide) zs (k + 1))
        subst ha
        obtain ⟨hz0, hz1⟩ := hz
        clear hcell0
        generalize hzz : zs.getD k 0 = z at *
        obtain ⟨zn, rfl⟩ := Int.eq_ofNat_of_zero_le hz0
        clear hzz
        rw [show ((zn : Int)).toNat % 2 = zn % 2 from by omega] at HPS
        obtain ⟨y, hy⟩ : ∃ y, y = zn % 2 := ⟨_, rfl⟩
        have hyi : (zn : Int) % 2 = (y : Int) := by omega
        have hyt : (zn : Int).tmod 2 = (y : Int) := by rw [Int.tmod_eq_emod_of_nonneg hz0]; exact hyi
        have hy2 : y < 2 := by omega
        rw [← hy] at HPS
        have hsl : ∀ w, (Instr.sliceAt 9 (.string ⟨#[97, 98]⟩) (some (.int .u8 (y : Int))) (some (.int .u8 ((y : Int) + 1))) none).run Try.prog w = .ok (.string ⟨(Nm.plTab.getD y []).toArray⟩) w := fun w => slice_ab y hy2 w
        obtain ⟨Q, hQ⟩ : ∃ Q : ByteArray, Q = ⟨(Nm.plTab.getD y []).toArray⟩ := ⟨_, rfl⟩
        have hQs : Q.size ≤ 4 := by
          have : y = 0 ∨ y = 1 := by omega
          rcases this with rfl | rfl <;> (rw [hQ]; decide)
        rw [← hQ] at hsl
        have HQ := nhide hQ
        have HY := nhide hy
        clear hQ hy
        go_wp2_with fail
        go_quiet (fail)
        go_wp2_with fail
        go_roundw
        case rel =>
          refine ⟨k + 1, P ++ Q, by omega, by go_num, rfl, ?_, ?_, below_drewN HBw.out _⟩
          · show _ = _
            rw [HPS.out, ← str_app, HP.out, HQ.out]
          · rw [ByteArray.size_append]; omega
        case measure => simp [intOf]; omega
      · have h2' : ¬ (k : Int) < 10 := by omega
        go_wp2_with fail
        go_ret
        refine ⟨?_, HBw.out⟩
        rw [Nm.pl, show min len 10 = k from by omega, ← HP.out]
        rfl
    · have h1' : decide ((k : Int) < len) = false := by simp; omega
      go_wp2_with fail
      go_ret
      refine ⟨?_, HBw.out⟩
      rw [Nm.pl, show min len 10 = k from by omega, ← HP.out]
      rfl

theorem pl_len (zs : List Int) (len : Nat) : (Nm.pl zs len).length ≤ 40 := by
  have := Nm.pick_len 2 Nm.plTab (by decide) zs (min len 10)
  unfold Nm.pl
  omega
theorem pl_plain (zs : List Int) (len : Nat) : Nm.plainL (Nm.pl zs len) := by
  intro c hc
  unfold Nm.pl Nm.pick at hc
  obtain ⟨i, _, hi⟩ := List.mem_flatMap.1 hc
  rw [List.getD_eq_getElem?_getD] at hi
  cases e : Nm.plTab[(zs.getD i 0).toNat % 2]? with
  | none => rw [e] at hi; simp at hi
  | some x =>
    rw [e] at hi
    exact (show ∀ x ∈ Nm.plTab, ∀ c ∈ x, ¬ c = 42 ∧ ¬ c = 63 by decide) x (List.mem_of_getElem? e) c hi

set_option maxRecDepth 100000 in
set_option maxHeartbeats 2000000 in
theorem namesParted_walk (a0 : Option Addr) (len0 cap0 : Nat) (z0 : List Int) (a1 : Option Addr) (len1 cap1 : Nat) (z1 : List Int) (a2 : Option Addr) (len2 cap2 : Nat) (z2 : List Int) (w : World) (w0 : IsRow .u8 w a0 len0 cap0 z0) (w1 : IsRow .u8 w a1 len1 cap1 z1) (w2 : IsRow .u8 w a2 len2 cap2 z2) :
    Calls Try.prog 8 #[.slice a0 len0 cap0, .slice a1 len1 cap1, .slice a2 len2 cap2] w fun e w' => e = .returned (.bool true) ∧ Below w.heap.size w w' := by
  have H0 : Hid (Bys w a0 len0 z0) := w0.view
  have H1 : Hid (Bys w a1 len1 z1) := w1.view
  have H2 : Hid (Bys w a2 len2 z2) := w2.view
  clear w0 w1 w2
  obtain ⟨F, hF⟩ : ∃ F : ByteArray, F = ⟨(Nm.pl z0 len0).toArray⟩ := ⟨_, rfl⟩
  obtain ⟨B, hB⟩ : ∃ B : ByteArray, B = ⟨(Nm.pl z1 len1).toArray⟩ := ⟨_, rfl⟩
  obtain ⟨S, hS⟩ : ∃ S : ByteArray, S = ⟨(Nm.pl z2 len2).toArray⟩ := ⟨_, rfl⟩
  have hFs : F.size ≤ 40 := by rw [hF, arr_size]; exact pl_len _ _
  have hBs : B.size ≤ 40 := by rw [hB, arr_size]; exact pl_len _ _
  have hSs : S.size ≤ 40 := by rw [hS, arr_size]; exact pl_len _ _
  have HF : Hid (F.data.toList = Nm.pl z0 len0) := by show _ = _; rw [hF]
  have HBk : Hid (B.data.toList = Nm.pl z1 len1) := by show _ = _; rw [hB]
  have HS : Hid (S.data.toList = Nm.pl z2 len2) := by show _ = _; rw [hS]
  have HFa := nhide hF
  have HBa := nhide hB
  have HSa := nhide hS
  have hgl := Nm.glob_parted (Nm.pl z0 len0) (Nm.pl z1 len1) S.data.toList (pl_plain _ _) (pl_plain _ _)
  have hf1 : (Nm.pl z0 len0).length = F.size := by rw [← HF.out, ← Lib.size_eq]
  have hb1 : (Nm.pl z1 len1).length = B.size := by rw [← HBk.out, ← Lib.size_eq]
  have hs1 : S.data.toList.length = S.size := (Lib.size_eq S).symm
  rw [hf1, hb1, hs1] at hgl
  have HGl := nhide hgl
  clear hF hB hS hgl hf1 hb1 hs1
  go_enter Try.func8, Try.ntmps8
  go_wp2_with fail
  refine (pl_row a0 len0 cap0 z0 w H0.out).mono ?_
  rintro e w2 ⟨rfl, b2⟩
  rw [← HFa.out]
  go_wp2_with fail
  refine (pl_row a1 len1 cap1 z1 w2 (H1.out.below b2)).mono ?_
  rintro e w3 ⟨rfl, b3⟩
  rw [← HBa.out]
  have b3' := nthen b2 b3
  clear b2 b3
  go_wp2_with fail
  refine (pl_row a2 len2 cap2 z2 w3 (H2.out.below b3')).mono ?_
  rintro e w4 ⟨rfl, b4⟩
  rw [← HSa.out]
  have HB4 := nhide (nthen b3' b4)
  clear b3' b4 HFa HBa HSa H0 H1 H2
  by_cases hle : F.size + B.size ≤ S.size
  · have hmin : min (S.size : Int) (F.size : Int) = (F.size : Int) := by omega
    obtain ⟨d, hd⟩ : ∃ d, d = S.size - B.size := ⟨_, rfl⟩
    have hmax : max ((S.size : Int) - (B.size : Int)) 0 = (d : Int) := by omega
    have hdle : d ≤ S.size := by omega
    have hsl : ∀ w, (Instr.sliceAt 9 (.string S) none (some (.int .i64 (F.size : Int))) none).run Try.prog w = .ok (.string (S.extract 0 F.size)) w := fun w => ncut_front S F.size (by omega) w
    have hsl2 : ∀ w, (Instr.sliceAt 9 (.string S) (some (.int .i64 (d : Int))) none none).run Try.prog w = .ok (.string (S.extract d S.size)) w := fun w => nrun_from S d hdle w
    have q1 : (S.extract 0 F.size).toList = S.data.toList.take (min S.size F.size) := by
      rw [Lib.toList_data, Lib.extract_data, show min S.size F.size = F.size by omega]; simp
    have q2 : (S.extract d S.size).toList = S.data.toList.drop (S.size - B.size) := by
      rw [Lib.toList_data, Lib.extract_data, ← hd]
      apply List.take_of_length_le
      rw [List.length_drop, ← Lib.size_eq]
      exact Nat.le_refl _
    have r1 : F.toList = Nm.pl z0 len0 := by rw [Lib.toList_data]; exact HF.out
    have r2 : B.toList = Nm.pl z1 len1 := by rw [Lib.toList_data]; exact HBk.out
    have HD := nhide hd
    clear hd
    by_cases h1 : S.data.toList.take (min S.size F.size) = Nm.pl z0 len0
    · have e1 : ((S.extract 0 F.size).toList == F.toList) = true := by rw [q1, r1, h1]; simp
      by_cases h2 : S.data.toList.drop (S.size - B.size) = Nm.pl z1 len1
      · have e2 : ((S.extract d S.size).toList == B.toList) = true := by rw [q2, r2, h2]; simp
        have HG : Hid (Nm.glob (Nm.pl z0 len0 ++ 42 :: Nm.pl z1 len1) S.data.toList = true) := by
          show _ = _
          rw [HGl.out, decide_eq_true hle, decide_eq_true h1, decide_eq_true h2]; rfl
        clear q1 q2 r1 r2 h1 h2 HGl
        go_wp2_with fail
        refine (nknown_any _).mono ?_
        rintro e w5 ⟨rfl, b5⟩
        have b5' := nthen HB4.out b5
        go_wp2_with fail
        refine (glob_is _ S w5 true (by rw [ByteArray.size_append, ByteArray.size_append]; show _ + 1 + _ ≤ _; omega) (by omega) (by rw [app_list, app_list, HF.out, HBk.out]; simp only [List.append_assoc, List.singleton_append]; exact HG.out)).mono ?_
        rintro e w6 ⟨rfl, b6⟩
        have b6' := nthen b5' b6
        go_wp2_with fail
        refine (glob_is _ _ w6 true (by rw [ByteArray.size_append, ByteArray.size_append]; show _ + 1 + _ ≤ _; omega) (by rw [ByteArray.size_append, ByteArray.size_append]; omega) (by rw [app_list, app_list, app_list, app_list, HF.out, HBk.out, HS.out]; simp only [List.append_assoc, List.singleton_append]; exact Nm.glob_between _ _ _)).mono ?_
        rintro e w7 ⟨rfl, b7⟩
        have b7' := nthen b6' b7
        go_wp2_with fail
        refine (glob_is _ _ w7 true (by rw [ByteArray.size_append]; omega) (by rw [ByteArray.size_append]; omega) (Nm.glob_self _)).mono ?_
        rintro e w8 ⟨rfl, b8⟩
        have b8' := nthen b7' b8
        go_wp2_with fail
        go_ret
        exact ⟨rfl, b8'⟩
      · have e2 : ((S.extract d S.size).toList == B.toList) = false := by rw [q2, r2, beq_eq_false_iff_ne]; exact h2
        have HG : Hid (Nm.glob (Nm.pl z0 len0 ++ 42 :: Nm.pl z1 len1) S.data.toList = false) := by
          show _ = _
          rw [HGl.out, decide_eq_false h2]; simp
        clear q1 q2 r1 r2 h1 h2 HGl
        go_wp2_with fail
        refine (nknown_any _).mono ?_
        rintro e w5 ⟨rfl, b5⟩
        have b5' := nthen HB4.out b5
        go_wp2_with fail
        refine (glob_is _ S w5 false (by rw [ByteArray.size_append, ByteArray.size_append]; show _ + 1 + _ ≤ _; omega) (by omega) (by rw [app_list, app_list, HF.out, HBk.out]; simp only [List.append_assoc, List.singleton_append]; exact HG.out)).mono ?_
        rintro e w6 ⟨rfl, b6⟩
        have b6' := nthen b5' b6
        go_wp2_with fail
        refine (glob_is _ _ w6 true (by rw [ByteArray.size_append, ByteArray.size_append]; show _ + 1 + _ ≤ _; omega) (by rw [ByteArray.size_append, ByteArray.size_append]; omega) (by rw [app_list, app_list, app_list, app_list, HF.out, HBk.out, HS.out]; simp only [List.append_assoc, List.singleton_append]; exact Nm.glob_between _ _ _)).mono ?_
        rintro e w7 ⟨rfl, b7⟩
        have b7' := nthen b6' b7
        go_wp2_with fail
        refine (glob_is _ _ w7 true (by rw [ByteArray.size_append]; omega) (by rw [ByteArray.size_append]; omega) (Nm.glob_self _)).mono ?_
        rintro e w8 ⟨rfl, b8⟩
        have b8' := nthen b7' b8
        go_wp2_with fail
        go_ret
        exact ⟨rfl, b8'⟩
    · have e1 : ((S.extract 0 F.size).toList == F.toList) = false := by rw [q1, r1, beq_eq_false_iff_ne]; exact h1
      have HG : Hid (Nm.glob (Nm.pl z0 len0 ++ 42 :: Nm.pl z1 len1) S.data.toList = false) := by
        show _ = _
        rw [HGl.out, decide_eq_false h1]; simp
      clear q1 q2 r1 r2 h1 HGl
      go_wp2_with fail
      refine (nknown_any _).mono ?_
      rintro e w5 ⟨rfl, b5⟩
      have b5' := nthen HB4.out b5
      go_wp2_with fail
      refine (glob_is _ S w5 false (by rw [ByteArray.size_append, ByteArray.size_append]; show _ + 1 + _ ≤ _; omega) (by omega) (by rw [app_list, app_list, HF.out, HBk.out]; simp only [List.append_assoc, List.singleton_append]; exact HG.out)).mono ?_
      rintro e w6 ⟨rfl, b6⟩
      have b6' := nthen b5' b6
      go_wp2_with fail
      refine (glob_is _ _ w6 true (by rw [ByteArray.size_append, ByteArray.size_append]; show _ + 1 + _ ≤ _; omega) (by rw [ByteArray.size_append, ByteArray.size_append]; omega) (by rw [app_list, app_list, app_list, app_list, HF.out, HBk.out, HS.out]; simp only [List.append_assoc, List.singleton_append]; exact Nm.glob_between _ _ _)).mono ?_
      rintro e w7 ⟨rfl, b7⟩
      have b7' := nthen b6' b7
      go_wp2_with fail
      refine (glob_is _ _ w7 true (by rw [ByteArray.size_append]; omega) (by rw [ByteArray.size_append]; omega) (Nm.glob_self _)).mono ?_
      rintro e w8 ⟨rfl, b8⟩
      have b8' := nthen b7' b8
      go_wp2_with fail
      go_ret
      exact ⟨rfl, b8'⟩
  · have hle' : decide ((F.size : Int) + (B.size : Int) ≤ (S.size : Int)) = false := by simp; omega
    have HG : Hid (Nm.glob (Nm.pl z0 len0 ++ 42 :: Nm.pl z1 len1) S.data.toList = false) := by
      show _ = _
      rw [HGl.out, decide_eq_false hle]; simp
    clear HGl
    go_wp2_with fail
    refine (nknown_any _).mono ?_
    rintro e w5 ⟨rfl, b5⟩
    have b5' := nthen HB4.out b5
    go_wp2_with fail
    refine (glob_is _ S w5 false (by rw [ByteArray.size_append, ByteArray.size_append]; show _ + 1 + _ ≤ _; omega) (by omega) (by rw [app_list, app_list, HF.out, HBk.out]; simp only [List.append_assoc, List.singleton_append]; exact HG.out)).mono ?_
    rintro e w6 ⟨rfl, b6⟩
    have b6' := nthen b5' b6
    go_wp2_with fail
    refine (glob_is _ _ w6 true (by rw [ByteArray.size_append, ByteArray.size_append]; show _ + 1 + _ ≤ _; omega) (by rw [ByteArray.size_append, ByteArray.size_append]; omega) (by rw [app_list, app_list, app_list, app_list, HF.out, HBk.out, HS.out]; simp only [List.append_assoc, List.singleton_append]; exact Nm.glob_between _ _ _)).mono ?_
    rintro e w7 ⟨rfl, b7⟩
    have b7' := nthen b6' b7
    go_wp2_with fail
    refine (glob_is _ _ w7 true (by rw [ByteArray.size_append]; omega) (by rw [ByteArray.size_append]; omega) (Nm.glob_self _)).mono ?_
    rintro e w8 ⟨rfl, b8⟩
    have b8' := nthen b7' b8
    go_wp2_with fail
    go_ret
    exact ⟨rfl, b8'⟩
end Go.Proofs.Ytpfbiklbecdmiaa
