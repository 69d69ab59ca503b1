/-
  THE WALK of NamesMarks.
-/
import Derived.Test.YtpfbiklbecdmiaaNLawB
import Derived.Lib.QuietBelow
import Derived.BigRegion
import Derived.Deep.DeepCutAuto
import Derived.Deep.CutBlock
set_option linter.unusedVariables false
set_option linter.unusedSimpArgs false
namespace Go.Proofs.Ytpfbiklbecdmiaa
open Go.RowKit Go.Shelf Go.Sort

theorem glob_is (P S : ByteArray) (w : World) (b : Bool) (hP : P.size ≤ 140737488355328) (hS : S.size ≤ 140737488355328) (hb : Nm.glob P.data.toList S.data.toList = b) :
    Calls Try.prog 19 #[.string P, .string S] w fun e w' => e = .returned (.bool b) ∧ Below w.heap.size w w' := by
  refine (glob_any P S w hP hS).mono ?_
  rintro e w1 ⟨rfl, n, rfl⟩
  exact ⟨by rw [hb], below_drewN (Below.refl _ _) n⟩
theorem app_list (a b : ByteArray) : (a ++ b).data.toList = a.data.toList ++ b.data.toList := by
  rw [ByteArray.data_append]; simp
theorem nrun_from (s : ByteArray) (q : Nat) (h : q ≤ s.size) (w : World) : (Instr.sliceAt 9 (.string s) (some (.int .i64 (q : Int))) none none).run Try.prog w = .ok (.string (s.extract q s.size)) w := by
  have hu : (Try.prog.underlying 9) = some .string := Try.underlying9
  have h1 : (q : Int) ≤ s.size := by omega
  simp [Instr.sliceAt, Instr.slice, run_underlying hu, Instr.sliceBounds, run_sliceBound, h1]

set_option maxRecDepth 100000 in
set_option maxHeartbeats 1000000 in
theorem namesMarks_walk (a0 : Int) (a1 : ByteArray) (a2 : Int) (w0 : (Lit.int .u8 a0).wf = true) (w1 : a1.size ≤ maxLen) (w2 : (Lit.int .u8 a2).wf = true) (w : World) :
    Calls Try.prog 7 #[.int .u8 a0, .string a1, .int .u8 a2] w fun e w' => e = .returned (.bool true) ∧ Below w.heap.size w w' := by
  obtain ⟨x0, x1⟩ := wf_u8 w0
  obtain ⟨y0, y1⟩ := wf_u8 w2
  obtain ⟨n, rfl⟩ := Int.eq_ofNat_of_zero_le x0
  obtain ⟨t, rfl⟩ := Int.eq_ofNat_of_zero_le y0
  clear w0 w1 w2
  by_cases h60 : 60 < a1.size
  · go_enter Try.func7, Try.ntmps7
    go_wp2_with fail
    refine (nknown_any w).mono ?_
    rintro e w2 ⟨rfl, b2⟩
    go_wp2_with fail
    go_ret
    exact ⟨rfl, b2⟩
  · obtain ⟨m, hm⟩ : ∃ m, m = n % 40 := ⟨_, rfl⟩
    have hmi : (n : Int) % 40 = (m : Int) := by omega
    have hm40 : m < 40 := by omega
    have HM := nhide hm
    clear hm
    go_enter Try.func7, Try.ntmps7
    go_wp2_with fail
    go_loop [7, 8] (fun s i => ∃ (k : Nat) (P : ByteArray), k ≤ m ∧ i = .int .i64 k ∧ s = .string P ∧ Hid (P.data.toList = List.replicate k 63) ∧ P.size = k) (fun _ i => m - (intOf i).toNat)
    case atStart => exact ⟨0, ⟨#[]⟩, by omega, rfl, rfl, rfl, rfl⟩
    case round =>
      obtain ⟨k, P, hk, rfl, rfl, HP, hPs⟩ := hrel
      by_cases hlt : k < m
      · go_wp2_with fail
        go_round
        case rel =>
          refine ⟨k + 1, P ++ ⟨#[63]⟩, by omega, by go_num, rfl, ?_, ?_⟩
          · show _ = _
            rw [app_list, HP.out, List.replicate_succ']
          · rw [ByteArray.size_append, hPs]; rfl
        case measure => simp [intOf]; omega
      · have hkm : k = m := by omega
        subst hkm
        obtain ⟨q, hq⟩ : ∃ q, q = t % (k + 1) := ⟨_, rfl⟩
        have hq1 : q ≤ k := by rw [hq]; exact Nat.lt_succ_iff.1 (Nat.mod_lt _ (by omega))
        have hqi : (t : Int) % ((k : Int) + 1) = (q : Int) := by rw [hq]; simp
        have hsl : ∀ w, (Instr.sliceAt 9 (.string P) none (some (.int .i64 (q : Int))) none).run Try.prog w = .ok (.string (P.extract 0 q)) w := fun w => ncut_front P q (by omega) w
        have hsl2 : ∀ w, (Instr.sliceAt 9 (.string P) (some (.int .i64 (q : Int))) none none).run Try.prog w = .ok (.string (P.extract q P.size)) w := fun w => nrun_from P q (by omega) w
        have HQ := nhide hq
        clear hq
        have hqt : (t : Int).tmod ((k : Int) + 1) = (q : Int) := by rw [Int.tmod_eq_emod_of_nonneg y0]; exact hqi
        go_upto_region 9 with fail
        clear hqi hqt
        have hPl : ((P.extract 0 q ++ ⟨#[42]⟩) ++ P.extract q P.size).data.toList = List.replicate q 63 ++ 42 :: List.replicate (k - q) 63 := by
          rw [app_list, app_list, Lib.extract_data, Lib.extract_data, HP.out, hPs]
          simp [List.take_replicate, List.drop_replicate]
          omega
        have hl : a1.data.toList.length = a1.size := (Lib.size_eq a1).symm
        have cK : ∀ d os, Calls Try.prog 11 #[] (grow (redrawn w d) os) fun e w'' => e = .returned (.bool true) ∧ ∃ p : Regrown, w'' = grow (redrawn w p.d) p.os := fun d os => Calls.regrown_of (nknown_any _)
        have c1 : ∀ b, decide (a1.size = k) = b → ∀ d os, Calls Try.prog 19 #[.string P, .string a1] (grow (redrawn w d) os) fun e w'' => e = .returned (.bool b) ∧ ∃ p : Regrown, w'' = grow (redrawn w p.d) p.os := fun b hb d os => Calls.regrown_of (glob_is P a1 _ b (by omega) (by omega) (by rw [HP.out, Nm.glob_marks, hl]; exact hb))
        have c2 : ∀ b, decide (k ≤ a1.size) = b → ∀ d os, Calls Try.prog 19 #[.string ((P.extract 0 q ++ ⟨#[42]⟩) ++ P.extract q P.size), .string a1] (grow (redrawn w d) os) fun e w'' => e = .returned (.bool b) ∧ ∃ p : Regrown, w'' = grow (redrawn w p.d) p.os := fun b hb d os => Calls.regrown_of (glob_is _ a1 _ b (by rw [Lib.size_eq, hPl]; simp; omega) (by omega) (by rw [hPl, Nm.glob_marked, hl, show q + (k - q) = k by omega]; exact hb))
        have c3 : ∀ d os, Calls Try.prog 19 #[.string (a1 ++ ⟨#[42]⟩), .string a1] (grow (redrawn w d) os) fun e w'' => e = .returned (.bool true) ∧ ∃ p : Regrown, w'' = grow (redrawn w p.d) p.os := fun d os => Calls.regrown_of (glob_is _ a1 _ true (by rw [ByteArray.size_append]; show _ + 1 ≤ _; omega) (by omega) (by rw [app_list]; exact Nm.glob_self_star _))
        have c4 : ∀ b, decide (k ≤ a1.size) = b → ∀ d os, Calls Try.prog 19 #[.string (⟨#[42]⟩ ++ P), .string a1] (grow (redrawn w d) os) fun e w'' => e = .returned (.bool b) ∧ ∃ p : Regrown, w'' = grow (redrawn w p.d) p.os := fun b hb d os => Calls.regrown_of (glob_is _ a1 _ b (by rw [ByteArray.size_append]; show 1 + _ ≤ _; omega) (by omega) (by rw [app_list, HP.out]; exact (Nm.glob_marks_behind k a1.data.toList).trans (by rw [hl]; exact hb)))
        have hz1 : (P.extract 0 q).size ≤ 40 := by rw [ByteArray.size_extract]; omega
        have hz2 : (P.extract q P.size).size ≤ 40 := by rw [ByteArray.size_extract]; omega
        have hz3 : P.size ≤ 40 := by omega
        have HPs := nhide hPs
        clear hPl hl hmi hlt hk
        by_cases hA : a1.size = k
        · have e1 : ((a1.size : Int) == (P.size : Int)) = true := by rw [hA, hPs]; simp
          have e2 : decide ((P.size : Int) ≤ (a1.size : Int)) = true := by rw [hA, hPs]; simp
          have e3 : decide (P.size ≤ a1.size) = true := by rw [hA, hPs]; simp
          replace c1 := c1 true (by simp [hA])
          replace c2 := c2 true (by simp [hA])
          replace c4 := c4 true (by simp [hA])
          clear hA hPs
          refine wp_region_quiet_below (by kernel_rfl) (by kernel_rfl) ?_
          repeat (go_big_quiet_step (first | with_reducible exact cK _ _ | with_reducible exact c1 _ _ | with_reducible exact c2 _ _ | with_reducible exact c3 _ _ | with_reducible exact c4 _ _))
          refine wpQuiet_nil ?_
          intro _ hw'
          obtain ⟨⟨dq, osq⟩, rfl⟩ := hw'
          have b1 := below_regrown w dq osq
          generalize grow (redrawn w dq) osq = w1 at *
          go_wp2_with fail
          go_ret
          exact ⟨rfl, b1⟩
        · by_cases hB : k ≤ a1.size
          · have e1 : ((a1.size : Int) == (P.size : Int)) = false := by rw [beq_eq_false_iff_ne, hPs]; omega
            have e2 : decide ((P.size : Int) ≤ (a1.size : Int)) = true := by rw [hPs]; simp; omega
            have e3 : decide (P.size ≤ a1.size) = true := by rw [hPs]; simp; omega
            replace c1 := c1 false (by simp [hA])
            replace c2 := c2 true (by simp [hB])
            replace c4 := c4 true (by simp [hB])
            clear hA hPs hB
            refine wp_region_quiet_below (by kernel_rfl) (by kernel_rfl) ?_
            repeat (go_big_quiet_step (first | with_reducible exact cK _ _ | with_reducible exact c1 _ _ | with_reducible exact c2 _ _ | with_reducible exact c3 _ _ | with_reducible exact c4 _ _))
            refine wpQuiet_nil ?_
            intro _ hw'
            obtain ⟨⟨dq, osq⟩, rfl⟩ := hw'
            have b1 := below_regrown w dq osq
            generalize grow (redrawn w dq) osq = w1 at *
            go_wp2_with fail
            go_ret
            exact ⟨rfl, b1⟩
          · have e1 : ((a1.size : Int) == (P.size : Int)) = false := by rw [beq_eq_false_iff_ne, hPs]; omega
            have e2 : decide ((P.size : Int) ≤ (a1.size : Int)) = false := by rw [hPs]; simp; omega
            have e3 : decide (P.size ≤ a1.size) = false := by rw [hPs]; simp; omega
            replace c1 := c1 false (by simp [hA])
            replace c2 := c2 false (by simp [hB])
            replace c4 := c4 false (by simp [hB])
            clear hA hPs hB
            refine wp_region_quiet_below (by kernel_rfl) (by kernel_rfl) ?_
            repeat (go_big_quiet_step (first | with_reducible exact cK _ _ | with_reducible exact c1 _ _ | with_reducible exact c2 _ _ | with_reducible exact c3 _ _ | with_reducible exact c4 _ _))
            refine wpQuiet_nil ?_
            intro _ hw'
            obtain ⟨⟨dq, osq⟩, rfl⟩ := hw'
            have b1 := below_regrown w dq osq
            generalize grow (redrawn w dq) osq = w1 at *
            go_wp2_with fail
            go_ret
            exact ⟨rfl, b1⟩
end Go.Proofs.Ytpfbiklbecdmiaa
