/-
  THE WALK of DiskNil (layer 9).
-/
import Derived.Test.YtmbjlnnoemenoaaKLaw
set_option linter.unusedVariables false
set_option linter.unusedSimpArgs false
set_option maxRecDepth 100000
namespace Go.Proofs.Ytmbjlnnoemenoaa
open Go.RowKit Go.Maps Dk

theorem append_nil (n b : ByteArray) (w : World) :
    Calls Try.prog 16 #[.pointer none, .string n, .string b] w fun e w' => e = .returned (.int .u16 21) ∧ w' = w := by
  go_enter Try.func16, Try.ntmps16
  go_wp2_with fail
  refine (dead_nil w).mono ?_
  rintro e w ⟨rfl, rfl⟩
  go_wp2_with fail
  go_ret
  exact ⟨rfl, rfl⟩
theorem standing_nil (n : ByteArray) (w : World) :
    Calls Try.prog 34 #[.pointer none, .string n] w fun e w' => e = .returned (.tuple #[.pointer none, .int .u16 21]) ∧ w' = w := by
  go_enter Try.func34, Try.ntmps34
  go_wp2_with fail
  refine (dead_nil w).mono ?_
  rintro e w ⟨rfl, rfl⟩
  go_wp2_with fail
  go_ret2
  exact ⟨rfl, rfl⟩
theorem sync_nil (n : ByteArray) (w : World) :
    Calls Try.prog 17 #[.pointer none, .string n] w fun e w' => e = .returned (.int .u16 21) ∧ w' = w := by
  go_enter Try.func17, Try.ntmps17
  go_wp2_with fail
  refine (standing_nil n w).mono ?_
  rintro e w ⟨rfl, rfl⟩
  go_wp2_with fail
  go_ret
  exact ⟨rfl, rfl⟩
theorem cut_nil (n : ByteArray) (m : Int) (w : World) :
    Calls Try.prog 23 #[.pointer none, .string n, .int .i64 m] w fun e w' => e = .returned (.int .u16 21) ∧ w' = w := by
  go_enter Try.func23, Try.ntmps23
  go_wp2_with fail
  refine (standing_nil n w).mono ?_
  rintro e w ⟨rfl, rfl⟩
  go_wp2_with fail
  go_ret
  exact ⟨rfl, rfl⟩
theorem read_nil (n : ByteArray) (w : World) :
    Calls Try.prog 20 #[.pointer none, .string n] w fun e w' => e = .returned (.string ⟨#[]⟩) ∧ w' = w := by
  go_enter Try.func20, Try.ntmps20
  go_wp2_with fail
  refine (standing_nil n w).mono ?_
  rintro e w ⟨rfl, rfl⟩
  go_wp2_with fail
  go_ret
  exact ⟨rfl, rfl⟩
theorem lasting_nil (n : ByteArray) (w : World) :
    Calls Try.prog 21 #[.pointer none, .string n] w fun e w' => e = .returned (.string ⟨#[]⟩) ∧ w' = w := by
  go_enter Try.func21, Try.ntmps21
  go_wp2_with fail
  go_ret
  exact ⟨rfl, rfl⟩
theorem used_nil (w : World) :
    Calls Try.prog 24 #[.pointer none] w fun e w' => e = .returned (.int .i64 0) ∧ w' = w := by
  go_enter Try.func24, Try.ntmps24
  go_wp2_with fail
  go_ret
  exact ⟨rfl, rfl⟩
theorem copy_nil (w : World) :
    Calls Try.prog 25 #[.pointer none] w fun e w' => e = .returned (.pointer none) ∧ w' = w := by
  go_enter Try.func25, Try.ntmps25
  go_wp2_with fail
  go_ret
  exact ⟨rfl, rfl⟩
theorem crash_nil (n : Int) (w : World) :
    Calls Try.prog 19 #[.pointer none, .int .i64 n] w fun e w' => e = .returned (.tuple #[]) ∧ w' = w := by
  go_enter Try.func19, Try.ntmps19
  go_wp2_with fail
  refine bodyPost_ret (results_none rfl _ _ _) rfl ?_
  exact ⟨rfl, rfl⟩

set_option maxHeartbeats 2000000 in
theorem diskNil_walk (a0 : ByteArray) (a1 : ByteArray) (a2 : Int) (w0 : a0.size ≤ 140737488355328) (w1 : a1.size ≤ 140737488355328) (w2 : (Lit.int .i64 a2).wf = true) (w : World) :
    Calls Try.prog 7 #[.string a0, .string a1, .int .i64 a2] w fun e w' => e = .returned (.bool true) ∧ Below w.heap.size w w' := by
  have hw : IntKind.i64.wrap ((a0.size : Int) + a1.size) = (a0.size : Int) + a1.size := by rw [IntKind.wrap_i64]; omega
  clear w0 w1 w2
  by_cases hs : (100 : Int) < (a0.size : Int) + a1.size
  · go_enter Try.func7, Try.ntmps7
    go_wp2_with fail
    refine (known_any w).mono ?_
    rintro e w3 ⟨rfl, b3⟩
    have B3 := hide b3
    clear b3
    go_wp2_with fail
    go_ret
    exact ⟨rfl, B3.out⟩
  · go_enter Try.func7, Try.ntmps7
    go_wp2_with (first
      | (go_at_call 18; refine (fuse_nil a2 _).mono ?_; rintro e w ⟨rfl, rfl⟩)
      | (go_at_call 19; refine (crash_nil a2 _).mono ?_; rintro e w ⟨rfl, rfl⟩))
    refine (known_any _).mono ?_
    rintro e w3 ⟨rfl, b3⟩
    have B3 := hide b3
    clear b3
    go_wp2_with (first
      | (go_at_call 16; refine (append_nil a0 a1 _).mono ?_; rintro e w ⟨rfl, rfl⟩)
      | (go_at_call 17; refine (sync_nil a0 _).mono ?_; rintro e w ⟨rfl, rfl⟩)
      | (go_at_call 23; refine (cut_nil a0 a2 _).mono ?_; rintro e w ⟨rfl, rfl⟩)
      | (go_at_call 22; refine (dead_nil _).mono ?_; rintro e w ⟨rfl, rfl⟩)
      | (go_at_call 20; refine (read_nil a0 _).mono ?_; rintro e w ⟨rfl, rfl⟩)
      | (go_at_call 21; refine (lasting_nil a0 _).mono ?_; rintro e w ⟨rfl, rfl⟩)
      | (go_at_call 24; refine (used_nil _).mono ?_; rintro e w ⟨rfl, rfl⟩)
      | (go_at_call 25; refine (copy_nil _).mono ?_; rintro e w ⟨rfl, rfl⟩))
    go_ret
    exact ⟨rfl, B3.out⟩
end Go.Proofs.Ytmbjlnnoemenoaa
