/-
  The law ValueNumbers.
-/
import Derived.Test.YtfdcekobdpfkgaaVKnown
set_option linter.unusedVariables false
set_option linter.unusedSimpArgs false
namespace Go.Proofs.Ytfdcekobdpfkgaa
open Go.RowKit

theorem V.right_kind (n k : Int) (hk0 : 0 ≤ k) (r : Bool) (hr : V.numOk (k % 6) n = r) : V.right ⟨k % 6, n, ⟨#[]⟩, [], []⟩ = r := by
  rw [V.right_bare _ _ (by omega) (by omega), hr]
theorem V.right_num (n : Int) (r : Bool) (hr : V.numOk 2 n = r) : V.right ⟨2, n, ⟨#[]⟩, [], []⟩ = r := by
  rw [V.right_bare _ _ (by omega) (by omega), hr]
theorem V.wt_bare (k n : Int) : V.wt ⟨k, n, ⟨#[]⟩, [], []⟩ = 1 := by rw [V.wt_mk]; rfl

set_option maxHeartbeats 4000000 in
theorem num_one0 (n k : Int) (hk0 : 0 ≤ k) (hk1 : k ≤ 255) (w : World) (h1 : (k % 6 == 1) = true) (h2 : (k % 6 == 2) = false) (hn : (n == 0) = true) (hA : -9007199254740991 ≤ n) (hB : n ≤ 9007199254740991) (hq : V.numOk (k % 6) n = true) (hr : V.numOk 2 n = true) :
    Calls Try.prog 9 #[.int .i64 n, .int .u8 k] w fun e w' => e = .returned (.bool true) ∧ Below w.heap.size w w' := by
  have HQ := hide hq
  have HR := hide hr
  clear hq hr
  go_enter Try.func9, Try.ntmps9
  go_wp2_with fail
  refine (known_any w).mono ?_
  rintro e w1 ⟨rfl, b1⟩
  go_wp2_with fail
  refine (right_any (is_plain _ (fun _ => True) (k % 6) n ⟨#[]⟩ (by decide)) (by rw [V.wt_bare]; decide) _ (V.right_kind n k hk0 _ HQ.out)).mono ?_
  rintro e w2 ⟨rfl, b2⟩
  go_wp2_with fail
  refine (num_any n w2).mono ?_
  rintro e w3 ⟨rfl, b3⟩
  go_wp2_with fail
  refine (num_any n w3).mono ?_
  rintro e w4 ⟨rfl, b4⟩
  go_wp2_with fail
  refine (right_any (is_plain _ (fun _ => True) 2 n ⟨#[]⟩ (by decide)) (by rw [V.wt_bare]; decide) _ (V.right_num n _ HR.out)).mono ?_
  rintro e w5 ⟨rfl, b5⟩
  go_wp2
  go_ret
  exact ⟨rfl, bthen b1 (bthen b2 (bthen b3 (bthen b4 b5)))⟩

set_option maxHeartbeats 4000000 in
theorem num_one (n k : Int) (hk0 : 0 ≤ k) (hk1 : k ≤ 255) (w : World) (h1 : (k % 6 == 1) = true) (h2 : (k % 6 == 2) = false) (hn : (n == 0) = false) (hA : -9007199254740991 ≤ n) (hq : V.numOk (k % 6) n = (n == 1)) (hr : V.numOk 2 n = decide (n ≤ 9007199254740991)) :
    Calls Try.prog 9 #[.int .i64 n, .int .u8 k] w fun e w' => e = .returned (.bool true) ∧ Below w.heap.size w w' := by
  have HQ := hide hq
  have HR := hide hr
  clear hq hr
  go_enter Try.func9, Try.ntmps9
  go_wp2_with fail
  refine (known_any w).mono ?_
  rintro e w1 ⟨rfl, b1⟩
  go_wp2_with fail
  refine (right_any (is_plain _ (fun _ => True) (k % 6) n ⟨#[]⟩ (by decide)) (by rw [V.wt_bare]; decide) _ (V.right_kind n k hk0 _ HQ.out)).mono ?_
  rintro e w2 ⟨rfl, b2⟩
  go_wp2_with fail
  refine (num_any n w2).mono ?_
  rintro e w3 ⟨rfl, b3⟩
  go_wp2_with fail
  refine (num_any n w3).mono ?_
  rintro e w4 ⟨rfl, b4⟩
  go_wp2_with fail
  refine (right_any (is_plain _ (fun _ => True) 2 n ⟨#[]⟩ (by decide)) (by rw [V.wt_bare]; decide) _ (V.right_num n _ HR.out)).mono ?_
  rintro e w5 ⟨rfl, b5⟩
  go_wp2
  go_ret
  exact ⟨rfl, bthen b1 (bthen b2 (bthen b3 (bthen b4 b5)))⟩

set_option maxHeartbeats 4000000 in
theorem num_one_ (n k : Int) (hk0 : 0 ≤ k) (hk1 : k ≤ 255) (w : World) (h1 : (k % 6 == 1) = true) (h2 : (k % 6 == 2) = false) (hn : (n == 0) = false) (hA : ¬ -9007199254740991 ≤ n) (hq : V.numOk (k % 6) n = (n == 1)) (hr : V.numOk 2 n = false) :
    Calls Try.prog 9 #[.int .i64 n, .int .u8 k] w fun e w' => e = .returned (.bool true) ∧ Below w.heap.size w w' := by
  have HQ := hide hq
  have HR := hide hr
  clear hq hr
  go_enter Try.func9, Try.ntmps9
  go_wp2_with fail
  refine (known_any w).mono ?_
  rintro e w1 ⟨rfl, b1⟩
  go_wp2_with fail
  refine (right_any (is_plain _ (fun _ => True) (k % 6) n ⟨#[]⟩ (by decide)) (by rw [V.wt_bare]; decide) _ (V.right_kind n k hk0 _ HQ.out)).mono ?_
  rintro e w2 ⟨rfl, b2⟩
  go_wp2_with fail
  refine (num_any n w2).mono ?_
  rintro e w3 ⟨rfl, b3⟩
  go_wp2_with fail
  refine (num_any n w3).mono ?_
  rintro e w4 ⟨rfl, b4⟩
  go_wp2_with fail
  refine (right_any (is_plain _ (fun _ => True) 2 n ⟨#[]⟩ (by decide)) (by rw [V.wt_bare]; decide) _ (V.right_num n _ HR.out)).mono ?_
  rintro e w5 ⟨rfl, b5⟩
  go_wp2
  go_ret
  exact ⟨rfl, bthen b1 (bthen b2 (bthen b3 (bthen b4 b5)))⟩

set_option maxHeartbeats 4000000 in
theorem num_two (n k : Int) (hk0 : 0 ≤ k) (hk1 : k ≤ 255) (w : World) (h1 : (k % 6 == 1) = false) (h2 : (k % 6 == 2) = true) (hA : -9007199254740991 ≤ n) (hq : V.numOk (k % 6) n = decide (n ≤ 9007199254740991)) (hr : V.numOk 2 n = decide (n ≤ 9007199254740991)) :
    Calls Try.prog 9 #[.int .i64 n, .int .u8 k] w fun e w' => e = .returned (.bool true) ∧ Below w.heap.size w w' := by
  have HQ := hide hq
  have HR := hide hr
  clear hq hr
  go_enter Try.func9, Try.ntmps9
  go_wp2_with fail
  refine (known_any w).mono ?_
  rintro e w1 ⟨rfl, b1⟩
  go_wp2_with fail
  refine (right_any (is_plain _ (fun _ => True) (k % 6) n ⟨#[]⟩ (by decide)) (by rw [V.wt_bare]; decide) _ (V.right_kind n k hk0 _ HQ.out)).mono ?_
  rintro e w2 ⟨rfl, b2⟩
  go_wp2_with fail
  refine (num_any n w2).mono ?_
  rintro e w3 ⟨rfl, b3⟩
  go_wp2_with fail
  refine (num_any n w3).mono ?_
  rintro e w4 ⟨rfl, b4⟩
  go_wp2_with fail
  refine (right_any (is_plain _ (fun _ => True) 2 n ⟨#[]⟩ (by decide)) (by rw [V.wt_bare]; decide) _ (V.right_num n _ HR.out)).mono ?_
  rintro e w5 ⟨rfl, b5⟩
  go_wp2
  go_ret
  exact ⟨rfl, bthen b1 (bthen b2 (bthen b3 (bthen b4 b5)))⟩

set_option maxHeartbeats 4000000 in
theorem num_two_ (n k : Int) (hk0 : 0 ≤ k) (hk1 : k ≤ 255) (w : World) (h1 : (k % 6 == 1) = false) (h2 : (k % 6 == 2) = true) (hA : ¬ -9007199254740991 ≤ n) (hq : V.numOk (k % 6) n = false) (hr : V.numOk 2 n = false) :
    Calls Try.prog 9 #[.int .i64 n, .int .u8 k] w fun e w' => e = .returned (.bool true) ∧ Below w.heap.size w w' := by
  have HQ := hide hq
  have HR := hide hr
  clear hq hr
  go_enter Try.func9, Try.ntmps9
  go_wp2_with fail
  refine (known_any w).mono ?_
  rintro e w1 ⟨rfl, b1⟩
  go_wp2_with fail
  refine (right_any (is_plain _ (fun _ => True) (k % 6) n ⟨#[]⟩ (by decide)) (by rw [V.wt_bare]; decide) _ (V.right_kind n k hk0 _ HQ.out)).mono ?_
  rintro e w2 ⟨rfl, b2⟩
  go_wp2_with fail
  refine (num_any n w2).mono ?_
  rintro e w3 ⟨rfl, b3⟩
  go_wp2_with fail
  refine (num_any n w3).mono ?_
  rintro e w4 ⟨rfl, b4⟩
  go_wp2_with fail
  refine (right_any (is_plain _ (fun _ => True) 2 n ⟨#[]⟩ (by decide)) (by rw [V.wt_bare]; decide) _ (V.right_num n _ HR.out)).mono ?_
  rintro e w5 ⟨rfl, b5⟩
  go_wp2
  go_ret
  exact ⟨rfl, bthen b1 (bthen b2 (bthen b3 (bthen b4 b5)))⟩

set_option maxHeartbeats 4000000 in
theorem num_else (n k : Int) (hk0 : 0 ≤ k) (hk1 : k ≤ 255) (w : World) (h1 : (k % 6 == 1) = false) (h2 : (k % 6 == 2) = false) (hA : -9007199254740991 ≤ n) (hq : V.numOk (k % 6) n = (n == 0)) (hr : V.numOk 2 n = decide (n ≤ 9007199254740991)) :
    Calls Try.prog 9 #[.int .i64 n, .int .u8 k] w fun e w' => e = .returned (.bool true) ∧ Below w.heap.size w w' := by
  have HQ := hide hq
  have HR := hide hr
  clear hq hr
  go_enter Try.func9, Try.ntmps9
  go_wp2_with fail
  refine (known_any w).mono ?_
  rintro e w1 ⟨rfl, b1⟩
  go_wp2_with fail
  refine (right_any (is_plain _ (fun _ => True) (k % 6) n ⟨#[]⟩ (by decide)) (by rw [V.wt_bare]; decide) _ (V.right_kind n k hk0 _ HQ.out)).mono ?_
  rintro e w2 ⟨rfl, b2⟩
  go_wp2_with fail
  refine (num_any n w2).mono ?_
  rintro e w3 ⟨rfl, b3⟩
  go_wp2_with fail
  refine (num_any n w3).mono ?_
  rintro e w4 ⟨rfl, b4⟩
  go_wp2_with fail
  refine (right_any (is_plain _ (fun _ => True) 2 n ⟨#[]⟩ (by decide)) (by rw [V.wt_bare]; decide) _ (V.right_num n _ HR.out)).mono ?_
  rintro e w5 ⟨rfl, b5⟩
  go_wp2
  go_ret
  exact ⟨rfl, bthen b1 (bthen b2 (bthen b3 (bthen b4 b5)))⟩

set_option maxHeartbeats 4000000 in
theorem num_else_ (n k : Int) (hk0 : 0 ≤ k) (hk1 : k ≤ 255) (w : World) (h1 : (k % 6 == 1) = false) (h2 : (k % 6 == 2) = false) (hA : ¬ -9007199254740991 ≤ n) (hq : V.numOk (k % 6) n = (n == 0)) (hr : V.numOk 2 n = false) :
    Calls Try.prog 9 #[.int .i64 n, .int .u8 k] w fun e w' => e = .returned (.bool true) ∧ Below w.heap.size w w' := by
  have HQ := hide hq
  have HR := hide hr
  clear hq hr
  go_enter Try.func9, Try.ntmps9
  go_wp2_with fail
  refine (known_any w).mono ?_
  rintro e w1 ⟨rfl, b1⟩
  go_wp2_with fail
  refine (right_any (is_plain _ (fun _ => True) (k % 6) n ⟨#[]⟩ (by decide)) (by rw [V.wt_bare]; decide) _ (V.right_kind n k hk0 _ HQ.out)).mono ?_
  rintro e w2 ⟨rfl, b2⟩
  go_wp2_with fail
  refine (num_any n w2).mono ?_
  rintro e w3 ⟨rfl, b3⟩
  go_wp2_with fail
  refine (num_any n w3).mono ?_
  rintro e w4 ⟨rfl, b4⟩
  go_wp2_with fail
  refine (right_any (is_plain _ (fun _ => True) 2 n ⟨#[]⟩ (by decide)) (by rw [V.wt_bare]; decide) _ (V.right_num n _ HR.out)).mono ?_
  rintro e w5 ⟨rfl, b5⟩
  go_wp2
  go_ret
  exact ⟨rfl, bthen b1 (bthen b2 (bthen b3 (bthen b4 b5)))⟩

theorem valueNumbers_walk (n k : Int) (w0 : (Lit.int .i64 n).wf = true) (w1 : (Lit.int .u8 k).wf = true) (w : World) :
    Calls Try.prog 9 #[.int .i64 n, .int .u8 k] w fun e w' => e = .returned (.bool true) ∧ Below w.heap.size w w' := by
  obtain ⟨hk0, hk1⟩ := wf_u8 w1
  clear w0 w1
  by_cases hA : -9007199254740991 ≤ n
  · have hr : V.numOk 2 n = decide (n ≤ 9007199254740991) := by simp [V.numOk, hA]
    by_cases h1 : k % 6 = 1
    · have h1' : (k % 6 == 1) = true := by simp [h1]
      have h2' : (k % 6 == 2) = false := by simp [h1]
      by_cases hn : n = 0
      · exact num_one0 n k hk0 hk1 w h1' h2' (by simp [hn]) hA (by omega) (by simp [V.numOk, h1, hn]) (by rw [hr]; simp; omega)
      · exact num_one n k hk0 hk1 w h1' h2' (by simp [hn]) hA (by simp [V.numOk, h1, hn]) hr
    · have h1' : (k % 6 == 1) = false := by simp [h1]
      by_cases h2 : k % 6 = 2
      · have h2' : (k % 6 == 2) = true := by simp [h2]
        exact num_two n k hk0 hk1 w h1' h2' hA (by rw [h2]; exact hr) hr
      · have h2' : (k % 6 == 2) = false := by simp [h2]
        exact num_else n k hk0 hk1 w h1' h2' hA (by simp [V.numOk, h1, h2]) hr
  · have hr : V.numOk 2 n = false := by simp [V.numOk, hA]
    by_cases h1 : k % 6 = 1
    · have h1' : (k % 6 == 1) = true := by simp [h1]
      have h2' : (k % 6 == 2) = false := by simp [h1]
      have hn : n ≠ 0 := by omega
      exact num_one_ n k hk0 hk1 w h1' h2' (by simp [hn]) hA (by simp [V.numOk, h1, hn]) hr
    · have h1' : (k % 6 == 1) = false := by simp [h1]
      by_cases h2 : k % 6 = 2
      · have h2' : (k % 6 == 2) = true := by simp [h2]
        exact num_two_ n k hk0 hk1 w h1' h2' hA (by rw [h2]; exact hr) hr
      · have h2' : (k % 6 == 2) = false := by simp [h2]
        exact num_else_ n k hk0 hk1 w h1' h2' hA (by simp [V.numOk, h1, h2]) hr

end Go.Proofs.Ytfdcekobdpfkgaa
