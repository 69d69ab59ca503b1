/-
  THE WALK of DiskNames (layer 9).
-/
import Derived.Test.YtmbjlnnoemenoaaKLasts0
import Derived.Lib.QuietBelow
set_option linter.unusedVariables false
set_option linter.unusedSimpArgs false
set_option maxRecDepth 100000
namespace Go.Proofs.Ytmbjlnnoemenoaa
open Go.RowKit Go.Maps Go.Sort Dk

/-- a disk with the files a and b -/
abbrev pAB (x : Bs) (lx : Nat) (y : Bs) (ly : Nat) : PD := ⟨1000, [([97], ⟨x, lx⟩), ([98], ⟨y, ly⟩)], false, 0, false⟩
theorem nm1 : append ⟨1000, [], false, 0, false⟩ [97] [] = (0, ⟨1000, [([97], ⟨[], 0⟩)], false, 0, false⟩) := by kernel_rfl
theorem nm2 {y : Bs} (h : y.length ≤ 1000) : append ⟨1000, [([97], ⟨[], 0⟩)], false, 0, false⟩ [98] y = (0, pAB [] 0 y 0) := by
  have h1 : ¬ 1000 < y.length := by omega
  simp [Dk.append, Dk.get, Dk.made, Dk.ins, Dk.upd, Dk.used, Dk.steps, Dk.gone, bytesBefore, h1]
theorem nm3 {x y : Bs} (h : x.length + y.length ≤ 1000) : append (pAB [] 0 y 0) [97] x = (0, pAB x 0 y 0) := by
  have h1 : ¬ 1000 < y.length + x.length := by omega
  simp [Dk.append, Dk.get, Dk.made, Dk.ins, Dk.upd, Dk.used, Dk.steps, Dk.gone, h1]
theorem nm4 {y : Bs} (h : y.length ≤ 1000) : append ⟨1000, [], false, 0, false⟩ [98] y = (0, ⟨1000, [([98], ⟨y, 0⟩)], false, 0, false⟩) := by
  have h1 : ¬ 1000 < y.length := by omega
  simp [Dk.append, Dk.get, Dk.made, Dk.ins, Dk.upd, Dk.used, Dk.steps, Dk.gone, h1]
theorem nm5 {x y : Bs} (h : x.length + y.length ≤ 1000) : append ⟨1000, [([98], ⟨y, 0⟩)], false, 0, false⟩ [97] x = (0, pAB x 0 y 0) := by
  have h1 : ¬ 1000 < y.length + x.length := by omega
  simp [Dk.append, Dk.get, Dk.made, Dk.ins, Dk.upd, Dk.used, Dk.steps, Dk.gone, bytesBefore, h1]
theorem nmC {x y : Bs} {k : Nat} : crash (pAB x 0 y 0) (k : Int) = pAB (x.take (min k x.length)) (min k x.length) (y.take (min (k - min k x.length) y.length)) (min (k - min k x.length) y.length) := by
  simp [Dk.crash, Dk.crashL, Dk.crashF]

set_option maxHeartbeats 4000000 in
theorem diskNames_walk (a0 : ByteArray) (a1 : ByteArray) (a2 : Int) (a3 : Bool) (w0 : a0.size ≤ 140737488355328) (w1 : a1.size ≤ 140737488355328) (w2 : (Lit.int .u8 a2).wf = true) (w : World) :
    Calls Try.prog 10 #[.string a0, .string a1, .int .u8 a2, .bool a3] w fun e w' => e = .returned (.bool true) ∧ Below w.heap.size w w' := by
  have hw : IntKind.i64.wrap ((a0.size : Int) + a1.size) = (a0.size : Int) + a1.size := by rw [IntKind.wrap_i64]; omega
  have b2 := byte_of_wf w2
  clear w0 w1 w2
  obtain ⟨z, rfl⟩ : ∃ z : Nat, a2 = z := ⟨a2.toNat, by omega⟩
  have hz : z < 256 := by omega
  clear b2
  have l0 := bs_len a0
  have l1 := bs_len a1
  by_cases hs : (200 : Int) < (a0.size : Int) + a1.size
  · clear hz l0 l1
    go_enter Try.func10, Try.ntmps10
    go_wp2_with fail
    refine (known_any w).mono ?_
    rintro e w3 ⟨rfl, b3⟩
    have B3 := hide b3
    clear b3
    go_wp2_with fail
    go_ret
    exact ⟨rfl, B3.out⟩
  · obtain ⟨k, hk⟩ : ∃ k : Nat, k = z % 40 := ⟨_, rfl⟩
    have hk40 : k < 40 := by have := Nat.mod_lt z (show 0 < 40 by omega); omega
    have hk2 : ((z : Int)).tmod 40 = k := by rw [Int.tmod_eq_emod_of_nonneg (by omega), hk]; push_cast; rfl
    obtain ⟨p, hp⟩ : ∃ p : Nat, p = min k a0.size := ⟨_, rfl⟩
    have hp2 : min (k : Int) (a0.size : Int) = p := by omega
    obtain ⟨q, hq⟩ : ∃ q : Nat, q = min (k - p) a1.size := ⟨_, rfl⟩
    have hq2 : min ((k : Int) - p) (a1.size : Int) = q := by omega
    have hwk : IntKind.i64.wrap ((k : Int) - p) = (k : Int) - p := by rw [IntKind.wrap_i64]; omega
    have hwpq : IntKind.i64.wrap ((p : Int) + q) = (p : Int) + q := by rw [IntKind.wrap_i64]; omega
    have e1 := nm2 (y := bs a1) (by omega)
    have e2 := nm3 (x := bs a0) (y := bs a1) (by omega)
    have e3 := nm4 (y := bs a1) (by omega)
    have e4 := nm5 (x := bs a0) (y := bs a1) (by omega)
    have e5 := nmC (x := bs a0) (y := bs a1) (k := k)
    rw [l0, l1, ← hp, ← hq] at e5
    have e6 : read (pAB ((bs a0).take p) p ((bs a1).take q) q) [97] = bs (a0.extract 0 p) := by rw [bs_front]; simp [Dk.read, Dk.get]
    have e7 : read (pAB ((bs a0).take p) p ((bs a1).take q) q) [98] = bs (a1.extract 0 q) := by rw [bs_front]; simp [Dk.read, Dk.get]
    have e8 : lasting (pAB ((bs a0).take p) p ((bs a1).take q) q) [98] = bs (a1.extract 0 q) := by rw [bs_front]; simp [Dk.lasting, Dk.get]; rw [List.take_take, Nat.min_self]
    have e9 : ((used (pAB ((bs a0).take p) p ((bs a1).take q) q).fs : Nat) : Int) = (p : Int) + q := by
      simp only [Dk.used, List.length_take, l0, l1]; omega
    have i1 : (p : Int) ≤ a0.size := by omega
    have i2 : p ≤ a0.size := by omega
    have i3 : (q : Int) ≤ a1.size := by omega
    have i4 : q ≤ a1.size := by omega
    have E1 := hide e1
    have E2 := hide e2
    have E3 := hide e3
    have E4 := hide e4
    have E5 := hide e5
    have E6 := hide e6
    have E7 := hide e7
    have E8 := hide e8
    have E9 := hide e9
    clear e1 e2 e3 e4 e5 e6 e7 e8 e9 l0 l1 hk hp hq
    cases a3 with
    | true =>
      go_enter Try.func10, Try.ntmps10
      go_wp2_with fail
      refine (new_st 1000 (Below.refl w.heap.size w) (Nat.le_refl _) (by decide)).mono ?_
      rintro e w1 ⟨d, rfl, h1⟩
      rw [new_1000] at h1
      have H1 := hide h1
      clear h1
      go_wp2_with fail
      refine (append_st H1.out ⟨#[97]⟩ ⟨#[]⟩ (by decide) nm1).mono ?_
      rintro e w2 ⟨rfl, h2⟩
      have H2 := hide h2
      clear h2 H1
      go_wp2_with fail
      refine (append_st H2.out ⟨#[98]⟩ a1 (by decide) E1.out).mono ?_
      rintro e w3 ⟨rfl, h3⟩
      have H3 := hide h3
      clear h3 H2
      go_wp2_with fail
      refine (append_st H3.out ⟨#[97]⟩ a0 (by decide) E2.out).mono ?_
      rintro e w4 ⟨rfl, h4⟩
      have H4 := hide h4
      clear h4 H3
      go_wp2_with fail
      refine (crash_st H4.out k (by omega) E5.out).mono ?_
      rintro e w5 ⟨rfl, h5⟩
      have H5 := hide h5
      clear h5 H4
      go_upto_region 14 with fail
      obtain ⟨SS, hIS, hB0, hSB, hBs⟩ := H5.out
      have HIS := hide hIS
      have HB0 := hide hB0
      have cK : ∀ d os, Calls Try.prog 13 #[] (grow (redrawn w5 d) os) fun e w'' => e = .returned (.bool true) ∧ ∃ p : Regrown, w'' = grow (redrawn w5 p.d) p.os := fun d os => Calls.regrown_of (known_any _)
      have cA : ∀ dd os, Calls Try.prog 20 #[ptr d, .string ⟨#[97]⟩] (grow (redrawn w5 dd) os) fun e w'' => e = .returned (.string (a0.extract 0 p)) ∧ ∃ p : Regrown, w'' = grow (redrawn w5 p.d) p.os := fun dd os => Calls.regrown_of (by have h := read_any _ d SS ⟨#[97]⟩ _ (HIS.out.below (below_regrown w5 dd os)) (by decide); rw [show read _ (bs ⟨#[97]⟩) = bs (a0.extract 0 p) from E6.out] at h; exact h)
      have cB : ∀ dd os, Calls Try.prog 20 #[ptr d, .string ⟨#[98]⟩] (grow (redrawn w5 dd) os) fun e w'' => e = .returned (.string (a1.extract 0 q)) ∧ ∃ p : Regrown, w'' = grow (redrawn w5 p.d) p.os := fun dd os => Calls.regrown_of (by have h := read_any _ d SS ⟨#[98]⟩ _ (HIS.out.below (below_regrown w5 dd os)) (by decide); rw [show read _ (bs ⟨#[98]⟩) = bs (a1.extract 0 q) from E7.out] at h; exact h)
      have cL : ∀ dd os, Calls Try.prog 21 #[ptr d, .string ⟨#[98]⟩] (grow (redrawn w5 dd) os) fun e w'' => e = .returned (.string (a1.extract 0 q)) ∧ ∃ p : Regrown, w'' = grow (redrawn w5 p.d) p.os := fun dd os => Calls.regrown_of (by have h := lasting_any _ d SS ⟨#[98]⟩ _ (HIS.out.below (below_regrown w5 dd os)) (by decide); rw [show lasting _ (bs ⟨#[98]⟩) = bs (a1.extract 0 q) from E8.out] at h; exact h)
      have cU : ∀ dd os, Calls Try.prog 24 #[ptr d] (grow (redrawn w5 dd) os) fun e w'' => e = .returned (.int .i64 ((p : Int) + q)) ∧ ∃ p : Regrown, w'' = grow (redrawn w5 p.d) p.os := fun dd os => Calls.regrown_of (by have h := used_any _ d SS _ (HIS.out.below (below_regrown w5 dd os)); rw [E9.out] at h; exact h)
      clear E1 E2 E3 E4 E5 hIS hB0 hSB
      refine wp_region_quiet_below (by kernel_rfl) (by kernel_rfl) ?_
      repeat (go_big_quiet_step (first | with_reducible exact cK _ _ | with_reducible exact cA _ _ | with_reducible exact cB _ _ | with_reducible exact cL _ _ | with_reducible exact cU _ _))
      refine wpQuiet_nil ?_
      intro _ hw'
      obtain ⟨⟨dq, osq⟩, rfl⟩ := hw'
      have b2 := below_regrown w5 dq osq
      generalize grow (redrawn w5 dq) osq = w20 at *
      clear cK cA cB cL cU
      go_wp2_with fail
      go_ret
      refine ⟨?_, HB0.out.trans (b2.mono hBs)⟩
      first | rfl | (simp; omega)
    | false =>
      go_enter Try.func10, Try.ntmps10
      go_wp2_with fail
      refine (new_st 1000 (Below.refl w.heap.size w) (Nat.le_refl _) (by decide)).mono ?_
      rintro e w1 ⟨d, rfl, h1⟩
      rw [new_1000] at h1
      have H1 := hide h1
      clear h1
      go_wp2_with fail
      refine (append_st H1.out ⟨#[98]⟩ a1 (by decide) E3.out).mono ?_
      rintro e w2 ⟨rfl, h2⟩
      have H2 := hide h2
      clear h2 H1
      go_wp2_with fail
      refine (append_st H2.out ⟨#[97]⟩ a0 (by decide) E4.out).mono ?_
      rintro e w3 ⟨rfl, h3⟩
      have H3 := hide h3
      clear h3 H2
      go_wp2_with fail
      refine (crash_st H3.out k (by omega) E5.out).mono ?_
      rintro e w4 ⟨rfl, h4⟩
      have H4 := hide h4
      clear h4 H3
      go_upto_region 14 with fail
      obtain ⟨SS, hIS, hB0, hSB, hBs⟩ := H4.out
      have HIS := hide hIS
      have HB0 := hide hB0
      have cK : ∀ d os, Calls Try.prog 13 #[] (grow (redrawn w4 d) os) fun e w'' => e = .returned (.bool true) ∧ ∃ p : Regrown, w'' = grow (redrawn w4 p.d) p.os := fun d os => Calls.regrown_of (known_any _)
      have cA : ∀ dd os, Calls Try.prog 20 #[ptr d, .string ⟨#[97]⟩] (grow (redrawn w4 dd) os) fun e w'' => e = .returned (.string (a0.extract 0 p)) ∧ ∃ p : Regrown, w'' = grow (redrawn w4 p.d) p.os := fun dd os => Calls.regrown_of (by have h := read_any _ d SS ⟨#[97]⟩ _ (HIS.out.below (below_regrown w4 dd os)) (by decide); rw [show read _ (bs ⟨#[97]⟩) = bs (a0.extract 0 p) from E6.out] at h; exact h)
      have cB : ∀ dd os, Calls Try.prog 20 #[ptr d, .string ⟨#[98]⟩] (grow (redrawn w4 dd) os) fun e w'' => e = .returned (.string (a1.extract 0 q)) ∧ ∃ p : Regrown, w'' = grow (redrawn w4 p.d) p.os := fun dd os => Calls.regrown_of (by have h := read_any _ d SS ⟨#[98]⟩ _ (HIS.out.below (below_regrown w4 dd os)) (by decide); rw [show read _ (bs ⟨#[98]⟩) = bs (a1.extract 0 q) from E7.out] at h; exact h)
      have cL : ∀ dd os, Calls Try.prog 21 #[ptr d, .string ⟨#[98]⟩] (grow (redrawn w4 dd) os) fun e w'' => e = .returned (.string (a1.extract 0 q)) ∧ ∃ p : Regrown, w'' = grow (redrawn w4 p.d) p.os := fun dd os => Calls.regrown_of (by have h := lasting_any _ d SS ⟨#[98]⟩ _ (HIS.out.below (below_regrown w4 dd os)) (by decide); rw [show lasting _ (bs ⟨#[98]⟩) = bs (a1.extract 0 q) from E8.out] at h; exact h)
      have cU : ∀ dd os, Calls Try.prog 24 #[ptr d] (grow (redrawn w4 dd) os) fun e w'' => e = .returned (.int .i64 ((p : Int) + q)) ∧ ∃ p : Regrown, w'' = grow (redrawn w4 p.d) p.os := fun dd os => Calls.regrown_of (by have h := used_any _ d SS _ (HIS.out.below (below_regrown w4 dd os)); rw [E9.out] at h; exact h)
      clear E1 E2 E3 E4 E5 hIS hB0 hSB
      refine wp_region_quiet_below (by kernel_rfl) (by kernel_rfl) ?_
      repeat (go_big_quiet_step (first | with_reducible exact cK _ _ | with_reducible exact cA _ _ | with_reducible exact cB _ _ | with_reducible exact cL _ _ | with_reducible exact cU _ _))
      refine wpQuiet_nil ?_
      intro _ hw'
      obtain ⟨⟨dq, osq⟩, rfl⟩ := hw'
      have b2 := below_regrown w4 dq osq
      generalize grow (redrawn w4 dq) osq = w20 at *
      clear cK cA cB cL cU
      go_wp2_with fail
      go_ret
      refine ⟨?_, HB0.out.trans (b2.mono hBs)⟩
      first | rfl | (simp; omega)
end Go.Proofs.Ytmbjlnnoemenoaa
