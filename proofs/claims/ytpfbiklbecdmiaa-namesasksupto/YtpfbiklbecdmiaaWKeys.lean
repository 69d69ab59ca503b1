/-
  THE WALKS over the document's own answer for layer 2: keys.
-/
import Derived.Test.YtpfbiklbecdmiaaVWithE
import Derived.Test.YtpfbiklbecdmiaaL1R
import Derived.Deep.DeepCutAuto
import Derived.BigQuiet
import Derived.Lib.QuietBelow
set_option linter.unusedVariables false
set_option linter.unusedSimpArgs false
namespace Go.Proofs.Ytpfbiklbecdmiaa
open Go.RowKit Go.Sort

set_option maxHeartbeats 1000000 in
set_option maxRecDepth 100000 in
theorem refKeys_any {a1 : Option Addr} {n1 c1 : Nat} {ks : List ByteArray} {w : World} {S : Nat → Prop} (h : Strs w S (.slice a1 n1 c1) ks) (hl : ks.length ≤ 4294967296) (r : Bool) (hr : V.rises ks = r) :
    Calls Try.prog 48 #[.slice a1 n1 c1] w fun e w' => e = .returned (.bool r) ∧ Below w.heap.size w w' := by
  obtain ⟨rfl, hc1, hc2, hsz, hcell⟩ := h.out
  subst hr
  have HS := hide hsz
  have HC := hide hcell
  clear hsz hcell h hc1 hc2
  go_enter Try.func48, Try.ntmps48
  go_wp2_with fail
  go_loopg [3] ks.length (fun g i wr => ∃ j : Nat, j + g = ks.length ∧ i = .int .i64 j ∧ Hid (V.risesTo ks j = true) ∧ Below w.heap.size w wr)
  case atStart => exact ⟨0, by omega, rfl, rfl, Below.refl _ _⟩
  case round =>
    obtain ⟨j, hj, rfl, HR, bj⟩ := hrel
    by_cases hlt : j < ks.length
    · obtain ⟨b, off, K, rfl, hK, ej⟩ := str_at' HC.out bj hlt
      have zj := getD_size HS.out j
      rw [← hK.out] at zj
      cases hu : V.utf K with
      | false =>
        have hz : (0 : Int) ≤ Gm.checkZ K.data.toList := by simpa [V.utf] using hu
        obtain ⟨z, hz'⟩ : ∃ z, Gm.checkZ K.data.toList = z := ⟨_, rfl⟩
        rw [hz'] at hz
        have HU := hide hu
        have HZ := hide hz'
        clear hu hz'
        go_wp2_with fail
        have k1 := cell_regrown ej
        have hz2 : decide (0 ≤ z) = true := decide_eq_true hz
        have cQ : ∀ d os, Calls Try.prog 46 #[.string K] (grow (redrawn wr d) os) fun e w'' => e = .returned (.int .i64 z) ∧ ∃ p : Regrown, w'' = grow (redrawn wr p.d) p.os := fun d os => Calls.regrown_of (refCheck_is _ _ _ zj HZ.out)
        refine wp_region_quiet_below (by kernel_rfl) (by kernel_rfl) ?_
        repeat (go_big_quiet_step (exact cQ _ _))
        refine wpQuiet_nil ?_
        intro _ hw'
        obtain ⟨⟨dq, osq⟩, rfl⟩ := hw'
        have b1 := below_regrown wr dq osq
        generalize grow (redrawn wr dq) osq = w1 at *
        clear k1 cQ
        go_wp2
        go_ret
        refine ⟨?_, bthen bj b1⟩
        have q1 : V.keyOk ks j = false := by simp only [V.keyOk, ← hK.out, HU.out, Bool.false_and]
        have q2 : V.risesTo ks (j + 1) = false := by simp only [V.risesTo, q1, Bool.and_false]
        have q3 := V.risesTo_mono q2 (m := ks.length) (by omega)
        simp [V.rises, q3]
      | true =>
        have hz : Gm.checkZ K.data.toList < 0 := by simpa [V.utf] using hu
        obtain ⟨z, hz'⟩ : ∃ z, Gm.checkZ K.data.toList = z := ⟨_, rfl⟩
        rw [hz'] at hz
        have hz2 : decide (0 ≤ z) = false := decide_eq_false (by omega)
        have HU := hide hu
        have HZ := hide hz'
        have k1 := cell_regrown ej
        have cQ : ∀ d os, Calls Try.prog 46 #[.string K] (grow (redrawn wr d) os) fun e w'' => e = .returned (.int .i64 z) ∧ ∃ p : Regrown, w'' = grow (redrawn wr p.d) p.os := fun d os => Calls.regrown_of (refCheck_is _ _ _ zj HZ.out)
        clear hu hz' hz
        by_cases hj0 : j = 0
        · have HJ := hide hj0
          have hj1 : decide (0 < j) = false := decide_eq_false (by omega)
          clear hj0
          go_wp2_with fail
          refine wp_region_quiet_below (by kernel_rfl) (by kernel_rfl) ?_
          repeat (go_big_quiet_step (exact cQ _ _))
          refine wpQuiet_nil ?_
          intro _ hw'
          obtain ⟨⟨dq, osq⟩, rfl⟩ := hw'
          have b1 := below_regrown wr dq osq
          generalize grow (redrawn wr dq) osq = w1 at *
          clear k1 cQ
          go_wp2
          go_roundg (gk - 1)
          case measure => omega
          case rel =>
            refine ⟨j + 1, by omega, rfl, ?_, bthen bj b1⟩
            have q0 : (j == 0) = true := by rw [HJ.out]; rfl
            have hr := HR.out
            simp only [Hid, V.risesTo, V.keyOk, ← hK.out, HU.out, hr, q0, Bool.true_or, Bool.and_self]
        · obtain ⟨b', off', K', hb', hK', ei⟩ := str_at' HC.out bj (i := j - 1) (by omega)
          have zi := getD_size HS.out (j - 1)
          rw [← hK'.out] at zi
          simp only [Option.some.injEq, Addr.mk.injEq, and_true] at hb'
          obtain ⟨rfl, rfl⟩ := hb'
          have k2 := cell_regrown ei
          have hj1 : (0 : Int) < (j : Int) := by omega
          have hj2 : decide (0 < j) = true := decide_eq_true (by omega)
          cases hle : V.less K' K with
          | true =>
            have HL := hide hle
            clear hle
            have cL : ∀ d os, Calls Try.prog 60 #[.string K', .string K] (grow (redrawn wr d) os) fun e w'' => e = .returned (.bool true) ∧ ∃ p : Regrown, w'' = grow (redrawn wr p.d) p.os := fun d os => Calls.regrown_of (by have := refLess_any K' K (grow (redrawn wr d) os) zi zj; rwa [show Op.bytesLess K'.toList K.toList = true from HL.out] at this)
            go_wp2_with fail
            refine wp_region_quiet_below (by kernel_rfl) (by kernel_rfl) ?_
            repeat (go_big_quiet_step (first | exact cQ _ _ | exact cL _ _))
            refine wpQuiet_nil ?_
            intro _ hw'
            obtain ⟨⟨dq, osq⟩, rfl⟩ := hw'
            have b1 := below_regrown wr dq osq
            generalize grow (redrawn wr dq) osq = w1 at *
            clear k1 k2 cQ cL
            go_wp2
            go_roundg (gk - 1)
            case measure => omega
            case rel =>
              refine ⟨j + 1, by omega, rfl, ?_, bthen bj b1⟩
              have hr := HR.out
              simp only [Hid, V.risesTo, V.keyOk, ← hK.out, ← hK'.out, HU.out, HL.out, hr, Bool.or_true, Bool.and_true]
          | false =>
            have HL := hide hle
            clear hle
            have cL : ∀ d os, Calls Try.prog 60 #[.string K', .string K] (grow (redrawn wr d) os) fun e w'' => e = .returned (.bool false) ∧ ∃ p : Regrown, w'' = grow (redrawn wr p.d) p.os := fun d os => Calls.regrown_of (by have := refLess_any K' K (grow (redrawn wr d) os) zi zj; rwa [show Op.bytesLess K'.toList K.toList = false from HL.out] at this)
            go_wp2_with fail
            refine wp_region_quiet_below (by kernel_rfl) (by kernel_rfl) ?_
            repeat (go_big_quiet_step (first | exact cQ _ _ | exact cL _ _))
            refine wpQuiet_nil ?_
            intro _ hw'
            obtain ⟨⟨dq, osq⟩, rfl⟩ := hw'
            have b1 := below_regrown wr dq osq
            generalize grow (redrawn wr dq) osq = w1 at *
            clear k1 k2 cQ cL
            go_wp2
            go_ret
            refine ⟨?_, bthen bj b1⟩
            have q1 : V.keyOk ks j = false := by
              have : (j == 0) = false := by simp; omega
              simp only [V.keyOk, ← hK.out, ← hK'.out, HU.out, HL.out, this, Bool.or_self, Bool.and_false]
            have q2 : V.risesTo ks (j + 1) = false := by simp only [V.risesTo, q1, Bool.and_false]
            have q3 := V.risesTo_mono q2 (m := ks.length) (by omega)
            simp [V.rises, q3]
    · have hje : j = ks.length := by omega
      subst hje
      go_wp2
      go_ret
      refine ⟨?_, bj⟩
      have hr := HR.out
      simp [V.rises, hr]

end Go.Proofs.Ytpfbiklbecdmiaa
