/-
  What this claim takes of the earlier layers' texts: WKeys WRight VField VKnown WPart XDefs XKept XTaken CRefA.
-/
import Derived.Test.YtapcmbbhhclepaaGreatDoorQ14
import Derived.Deep.DeepCutAuto
import Derived.BigQuiet
import Derived.Lib.QuietBelow
import Derived.BigRegion
import Derived.Maps.Own
import Derived.Maps.OwnOps
import Derived.Maps.Views
import Derived.Lib.Builder
set_option linter.unusedVariables false
set_option linter.unusedSimpArgs false
set_option maxRecDepth 100000
namespace Go.Proofs.YtapcmbbhhclepaaGreatDoor
open Go.RowKit Go.Sort
set_option maxHeartbeats 1000000 in
set_option maxRecDepth 100000 in
theorem refKeys_any {a1 : Option Addr} {n1 c1 : Nat} {ks : List ByteArray} {w : World} {S : Nat → Prop} (h : Strs w S (.slice a1 n1 c1) ks) (hl : ks.length ≤ 4294967296) (r : Bool) (hr : V.rises ks = r) :
    Calls Tryz.prog 52 #[.slice a1 n1 c1] w fun e w' => e = .returned (.bool r) ∧ Below w.heap.size w w' := by
  obtain ⟨rfl, hc1, hc2, hsz, hcell⟩ := h.out
  subst hr
  have HS := hide hsz
  have HC := hide hcell
  clear hsz hcell h hc1 hc2
  go_enter Tryz.func52, Tryz.ntmps52
  go_wp2_with fail
  go_loopg [3] ks.length (fun g i wr => ∃ j : Nat, j + g = ks.length ∧ i = .int .i64 j ∧ Hid (V.risesTo ks j = true) ∧ Below w.heap.size w wr)
  case atStart => exact ⟨0, by omega, rfl, rfl, Below.refl _ _⟩
  case round =>
    obtain ⟨j, hj, rfl, HR, bj⟩ := hrel
    by_cases hlt : j < ks.length
    · obtain ⟨b, off, K, rfl, hK, ej⟩ := str_at' HC.out bj hlt
      have zj := getD_size HS.out j
      rw [← hK.out] at zj
      cases hu : V.utf K with
      | false =>
        have hz : (0 : Int) ≤ Gm.checkZ K.data.toList := by simpa [V.utf] using hu
        obtain ⟨z, hz'⟩ : ∃ z, Gm.checkZ K.data.toList = z := ⟨_, rfl⟩
        rw [hz'] at hz
        have HU := hide hu
        have HZ := hide hz'
        clear hu hz'
        go_wp2_with fail
        have k1 := cell_regrown ej
        have hz2 : decide (0 ≤ z) = true := decide_eq_true hz
        have cQ : ∀ d os, Calls Tryz.prog 51 #[.string K] (grow (redrawn wr d) os) fun e w'' => e = .returned (.int .i64 z) ∧ ∃ p : Regrown, w'' = grow (redrawn wr p.d) p.os := fun d os => Calls.regrown_of (refCheck_is _ _ _ zj HZ.out)
        refine wp_region_quiet_below (by kernel_rfl) (by kernel_rfl) ?_
        repeat (go_big_quiet_step (exact cQ _ _))
        refine wpQuiet_nil ?_
        intro _ hw'
        obtain ⟨⟨dq, osq⟩, rfl⟩ := hw'
        have b1 := below_regrown wr dq osq
        generalize grow (redrawn wr dq) osq = w1 at *
        clear k1 cQ
        go_wp2
        go_ret
        refine ⟨?_, bthen bj b1⟩
        have q1 : V.keyOk ks j = false := by simp only [V.keyOk, ← hK.out, HU.out, Bool.false_and]
        have q2 : V.risesTo ks (j + 1) = false := by simp only [V.risesTo, q1, Bool.and_false]
        have q3 := V.risesTo_mono q2 (m := ks.length) (by omega)
        simp [V.rises, q3]
      | true =>
        have hz : Gm.checkZ K.data.toList < 0 := by simpa [V.utf] using hu
        obtain ⟨z, hz'⟩ : ∃ z, Gm.checkZ K.data.toList = z := ⟨_, rfl⟩
        rw [hz'] at hz
        have hz2 : decide (0 ≤ z) = false := decide_eq_false (by omega)
        have HU := hide hu
        have HZ := hide hz'
        have k1 := cell_regrown ej
        have cQ : ∀ d os, Calls Tryz.prog 51 #[.string K] (grow (redrawn wr d) os) fun e w'' => e = .returned (.int .i64 z) ∧ ∃ p : Regrown, w'' = grow (redrawn wr p.d) p.os := fun d os => Calls.regrown_of (refCheck_is _ _ _ zj HZ.out)
        clear hu hz' hz
        by_cases hj0 : j = 0
        · have HJ := hide hj0
          have hj1 : decide (0 < j) = false := decide_eq_false (by omega)
          clear hj0
          go_wp2_with fail
          refine wp_region_quiet_below (by kernel_rfl) (by kernel_rfl) ?_
          repeat (go_big_quiet_step (exact cQ _ _))
          refine wpQuiet_nil ?_
          intro _ hw'
          obtain ⟨⟨dq, osq⟩, rfl⟩ := hw'
          have b1 := below_regrown wr dq osq
          generalize grow (redrawn wr dq) osq = w1 at *
          clear k1 cQ
          go_wp2
          go_roundg (gk - 1)
          case measure => omega
          case rel =>
            refine ⟨j + 1, by omega, rfl, ?_, bthen bj b1⟩
            have q0 : (j == 0) = true := by rw [HJ.out]; rfl
            have hr := HR.out
            simp only [Hid, V.risesTo, V.keyOk, ← hK.out, HU.out, hr, q0, Bool.true_or, Bool.and_self]
        · obtain ⟨b', off', K', hb', hK', ei⟩ := str_at' HC.out bj (i := j - 1) (by omega)
          have zi := getD_size HS.out (j - 1)
          rw [← hK'.out] at zi
          simp only [Option.some.injEq, Addr.mk.injEq, and_true] at hb'
          obtain ⟨rfl, rfl⟩ := hb'
          have k2 := cell_regrown ei
          have hj1 : (0 : Int) < (j : Int) := by omega
          have hj2 : decide (0 < j) = true := decide_eq_true (by omega)
          cases hle : V.less K' K with
          | true =>
            have HL := hide hle
            clear hle
            have cL : ∀ d os, Calls Tryz.prog 56 #[.string K', .string K] (grow (redrawn wr d) os) fun e w'' => e = .returned (.bool true) ∧ ∃ p : Regrown, w'' = grow (redrawn wr p.d) p.os := fun d os => Calls.regrown_of (by have := refLess_any K' K (grow (redrawn wr d) os) zi zj; rwa [show Op.bytesLess K'.toList K.toList = true from HL.out] at this)
            go_wp2_with fail
            refine wp_region_quiet_below (by kernel_rfl) (by kernel_rfl) ?_
            repeat (go_big_quiet_step (first | exact cQ _ _ | exact cL _ _))
            refine wpQuiet_nil ?_
            intro _ hw'
            obtain ⟨⟨dq, osq⟩, rfl⟩ := hw'
            have b1 := below_regrown wr dq osq
            generalize grow (redrawn wr dq) osq = w1 at *
            clear k1 k2 cQ cL
            go_wp2
            go_roundg (gk - 1)
            case measure => omega
            case rel =>
              refine ⟨j + 1, by omega, rfl, ?_, bthen bj b1⟩
              have hr := HR.out
              simp only [Hid, V.risesTo, V.keyOk, ← hK.out, ← hK'.out, HU.out, HL.out, hr, Bool.or_true, Bool.and_true]
          | false =>
            have HL := hide hle
            clear hle
            have cL : ∀ d os, Calls Tryz.prog 56 #[.string K', .string K] (grow (redrawn wr d) os) fun e w'' => e = .returned (.bool false) ∧ ∃ p : Regrown, w'' = grow (redrawn wr p.d) p.os := fun d os => Calls.regrown_of (by have := refLess_any K' K (grow (redrawn wr d) os) zi zj; rwa [show Op.bytesLess K'.toList K.toList = false from HL.out] at this)
            go_wp2_with fail
            refine wp_region_quiet_below (by kernel_rfl) (by kernel_rfl) ?_
            repeat (go_big_quiet_step (first | exact cQ _ _ | exact cL _ _))
            refine wpQuiet_nil ?_
            intro _ hw'
            obtain ⟨⟨dq, osq⟩, rfl⟩ := hw'
            have b1 := below_regrown wr dq osq
            generalize grow (redrawn wr dq) osq = w1 at *
            clear k1 k2 cQ cL
            go_wp2
            go_ret
            refine ⟨?_, bthen bj b1⟩
            have q1 : V.keyOk ks j = false := by
              have : (j == 0) = false := by simp; omega
              simp only [V.keyOk, ← hK.out, ← hK'.out, HU.out, HL.out, this, Bool.or_self, Bool.and_false]
            have q2 : V.risesTo ks (j + 1) = false := by simp only [V.risesTo, q1, Bool.and_false]
            have q3 := V.risesTo_mono q2 (m := ks.length) (by omega)
            simp [V.rises, q3]
    · have hje : j = ks.length := by omega
      subst hje
      go_wp2
      go_ret
      refine ⟨?_, bj⟩
      have hr := HR.out
      simp [V.rises, hr]
end Go.Proofs.YtapcmbbhhclepaaGreatDoor
namespace Go.Proofs.YtapcmbbhhclepaaGreatDoor
open Go.RowKit
theorem num_ok1 {k n : Int} (h0 : 0 ≤ k) (h5 : k ≤ 5) (hk : (k == 1) = true) (hn : ((n == 0) || (n == 1)) = true) : (!(V.kindOk k && V.numOk k n)) = false := by
  have e : k = 1 := by simpa using hk
  subst e
  simp [V.kindOk, V.numOk, hn]
theorem num_ok0 {k n : Int} (h0 : 0 ≤ k) (h5 : k ≤ 5) (hn : (n != 0) = false) : (!(V.kindOk k && V.numOk k n)) = false := by
  have e : n = 0 := by simpa using hn
  subst e
  simp [V.kindOk, h0, h5, V.numOk]
theorem num_bad0 {k n : Int} (hn : (n != 0) = true) (h1 : (k != 1) = true) (h2 : (k != 2) = true) : (!(V.kindOk k && V.numOk k n)) = true := by
  have e : n ≠ 0 := by simpa using hn
  have e1 : k ≠ 1 := by simpa using h1
  have e2 : k ≠ 2 := by simpa using h2
  simp [V.numOk, e, e1, e2]
theorem num_ok2 {k n : Int} (h0 : 0 ≤ k) (h5 : k ≤ 5) (h2 : (k != 2) = false) (hA : -9007199254740991 ≤ n) (hB : n ≤ 9007199254740991) : (!(V.kindOk k && V.numOk k n)) = false := by
  have e2 : k = 2 := by simpa using h2
  subst e2
  simp [V.kindOk, V.numOk, hA, hB]
theorem num_bad2 {k n : Int} (h2 : (k != 2) = false) (h : n < -9007199254740991 ∨ 9007199254740991 < n) : (!(V.kindOk k && V.numOk k n)) = true := by
  have e2 : k = 2 := by simpa using h2
  subst e2
  simp [V.kindOk, V.numOk]
  omega
theorem num_bad1 {k n : Int} (hn : (n != 0) = true) (h1 : (k == 1) = true) (h2 : (n != 1) = true) : (!(V.kindOk k && V.numOk k n)) = true := by
  have e : n ≠ 0 := by simpa using hn
  have e1 : k = 1 := by simpa using h1
  have e2 : n ≠ 1 := by simpa using h2
  simp [V.numOk, e, e1, e2]
theorem ors_false {k n : Int} (h0 : 0 ≤ k) (h5 : k ≤ 5) (hA : -9007199254740991 ≤ n) (hB : n ≤ 9007199254740991) : (decide (k < 0) || decide (5 < k) || decide (n < -9007199254740991) || decide (9007199254740991 < n)) = false := by
  rw [decide_eq_false (by omega), decide_eq_false (by omega), decide_eq_false (by omega), decide_eq_false (by omega)]; rfl
theorem textOk3 {k : Int} {t : ByteArray} (hk : k = 3) (ht : t.toList.isEmpty = false) : V.textOk k t = V.utf t := by simp [V.textOk, hk, ht]
theorem num_badk {k n : Int} (h : k < 0 ∨ 5 < k) : (!(V.kindOk k && V.numOk k n)) = true := by
  have e : V.kindOk k = false := by simp [V.kindOk]; omega
  simp [e]
set_option maxHeartbeats 8000000 in
set_option maxRecDepth 100000 in
theorem refRight_any (d : Nat) : ∀ (v : Value) (x : V) (w : World) (S : Nat → Prop), IsD w S d v x → V.wt x ≤ 4294967296 →
    Calls Tryz.prog 22 #[v] w fun e w' => e = .returned (.bool (V.right x)) ∧ Below w.heap.size w w' := by
  induction d with
  | zero => intro v x w S h; exact h.elim
  | succ d ih =>
    intro v x w S h hwt
    obtain ⟨kv, a, cap, c, rfl, h2, h3, h4, h5, h6, h7⟩ := h
    obtain ⟨k, n, t, ks, l⟩ := x
    simp only at *
    rw [V.wt_mk] at hwt
    have hlen : l.length ≤ 4294967296 := Nat.le_trans (V.wtL_len l) (by omega)
    have hlenk : ks.length ≤ 4294967296 := Nat.le_trans (V.wtK_len ks) (by omega)
    have HW := hide hwt
    clear hwt
    obtain ⟨a1, c1, rfl, _⟩ := id h2
    rw [V.right_mk]
    go_enter Tryz.func22, Tryz.ntmps22
    go_upto_region 1 with fail
    go_cut [51] (fun s wc => s = .bool (!(V.kindOk k && V.numOk k n)) ∧ wc = w.alloc (.cells #[.int .i64 k, .int .i64 n, .string t, .slice a1 ks.length c1, .slice a l.length cap] 27))
    case first =>
      by_cases c1' : 0 ≤ k
      · by_cases c2' : k ≤ 5
        · cases b1 : (n != 0) with
          | false =>
            have hn : n = 0 := by simpa using b1
            have hA : -9007199254740991 ≤ n := by omega
            have hB : n ≤ 9007199254740991 := by omega
            have HN := hide hn
            clear hn
            cases b4 : (k == 1) with
            | true =>
              go_wp2_with fail
              go_meet
              exact ⟨congrArg Value.bool ((ors_false c1' c2' hA hB).trans (num_ok1 c1' c2' b4 (by rw [HN.out]; rfl)).symm), rfl⟩
            | false =>
              go_wp2_with fail
              go_meet
              exact ⟨congrArg Value.bool ((ors_false c1' c2' hA hB).trans (num_ok0 c1' c2' b1).symm), rfl⟩
          | true =>
            cases b2 : (k != 1) with
            | true =>
              have b4 : (k == 1) = false := by simpa using b2
              cases b3 : (k != 2) with
              | true =>
                go_wp2_with fail
                go_meet
                exact ⟨congrArg Value.bool (num_bad0 b1 b2 b3).symm, rfl⟩
              | false =>
                by_cases hA : -9007199254740991 ≤ n
                · by_cases hB : n ≤ 9007199254740991
                  · go_wp2_with fail
                    go_meet
                    exact ⟨congrArg Value.bool ((ors_false c1' c2' hA hB).trans (num_ok2 c1' c2' b3 hA hB).symm), rfl⟩
                  · go_wp2_with fail
                    go_meet
                    exact ⟨congrArg Value.bool (num_bad2 b3 (.inr (by omega))).symm, rfl⟩
                · go_wp2_with fail
                  go_meet
                  exact ⟨congrArg Value.bool (num_bad2 b3 (.inl (by omega))).symm, rfl⟩
            | false =>
              have b4 : (k == 1) = true := by simpa using b2
              cases b5 : (n != 1) with
              | true =>
                go_wp2_with fail
                go_meet
                exact ⟨congrArg Value.bool (num_bad1 b1 b4 b5).symm, rfl⟩
              | false =>
                have hn : n = 1 := by simpa using b5
                have hA : -9007199254740991 ≤ n := by omega
                have hB : n ≤ 9007199254740991 := by omega
                have HN := hide hn
                clear hn
                go_wp2_with fail
                go_meet
                exact ⟨congrArg Value.bool ((ors_false c1' c2' hA hB).trans (num_ok1 c1' c2' b4 (by rw [HN.out]; rfl)).symm), rfl⟩
        · go_wp2_with fail
          go_meet
          exact ⟨congrArg Value.bool (num_badk (.inr (by omega))).symm, rfl⟩
      · go_wp2_with fail
        go_meet
        exact ⟨congrArg Value.bool (num_badk (.inl (by omega))).symm, rfl⟩
    case rest =>
      obtain ⟨rfl, rfl⟩ := hcut
      cases hkn : (V.kindOk k && V.numOk k n) with
      | false =>
        go_wp2_with fail
        go_ret
        refine ⟨ret_bool ?_, below_alloc _ _⟩
        rw [hkn]
        simp only [Bool.false_and]
      | true =>
        have HKN := hide hkn
        clear hkn
        have hbx := box5_new w (.int .i64 k) (.int .i64 n) (.string t) (.slice a1 ks.length c1) (.slice a l.length cap) 27
        go_upto_region 3 with fail
        go_cut [65] (fun s wc => s = .bool (!(V.textOk k t)) ∧ Below w.heap.size w wc ∧ Box5 wc w.heap.size (.int .i64 k) (.int .i64 n) (.string t) (.slice a1 ks.length c1) (.slice a l.length cap))
        case first =>
          cases hte : t.toList.isEmpty with
          | true =>
            go_wp2_with fail
            go_meet
            exact ⟨by simp [V.textOk, hte], below_alloc _ _, hbx⟩
          | false =>
            cases b3 : (k != 3) with
            | true =>
              go_wp2_with fail
              go_meet
              have : k ≠ 3 := by simpa using b3
              exact ⟨by simp [V.textOk, hte, this], below_alloc _ _, hbx⟩
            | false =>
              go_wp2_with fail
              refine (refCheck_is _ _ _ h5 rfl).mono ?_
              rintro e w1 ⟨rfl, b1⟩
              go_wp2_with fail
              go_meet
              have : k = 3 := by simpa using b3
              exact ⟨congrArg Value.bool (by rw [textOk3 this hte]; rw [Bool.eq_iff_iff]; simp [V.utf]), bthen (below_alloc _ _) b1, hbx.keep b1⟩
        case rest =>
          clear hbx
          obtain ⟨rfl, bc, hbx⟩ := hcut
          cases htx : V.textOk k t with
          | false =>
            go_wp2_with fail
            go_ret
            refine ⟨ret_bool ?_, bc⟩
            rw [htx, Bool.and_false, Bool.false_and, Bool.false_and, Bool.false_and]
          | true =>
            have HTX := hide htx
            clear htx
            have bcw := bc
            obtain ⟨x0, x1, x2, x3, x4⟩ := id hbx
            go_upto_region 5 with fail
            go_cut [94] (fun s wc => s = .bool (!(V.keysOk k ks l.length)) ∧ Below w.heap.size w wc ∧ Box5 wc w.heap.size (.int .i64 k) (.int .i64 n) (.string t) (.slice a1 ks.length c1) (.slice a l.length cap))
            case first =>
              cases b5 : (k != 5) with
              | true =>
                have b5' : (k == 5) = false := by simpa using b5
                have hk5 : k ≠ 5 := by simpa using b5
                have HK5 := hide hk5
                clear hk5
                by_cases hke : 0 < ks.length
                · have hke' : (0 : Int) < (ks.length : Int) := by omega
                  go_wp2_with fail
                  go_meet
                  refine ⟨congrArg Value.bool ?_, bc, hbx⟩
                  unfold V.keysOk
                  rw [if_neg HK5.out]
                  cases ks with
                  | nil => simp at hke
                  | cons _ _ => rfl
                · have hke' : decide (0 < ks.length) = false := decide_eq_false hke
                  go_wp2_with fail
                  go_meet
                  refine ⟨congrArg Value.bool ?_, bc, hbx⟩
                  unfold V.keysOk
                  rw [if_neg HK5.out]
                  cases ks with
                  | nil => rfl
                  | cons _ _ => simp at hke
              | false =>
                have b5' : (k == 5) = true := by simpa using b5
                have hk5 : k = 5 := by simpa using b5
                have HK5 := hide hk5
                clear hk5
                by_cases hle : ks.length = l.length
                · have HLE := hide hle
                  have hne : ((ks.length : Int) != (l.length : Int)) = false := by simp; omega
                  clear hle
                  go_wp2_with fail
                  refine (refKeys_any (h2.below bc) hlenk _ rfl).mono ?_
                  rintro e w1 ⟨rfl, b1⟩
                  go_wp2_with fail
                  go_meet
                  refine ⟨congrArg Value.bool ?_, bthen bc b1, hbx.keep b1⟩
                  unfold V.keysOk
                  rw [if_pos HK5.out, decide_eq_true HLE.out, Bool.and_true]
                · have HLE := hide hle
                  have hne : ((ks.length : Int) != (l.length : Int)) = true := by simp; omega
                  clear hle
                  go_wp2_with fail
                  go_meet
                  refine ⟨congrArg Value.bool ?_, bc, hbx⟩
                  unfold V.keysOk
                  rw [if_pos HK5.out, decide_eq_false HLE.out, Bool.and_false]
                  rfl
            case rest =>
              clear hbx bc x0 x1 x2 x3 x4
              obtain ⟨rfl, bc, hbx⟩ := hcut
              cases hky : V.keysOk k ks l.length with
              | false =>
                go_wp2_with fail
                go_ret
                refine ⟨ret_bool ?_, bc⟩
                rw [hky, Bool.and_false, Bool.false_and, Bool.false_and]
              | true =>
                have HKY := hide hky
                clear hky
                obtain ⟨x0, x1, x2, x3, x4⟩ := id hbx
                go_upto_region 7 with fail
                go_cut [103] (fun s wc => s = .bool (decide (k < 4) && decide (0 < l.length)) ∧ Below w.heap.size w wc ∧ Box5 wc w.heap.size (.int .i64 k) (.int .i64 n) (.string t) (.slice a1 ks.length c1) (.slice a l.length cap))
                case first =>
                  by_cases hk4 : k < 4
                  · go_wp2_with fail
                    go_meet
                    exact ⟨congrArg Value.bool (by rw [decide_eq_true hk4, Bool.true_and]), bc, hbx⟩
                  · go_wp2_with fail
                    go_meet
                    exact ⟨congrArg Value.bool (by rw [decide_eq_false (by omega), Bool.false_and]), bc, hbx⟩
                case rest =>
                  clear hbx bc x0 x1 x2 x3 x4
                  obtain ⟨rfl, bc, hbx⟩ := hcut
                  cases hk4 : (decide (k < 4) && decide (0 < l.length)) with
                  | true =>
                    go_wp2_with fail
                    go_ret
                    refine ⟨ret_bool ?_, bc⟩
                    simp only [Bool.and_eq_true, decide_eq_true_eq] at hk4
                    have e1 : (k == 4) = false := by rw [beq_eq_false_iff_ne]; omega
                    have e2 : (k == 5) = false := by rw [beq_eq_false_iff_ne]; omega
                    have e3 : l.isEmpty = false := by
                      cases l with
                      | nil => simp at hk4
                      | cons _ _ => rfl
                    rw [e1, e2, e3, Bool.or_false, Bool.or_false, Bool.and_false]
                  | false =>
                    have hlast : V.kindOk k = true → ((k == 4) || (k == 5) || l.isEmpty) = true := by
                      intro hko
                      simp only [V.kindOk, Bool.and_eq_true, decide_eq_true_eq] at hko
                      by_cases h4' : k < 4
                      · rw [decide_eq_true h4', Bool.true_and] at hk4
                        have : l = [] := List.eq_nil_of_length_eq_zero (by have := of_decide_eq_false hk4; omega)
                        subst this
                        simp
                      · have : k = 4 ∨ k = 5 := by omega
                        rcases this with rfl | rfl <;> simp
                    have HLA := hide hlast
                    have HK4 := hide hk4
                    clear hlast
                    go_wp2_with fail
                    clear hk4
                    go_loopg [3] l.length (fun g i wr => ∃ j : Nat, j + g = l.length ∧ i = .int .i64 j ∧ Hid ((l.take j).all V.right = true) ∧ Below w.heap.size w wr ∧ Box5 wr w.heap.size (.int .i64 k) (.int .i64 n) (.string t) (.slice a1 ks.length c1) (.slice a l.length cap))
                    case atStart => exact ⟨0, by omega, rfl, rfl, bc, hbx⟩
                    case round =>
                      clear hbx bc
                      obtain ⟨j, hj, rfl, HA, bj, hbox⟩ := hrel
                      obtain ⟨x0, x1, x2, x3, x4⟩ := id hbox
                      by_cases hlt : j < l.length
                      · obtain ⟨b, off, k', n', t', a1', n1', c1', a2', n2', c2', rfl, hel, e0, e1, e2, e3, e4⟩ := elem_open h6 bj hlt (h7 j hlt)
                        have hwx := V.wtL_mem (List.getElem_mem hlt)
                        have H1 := hide hwx
                        clear hwx
                        cases hrx : V.right l[j] with
                        | true =>
                          have HX := hide hrx
                          clear hrx
                          go_wp2_with fail
                          refine (ih _ _ _ S hel (Nat.le_trans H1.out (by have := HW.out; omega))).mono ?_
                          rintro e w2 ⟨rfl, b2⟩
                          rw [HX.out]
                          have hbox' := hbox.keep b2
                          go_wp2
                          go_roundg (gk - 1)
                          case measure => omega
                          case rel =>
                            refine ⟨j + 1, by omega, rfl, ?_, bthen bj b2, hbox'⟩
                            unfold Hid
                            rw [List.take_succ_eq_append_getElem hlt, List.all_append, HA.out]
                            simp [HX.out]
                        | false =>
                          have HX := hide hrx
                          clear hrx
                          go_wp2_with fail
                          refine (ih _ _ _ S hel (Nat.le_trans H1.out (by have := HW.out; omega))).mono ?_
                          rintro e w2 ⟨rfl, b2⟩
                          rw [HX.out]
                          go_wp2
                          go_ret
                          refine ⟨ret_bool ?_, bthen bj b2⟩
                          have q : l.all V.right = false := by
                            rw [List.all_eq_false]
                            exact ⟨l[j], List.getElem_mem hlt, by simp [HX.out]⟩
                          rw [q, Bool.and_false, Bool.false_and]
                      · have hje : j = l.length := by omega
                        subst hje
                        have HA' : l.all V.right = true := by have := HA.out; rwa [List.take_length] at this
                        have HAA := hide HA'
                        clear HA'
                        go_wp2
                        go_ret
                        refine ⟨ret_bool ?_, bj⟩
                        have hkn := HKN.out
                        have hko : V.kindOk k = true := by
                          rw [Bool.and_eq_true] at hkn; exact hkn.1
                        rw [hkn, HTX.out, HKY.out, HAA.out, HLA.out hko]
                        rfl
theorem refRight_is {v : Value} {x : V} {w : World} {S : Nat → Prop} (h : Is w S v x) (hwt : V.wt x ≤ 4294967296) (r : Bool) (hn : V.right x = r) :
    Calls Tryz.prog 22 #[v] w fun e w' => e = .returned (.bool r) ∧ Below w.heap.size w w' := by
  subst hn
  obtain ⟨d, h⟩ := h
  exact refRight_any d v x w S h hwt
end Go.Proofs.YtapcmbbhhclepaaGreatDoor
namespace Go.Proofs.YtapcmbbhhclepaaGreatDoor
open Go.RowKit
@[go_sem] theorem field0 (W : World) (k : Int) (c1 c2 c3 c4 : Value) : (Instr.field 27 (.agg #[.int .i64 k, c1, c2, c3, c4]) 0).run Tryz.prog W = .ok (.int .i64 k) W := by
  simp [Instr.field, run_underlying Tryz.underlying27, part, asAgg, go_sem]
@[go_sem] theorem field1 (W : World) (k : Int) (c0 c2 c3 c4 : Value) : (Instr.field 27 (.agg #[c0, .int .i64 k, c2, c3, c4]) 1).run Tryz.prog W = .ok (.int .i64 k) W := by
  simp [Instr.field, run_underlying Tryz.underlying27, part, asAgg, go_sem]
@[go_sem] theorem field2 (W : World) (s : ByteArray) (c0 c1 c3 c4 : Value) : (Instr.field 27 (.agg #[c0, c1, .string s, c3, c4]) 2).run Tryz.prog W = .ok (.string s) W := by
  simp [Instr.field, run_underlying Tryz.underlying27, part, asAgg, go_sem]
@[go_sem] theorem field3 (W : World) (a : Option Addr) (n c : Nat) (c0 c1 c2 c4 : Value) : (Instr.field 27 (.agg #[c0, c1, c2, .slice a n c, c4]) 3).run Tryz.prog W = .ok (.slice a n c) W := by
  simp [Instr.field, run_underlying Tryz.underlying27, part, asAgg, go_sem]
@[go_sem] theorem field4 (W : World) (a : Option Addr) (n c : Nat) (c0 c1 c2 c3 : Value) : (Instr.field 27 (.agg #[c0, c1, c2, c3, .slice a n c]) 4).run Tryz.prog W = .ok (.slice a n c) W := by
  simp [Instr.field, run_underlying Tryz.underlying27, part, asAgg, go_sem]
end Go.Proofs.YtapcmbbhhclepaaGreatDoor
namespace Go.Proofs.YtapcmbbhhclepaaGreatDoor
open Go.RowKit
theorem Is.parts {w : World} {S : Nat → Prop} {k n : Int} {t : ByteArray} {a1 : Option Addr} {n1 c1 : Nat} {a2 : Option Addr} {n2 c2 : Nat} {x : V} (h : Is w S (.agg #[.int .i64 k, .int .i64 n, .string t, .slice a1 n1 c1, .slice a2 n2 c2]) x) :
    k = x.kind ∧ n = x.num ∧ t = x.text ∧ n1 = x.keys.length ∧ n2 = x.list.length := by
  obtain ⟨kv, lv, q, ⟨_, _, rfl, _⟩, ⟨_, _, _, rfl, _⟩, _⟩ := h.open
  simp only [Value.agg.injEq, Array.mk.injEq, List.cons.injEq, and_true, Value.int.injEq, Value.string.injEq, Value.slice.injEq, true_and] at q
  obtain ⟨q0, q1, q2, ⟨_, q3, _⟩, _, q4, _⟩ := q
  exact ⟨q0, q1, q2, q3, q4⟩
theorem V.textOk_nil (k : Int) : V.textOk k ⟨#[]⟩ = true := by unfold V.textOk; rw [Lib.toList_data]; rfl
theorem V.right_bare (k n : Int) (h0 : 0 ≤ k) (h5 : k ≤ 5) : V.right ⟨k, n, ⟨#[]⟩, [], []⟩ = V.numOk k n := by
  rw [V.right_mk]
  have e1 : V.kindOk k = true := by simp [V.kindOk, h0, h5]
  have e2 := V.textOk_nil k
  have e3 : V.keysOk k [] ([] : List V).length = true := by simp [V.keysOk, V.rises, V.risesTo]
  rw [e1, e2, e3]
  simp
end Go.Proofs.YtapcmbbhhclepaaGreatDoor
namespace Go.Proofs.YtapcmbbhhclepaaGreatDoor
open Go.RowKit
namespace V
def part (zs : List Int) (len : Nat) (k : Int) : V :=
  if (valV zs len).list.isEmpty || !(valV zs len).right then nul else (valV zs len).list.getD (k.toNat % (valV zs len).list.length) nul
theorem wt_part (zs : List Int) (len : Nat) (k : Int) : wt (part zs len k) ≤ 4000 := by
  unfold part
  have hn : wt nul = 1 := by unfold nul; rw [wt_mk]; rfl
  split
  · omega
  · have h1 := wt_val zs len
    simp only [List.getD]
    cases h : (valV zs len).list[k.toNat % (valV zs len).list.length]? with
    | none => simp only [Option.getD_none]; omega
    | some x =>
      have hm := List.mem_of_getElem? h
      have h2 := wtL_mem hm
      have h3 := wtL_list (valV zs len)
      simp only [Option.getD_some]
      omega
theorem right_nul : right nul = true := by
  unfold nul
  rw [right_mk]
  have e2 : textOk 0 ⟨#[]⟩ = true := by unfold textOk; rw [Lib.toList_data]; rfl
  rw [e2]
  rfl
theorem right_part (zs : List Int) (len : Nat) (k : Int) : right (part zs len k) = true := by
  unfold part
  split
  · exact right_nul
  · rename_i h
    simp only [Bool.or_eq_true, Bool.not_eq_true', not_or, Bool.not_eq_true, Bool.not_eq_false] at h
    have hr := h.2
    have hl : 0 < (valV zs len).list.length := by
      rcases Nat.eq_zero_or_pos (valV zs len).list.length with e | e
      · have := List.eq_nil_of_length_eq_zero e
        rw [this] at h
        simp at h
      · exact e
    have hlt : k.toNat % (valV zs len).list.length < (valV zs len).list.length := Nat.mod_lt _ hl
    have e : (valV zs len).list.getD (k.toNat % (valV zs len).list.length) nul = (valV zs len).list[k.toNat % (valV zs len).list.length] := by simp [List.getD, hlt]
    rw [e]
    have hall : (valV zs len).list.all right = true := by
      generalize valV zs len = x at hr
      obtain ⟨kk, n, t, ks, l⟩ := x
      rw [right_mk] at hr
      simp only [Bool.and_eq_true] at hr
      exact hr.1.2
    exact List.all_eq_true.1 hall _ (List.getElem_mem hlt)
end V
theorem isRow_keep {w w' : World} {a : Option Addr} {len cap : Nat} {zs : List Int} (h : IsRow .u8 w a len cap zs) (k : Below w.heap.size w w') : IsRow .u8 w' a len cap zs := by
  rcases h with h | ⟨x, ha, hl, hm, hz, hcell, hwz⟩
  · exact .inl h
  · exact .inr ⟨x, ha, hl, hm, hz, fun i hi => by rw [k.cell (p := x.add i) (World.block_lt_of_cell? w _ (hcell i hi))]; exact hcell i hi, hwz⟩
set_option maxHeartbeats 4000000 in
set_option maxRecDepth 100000 in
theorem part_any (a : Option Addr) (len cap : Nat) (zs : List Int) (k : Int) (w : World) (h : IsRow .u8 w a len cap zs) (hk0 : 0 ≤ k) (hk1 : k ≤ 255) :
    Calls Tryz.prog 14 #[.slice a len cap, .int .u8 k] w fun e w' => ∃ k2 n t a1 n1 c1 a2 n2 c2, e = .returned (.agg #[.int .i64 k2, .int .i64 n, .string t, .slice a1 n1 c1, .slice a2 n2 c2]) ∧ Is w' (fun b => w.heap.size ≤ b) (.agg #[.int .i64 k2, .int .i64 n, .string t, .slice a1 n1 c1, .slice a2 n2 c2]) (V.part zs len k) ∧ Below w.heap.size w w' := by
  have HH := hide h
  clear h
  go_enter Tryz.func14, Tryz.ntmps14
  go_wp2_with fail
  refine (val_any a len cap zs _ (isRow_keep HH.out (below_alloc _ _))).mono ?_
  rintro e w1 ⟨va, vn, vc, rfl, hv, b1⟩
  have hw := V.wt_val zs len
  obtain ⟨r1, r2, r3, r4, rfl⟩ := hv.parts
  clear r1 r2 r3 r4
  have hl := V.len_wt (V.valV zs len)
  obtain ⟨X, hX⟩ : ∃ X, V.valV zs len = X := ⟨_, rfl⟩
  rw [hX] at hv hw hl
  rw [hX]
  have hp : V.part zs len k = if X.list.isEmpty || !X.right then V.nul else X.list.getD (k.toNat % X.list.length) V.nul := by unfold V.part; rw [hX]
  have HP := hide hp
  have HV := hide hv
  have HW := hide hw
  have hl2 : X.list.length ≤ 4000 := by omega
  have pr : BoxF w1 w.heap.size _ _ _ _ _ := (boxF_at w _ _ _ _ _ 27 _ rfl).keep b1
  have bb := bthen (below_alloc w _) b1
  clear hp hv hw hl hX b1
  obtain ⟨LV, hLV⟩ : ∃ l, X.list = l := ⟨_, rfl⟩
  rw [hLV]
  rw [hLV] at hl2
  have HLV := hide hLV
  clear hLV
  by_cases h0 : LV.length = 0
  · have hb : ((LV.length : Int) == 0) = true := by simp [h0]
    have H0 := hide h0
    clear h0
    obtain ⟨⟨y0, y1, y2, y3, y4⟩, g0, g1, g2, g3, g4⟩ := id (pr.keep (below_alloc w1 (.cells #[.int .i64 4, .int .i64 0, .string ⟨#[]⟩, .slice none 0 0, .slice va LV.length vc] 27)))
    go_wp2_with fail
    obtain ⟨u0, u1, u2, u3, u4⟩ := Box5.all (pr.keep (below_alloc w1 (.cells #[.int .i64 4, .int .i64 0, .string ⟨#[]⟩, .slice none 0 0, .slice va LV.length vc] 27))).1 (.int .i64 0) (.int .i64 0) (.string ⟨#[]⟩) (.slice none 0 0) (.slice none 0 0)
    refine bodyPost_ret (v := .agg #[.int .i64 0, .int .i64 0, .string ⟨#[]⟩, .slice none 0 0, .slice none 0 0]) (by simp [results, Tryz.results14, go_sem, u0, u1, u2, u3, u4]) rfl ?_
    refine ⟨0, 0, ⟨#[]⟩, none, 0, 0, none, 0, 0, rfl, ?_, (((((bthen bb (below_alloc _ _)).setCell (Nat.le_refl _) _).setCell (Nat.le_refl _) _).setCell (Nat.le_refl _) _).setCell (Nat.le_refl _) _).setCell (Nat.le_refl _) _⟩
    have e : V.part zs len k = V.nul := by
      rw [HP.out, HLV.out, List.eq_nil_of_length_eq_zero H0.out]
      rfl
    rw [e]
    exact is_plain _ _ 0 0 ⟨#[]⟩ (by decide)
  · have hb : ((LV.length : Int) == 0) = false := by rw [beq_eq_false_iff_ne]; omega
    have hne : LV.isEmpty = false := by
      cases LV with
      | nil => simp at h0
      | cons _ _ => rfl
    have HNE := hide hne
    clear hne
    have hvv : Is (w1.alloc (.cells #[.int .i64 4, .int .i64 0, .string ⟨#[]⟩, .slice none 0 0, .slice va LV.length vc] 27)) (fun b => w.heap.size + 1 ≤ b) (.agg #[.int .i64 4, .int .i64 0, .string ⟨#[]⟩, .slice none 0 0, .slice va LV.length vc]) X := by
      have := HV.out
      rw [HLV.out] at this
      exact (this.weak (fun b _ hb => by simpa using hb)).below (below_alloc _ _)
    cases hr : X.right with
    | false =>
      have HR := hide hr
      clear hr
      go_wp2_with fail
      refine (refRight_is hvv (Nat.le_trans HW.out (by decide)) false HR.out).mono ?_
      rintro e w2 ⟨rfl, b2⟩
      have pr2 := (pr.keep (below_alloc _ _)).keep b2
      obtain ⟨⟨y0, y1, y2, y3, y4⟩, g0, g1, g2, g3, g4⟩ := id pr2
      go_wp2_with fail
      obtain ⟨u0, u1, u2, u3, u4⟩ := Box5.all pr2.1 (.int .i64 0) (.int .i64 0) (.string ⟨#[]⟩) (.slice none 0 0) (.slice none 0 0)
      refine bodyPost_ret (v := .agg #[.int .i64 0, .int .i64 0, .string ⟨#[]⟩, .slice none 0 0, .slice none 0 0]) (by simp [results, Tryz.results14, go_sem, u0, u1, u2, u3, u4]) rfl ?_
      refine ⟨0, 0, ⟨#[]⟩, none, 0, 0, none, 0, 0, rfl, ?_, (((((bthen bb (bthen (below_alloc _ _) b2)).setCell (Nat.le_refl _) _).setCell (Nat.le_refl _) _).setCell (Nat.le_refl _) _).setCell (Nat.le_refl _) _).setCell (Nat.le_refl _) _⟩
      have e : V.part zs len k = V.nul := by rw [HP.out, HR.out]; simp
      rw [e]
      exact is_plain _ _ 0 0 ⟨#[]⟩ (by decide)
    | true =>
      have HR := hide hr
      clear hr
      go_wp2_with fail
      refine (refRight_is hvv (Nat.le_trans HW.out (by decide)) true HR.out).mono ?_
      rintro e w2 ⟨rfl, b2⟩
      have pr2 := (pr.keep (below_alloc _ _)).keep b2
      have pv2 := (boxF_at w1 (.int .i64 4) (.int .i64 0) (.string ⟨#[]⟩) (.slice none 0 0) (.slice va LV.length vc) 27 _ rfl).keep b2
      have hvv2 := hvv.below b2
      have hs1 : w.heap.size < w1.heap.size := cell_size pr.1.1
      obtain ⟨p, hp⟩ : ∃ p, k.toNat % LV.length = p := ⟨_, rfl⟩
      have hpl : p < LV.length := by rw [← hp]; exact Nat.mod_lt _ (by omega)
      obtain ⟨kv3, lv3, hq3, _, hl3, _⟩ := hvv2.open
      simp only [Value.agg.injEq, Array.mk.injEq, List.cons.injEq, and_true] at hq3
      obtain ⟨r1, r2, r3, r4, rfl⟩ := hq3
      clear r1 r2 r3 r4
      rw [HLV.out] at hl3
      obtain ⟨b, off, k3, m3, t3, a13, n13, c13, a23, n23, c23, rfl, hel, q0, q1, q2, q3, q4⟩ := isL_open hl3 (Below.refl _ _) hpl
      have hpI : k % (LV.length : Int) = (p : Int) := by
        rw [← hp]
        have : (k.toNat : Int) = k := Int.toNat_of_nonneg hk0
        rw [Int.natCast_emod, this]
      have hpt : k.tmod (LV.length : Int) = (p : Int) := by rw [Int.tmod_eq_emod_of_nonneg hk0]; exact hpI
      have hkw : IntKind.i64.wrap k = k := by rw [IntKind.wrap_i64]; omega
      have hlz : ((LV.length : Int) == 0) = false := hb
      have hlz' : ¬ (LV.length : Int) = 0 := by omega
      have hpw : IntKind.i64.wrap (p : Int) = (p : Int) := by rw [IntKind.wrap_i64]; omega
      have HEL := hide hel
      obtain ⟨⟨y0, y1, y2, y3, y4⟩, g0, g1, g2, g3, g4⟩ := id pr2
      obtain ⟨⟨v0, v1, v2, v3, v4⟩, _⟩ := id pv2
      have HPP := hide hp
      clear hel hvv hvv2 hl3 hp
      have hpL : (p : Int) < (LV.length : Int) := by omega
      go_wp2_with fail
      go_region
      go_wp2_with fail
      obtain ⟨u0, u1, u2, u3, u4⟩ := Box5.all pr2.1 (.int .i64 k3) (.int .i64 m3) (.string t3) (.slice a13 n13 c13) (.slice a23 n23 c23)
      refine bodyPost_ret (v := .agg #[.int .i64 k3, .int .i64 m3, .string t3, .slice a13 n13 c13, .slice a23 n23 c23]) (by simp [results, Tryz.results14, go_sem, u0, u1, u2, u3, u4]) rfl ?_
      refine ⟨k3, m3, t3, a13, n13, c13, a23, n23, c23, rfl, ?_, ?_⟩
      · have kp := keeps_set5 (S := fun b => w.heap.size + 1 ≤ b) (w := w2) (g := w.heap.size) (o := 0) (.int .i64 k3) (.int .i64 m3) (.string t3) (.slice a13 n13 c13) (.slice a23 n23 c23) (by omega)
        have e : V.part zs len k = LV[p] := by
          rw [HP.out, HR.out, HLV.out, HNE.out]
          simp only [Bool.not_true, Bool.or_self, Bool.false_eq_true, if_false]
          simp [List.getD, HPP.out, List.getElem?_eq_getElem hpl]
        rw [e]
        refine Is.weak (S := fun b => w.heap.size + 1 ≤ b) (Is.keep (w := w2) HEL.out ?_) (fun b _ hb => Nat.le_of_succ_le hb)
        exact fun b hb hl => kp b hb hl
      · exact ((((((bthen bb (bthen (below_alloc _ _) b2)).setCell (Nat.le_refl _) _).setCell (Nat.le_refl _) _).setCell (Nat.le_refl _) _).setCell (Nat.le_refl _) _).setCell (Nat.le_refl _) _).drew
end Go.Proofs.YtapcmbbhhclepaaGreatDoor
namespace Go.Proofs.YtapcmbbhhclepaaGreatDoor
def kMember : ByteArray := ⟨#[109, 46, 114, 111, 111, 109, 46, 109, 101, 109, 98, 101, 114]⟩
def kPower : ByteArray := ⟨#[109, 46, 114, 111, 111, 109, 46, 112, 111, 119, 101, 114, 95, 108, 101, 118, 101, 108, 115]⟩
def kJoin : ByteArray := ⟨#[109, 46, 114, 111, 111, 109, 46, 106, 111, 105, 110, 95, 114, 117, 108, 101, 115]⟩
def kAcl : ByteArray := ⟨#[109, 46, 114, 111, 111, 109, 46, 115, 101, 114, 118, 101, 114, 95, 97, 99, 108]⟩
def lMember : List ByteArray := [⟨#[109, 101, 109, 98, 101, 114, 115, 104, 105, 112]⟩]
def lPower : List ByteArray := [⟨#[98, 97, 110]⟩, ⟨#[101, 118, 101, 110, 116, 115]⟩, ⟨#[101, 118, 101, 110, 116, 115, 95, 100, 101, 102, 97, 117, 108, 116]⟩, ⟨#[105, 110, 118, 105, 116, 101]⟩, ⟨#[107, 105, 99, 107]⟩, ⟨#[115, 116, 97, 116, 101, 95, 100, 101, 102, 97, 117, 108, 116]⟩, ⟨#[117, 115, 101, 114, 115]⟩, ⟨#[117, 115, 101, 114, 115, 95, 100, 101, 102, 97, 117, 108, 116]⟩]
def lJoin : List ByteArray := [⟨#[106, 111, 105, 110, 95, 114, 117, 108, 101]⟩]
def lAcl : List ByteArray := [⟨#[97, 108, 108, 111, 119]⟩, ⟨#[100, 101, 110, 121]⟩]
def keptL (kind : ByteArray) : List ByteArray := if kind.data.toList = kMember.data.toList then lMember else if kind.data.toList = kPower.data.toList then lPower else if kind.data.toList = kJoin.data.toList then lJoin else if kind.data.toList = kAcl.data.toList then lAcl else []
def kCreate : ByteArray := ⟨#[109, 46, 114, 111, 111, 109, 46, 99, 114, 101, 97, 116, 101]⟩
def keptB (kind key : ByteArray) : Bool := (kind.toList == kCreate.toList) || Lib.containsS (keptL kind) key
namespace Xr
def stays (stay : List ByteArray) (ps : List (ByteArray × V)) : List (ByteArray × V) := ps.filter (fun p => Lib.containsS stay p.1)
def taken (x : V) (stay : List ByteArray) : V := ⟨5, 0, ⟨#[]⟩, (stays stay (x.keys.zip x.list)).map (·.1), (stays stay (x.keys.zip x.list)).map (·.2)⟩
theorem stays_snoc (stay : List ByteArray) (ps : List (ByteArray × V)) (p : ByteArray × V) : stays stay (ps ++ [p]) = if Lib.containsS stay p.1 then stays stay ps ++ [p] else stays stay ps := by
  unfold stays
  rw [List.filter_append]
  cases h : Lib.containsS stay p.1 <;> simp [h]
end Xr
def kType : ByteArray := ⟨#[116, 121, 112, 101]⟩
def kContent : ByteArray := ⟨#[99, 111, 110, 116, 101, 110, 116]⟩
def Xr.kindOf (x : V) : ByteArray := if ((V.get x kType).getD V.nul).kind = 3 then ((V.get x kType).getD V.nul).text else ⟨#[]⟩
def lEvent : List ByteArray := [⟨#[97, 117, 116, 104, 95, 101, 118, 101, 110, 116, 115]⟩, ⟨#[99, 111, 110, 116, 101, 110, 116]⟩, ⟨#[100, 101, 112, 116, 104]⟩, ⟨#[104, 97, 115, 104, 101, 115]⟩, ⟨#[111, 114, 105, 103, 105, 110, 95, 115, 101, 114, 118, 101, 114, 95, 116, 115]⟩, ⟨#[112, 114, 101, 118, 95, 101, 118, 101, 110, 116, 115]⟩, ⟨#[114, 111, 111, 109, 95, 105, 100]⟩, ⟨#[115, 101, 110, 100, 101, 114]⟩, ⟨#[115, 116, 97, 116, 101, 95, 107, 101, 121]⟩, ⟨#[116, 121, 112, 101]⟩]
def Xr.ofContent (x : V) (kind : ByteArray) : V := if (kind.toList == kCreate.toList) = true then x else Xr.taken x (keptL kind)
end Go.Proofs.YtapcmbbhhclepaaGreatDoor
namespace Go.Proofs.YtapcmbbhhclepaaGreatDoor
open Go.RowKit Go.Maps
abbrev HR : Value → Option (DataW Value × List MemPlace) := fun v => some (.held v, [])
abbrev keyL (s : ByteArray) : Lit := .string s.data.toList
theorem law9 : Keyed Tryz.prog 9 := string_keyed Tryz.underlying9
theorem keyed (s : ByteArray) (h : s.size ≤ maxLen) : keyOf Tryz.prog 9 (.string s) = some (keyL s) := WideMaps.keyOf_string_mk Tryz.underlying9 h
theorem upd (w : World) (b n : Nat) (D : DataW Value) (h : w.ownsMap Tryz.prog 9 HR b n D) (hn : n < 100) (key : ByteArray) (hk : key.size ≤ maxLen) (v : Value) :
    ∃ w', (Instr.mapUpdate 48 (.map (some b)) (.string key) v).run Tryz.prog w = .ok () w' ∧ w'.ownsMap Tryz.prog 9 HR b (n + 1) (D.put (keyL key) (.held v)) ∧ w.grownBy w' (some b) :=
  h.update law9 Tryz.underlying48 (by unfold maxLen; omega) (keyed key hk) rfl
theorem stay0 {W W' : World} {b : Nat} {o : Obj} (g : (W.alloc o).grownBy W' (some b)) (hb : W.heap.size ≠ b) : W'.heap[W.heap.size]? = some o := by
  rw [g.block W.heap.size (by simp) (by simpa using hb)]
  show (W.alloc o).heap[W.heap.size]? = _
  simp only [World.alloc, Array.getElem?_push_size]
theorem stay {W W' : World} {b k : Nat} {o x : Obj} (h : W.heap[k]? = some x) (g : (W.alloc o).grownBy W' (some b)) (hk : k ≠ b) : W'.heap[k]? = some x := by
  have hl := (Array.getElem?_eq_some_iff.1 h).1
  rw [g.block k (by simp; omega) (by simpa using hk), Below.heap_alloc _ _ _ hl]
  exact h
set_option maxHeartbeats 1000000 in
theorem kept_any (w : World) :
    Calls Tryz.prog 38 #[] w fun e w' => ∃ b1 b2 b3 b4, e = .returned (.map (some w.heap.size)) ∧ w'.ownsMap Tryz.prog 9 HR w.heap.size 4 (((((DataW.map []).put (keyL kMember) (.held (.slice (some ⟨b1, 0, none⟩) 1 1))).put (keyL kPower) (.held (.slice (some ⟨b2, 0, none⟩) 8 8))).put (keyL kJoin) (.held (.slice (some ⟨b3, 0, none⟩) 1 1))).put (keyL kAcl) (.held (.slice (some ⟨b4, 0, none⟩) 2 2))) ∧
      w'.heap[b1]? = some (.cells (lMember.map Value.string).toArray 9) ∧ w'.heap[b2]? = some (.cells (lPower.map Value.string).toArray 9) ∧ w'.heap[b3]? = some (.cells (lJoin.map Value.string).toArray 9) ∧ w'.heap[b4]? = some (.cells (lAcl.map Value.string).toArray 9) ∧ w.heap.size ≤ w'.heap.size ∧ Below w.heap.size w w' := by
  have hmm := @run_makeMap Tryz.prog
  have o0 := World.ownsMap_made w Tryz.prog 9 HR
  obtain ⟨w2, r1, o1, g1⟩ := upd _ _ _ _ (o0.alloc (.cells (lMember.map Value.string).toArray 9)) (by omega) kMember (by decide) (.slice (some ⟨w.heap.size + 1, 0, none⟩) 1 1)
  obtain ⟨w3, r2, o2, g2⟩ := upd _ _ _ _ (o1.alloc (.cells (lPower.map Value.string).toArray 9)) (by omega) kPower (by decide) (.slice (some ⟨w2.heap.size, 0, none⟩) 8 8)
  obtain ⟨w4, r3, o3, g3⟩ := upd _ _ _ _ (o2.alloc (.cells (lJoin.map Value.string).toArray 9)) (by omega) kJoin (by decide) (.slice (some ⟨w3.heap.size, 0, none⟩) 1 1)
  obtain ⟨w5, r4, o4, g4⟩ := upd _ _ _ _ (o3.alloc (.cells (lAcl.map Value.string).toArray 9)) (by omega) kAcl (by decide) (.slice (some ⟨w4.heap.size, 0, none⟩) 2 2)
  simp only [lMember, lPower, lJoin, lAcl, List.map_cons, List.map_nil, kMember, kPower, kJoin, kAcl] at r1 r2 r3 r4
  have O4 := hide o4
  have G1 := hide g1
  have G2 := hide g2
  have G3 := hide g3
  have G4 := hide g4
  clear o0 o1 o2 o3 o4 g1 g2 g3 g4
  go_enter Tryz.func38, Tryz.ntmps38
  go_wp2_with fail
  go_ret
  have s1 := G1.out.size
  have s2 := G2.out.size
  have s3 := G3.out.size
  have s4 := G4.out.size
  simp at s1 s2 s3 s4
  have h1 := stay0 G1.out (by simp)
  rw [show (w.alloc (.map #[] 0)).heap.size = w.heap.size + 1 by simp] at h1
  have h2 := stay0 G2.out (by omega)
  have h3 := stay0 G3.out (by omega)
  have h4 := stay0 G4.out (by omega)
  have lt : ∀ {W : World} {k : Nat} {o : Obj}, W.heap[k]? = some o → k < W.heap.size := fun h => (Array.getElem?_eq_some_iff.1 h).1
  refine ⟨w.heap.size + 1, w2.heap.size, w3.heap.size, w4.heap.size, rfl, O4.out, stay (stay (stay h1 G2.out (by omega)) G3.out (by omega)) G4.out (by omega), stay (stay h2 G3.out (by omega)) G4.out (by omega), stay h3 G4.out (by omega), h4, by omega, ?_⟩
  have bb : ∀ {A W W' : World} {o : Obj}, Below w.heap.size A W → w.heap.size ≤ W.heap.size → (W.alloc o).grownBy W' (some w.heap.size) → Below w.heap.size A W' := fun h hl g => (h.alloc hl _).grown g (by simp; omega) (fun k hk => by cases hk; exact Nat.le_refl _)
  exact bb (bb (bb (bb (below_alloc w (.map #[] 0)) (by simp) G1.out) (by omega) G2.out) (by omega) G3.out) (by omega) G4.out
theorem strs_heap {w : World} {b n : Nat} {l : List ByteArray} (h : w.heap[b]? = some (.cells (l.map Value.string).toArray 9)) (hn : n = l.length) (hl : l.length ≤ 100) (hs : ∀ k ∈ l, k.size ≤ maxLen) (S : Nat → Prop) (hS : S b) : Strs w S (.slice (some ⟨b, 0, none⟩) n n) l := by
  subst hn
  refine ⟨_, _, rfl, Nat.le_refl _, by unfold maxLen; omega, hs, fun _ => ⟨b, 0, rfl, hS, fun i hi => ?_⟩⟩
  rw [Lib.cell_of_heap h]
  simp [List.getD, hi]
theorem lookup_any (w : World) (b b1 b2 b3 b4 B : Nat) (h : w.ownsMap Tryz.prog 9 HR b 4 (((((DataW.map []).put (keyL kMember) (.held (.slice (some ⟨b1, 0, none⟩) 1 1))).put (keyL kPower) (.held (.slice (some ⟨b2, 0, none⟩) 8 8))).put (keyL kJoin) (.held (.slice (some ⟨b3, 0, none⟩) 1 1))).put (keyL kAcl) (.held (.slice (some ⟨b4, 0, none⟩) 2 2))))
    (h1 : w.heap[b1]? = some (.cells (lMember.map Value.string).toArray 9)) (h2 : w.heap[b2]? = some (.cells (lPower.map Value.string).toArray 9)) (h3 : w.heap[b3]? = some (.cells (lJoin.map Value.string).toArray 9)) (h4 : w.heap[b4]? = some (.cells (lAcl.map Value.string).toArray 9))
    (key : ByteArray) (hk : key.size ≤ maxLen) :
    ∃ a n c, (Instr.lookup 48 (.map (some b)) (.string key) false).run Tryz.prog w = .ok (.slice a n c) w ∧ Strs w (fun _ => True) (.slice a n c) (keptL key) := by
  obtain ⟨v, ps, hrun, hv⟩ := h.lookup law9 Tryz.underlying48 (z := .slice none 0 0) (by kernel_rfl) rfl (keyed key hk)
  have hd : DataW.held v = _ := congrArg Prod.fst (Option.some.inj hv)
  have hkey : ∀ {A : ByteArray}, keyL key = keyL A ↔ key.data.toList = A.data.toList := ⟨fun e => by injection e, fun e => by unfold keyL; rw [e]⟩
  have m0 : IsMap (DataW.map [] : DataW Value) := ⟨[], rfl⟩
  have hk0 : ∀ A : ByteArray, WideAt.IsKeyLit (keyL A) := fun _ => trivial
  have mp : ∀ {D : DataW Value} (A : ByteArray) (x : DataW Value), IsMap D → IsMap (D.put (keyL A) x) := fun A x ⟨es, e⟩ => by subst e; exact ⟨_, rfl⟩
  have m1 := mp kMember (.held (.slice (some ⟨b1, 0, none⟩) 1 1)) m0
  have m2 := mp kPower (.held (.slice (some ⟨b2, 0, none⟩) 8 8)) m1
  have m3 := mp kJoin (.held (.slice (some ⟨b3, 0, none⟩) 1 1)) m2
  have end_ : ∀ {a : Option Addr} {n c : Nat} {L : List ByteArray}, v = .slice a n c → Strs w (fun _ => True) (.slice a n c) L → keptL key = L → ∃ a n c, (Instr.lookup 48 (.map (some b)) (.string key) false).run Tryz.prog w = .ok (.slice a n c) w ∧ Strs w (fun _ => True) (.slice a n c) (keptL key) := fun e hs hL => by
    subst e
    exact ⟨_, _, _, hrun, by rw [hL]; exact hs⟩
  by_cases e4 : key.data.toList = kAcl.data.toList
  · rw [hkey.2 e4, atKey_put_same m3 (hk0 _)] at hd
    exact end_ (DataW.held.inj hd) (strs_heap h4 rfl (by decide) (by decide) _ trivial) (by
      unfold keptL
      rw [e4, if_neg (by decide), if_neg (by decide), if_neg (by decide), if_pos rfl])
  rw [atKey_put_other (fun e => e4 (hkey.1 e))] at hd
  by_cases e3 : key.data.toList = kJoin.data.toList
  · rw [hkey.2 e3, atKey_put_same m2 (hk0 _)] at hd
    exact end_ (DataW.held.inj hd) (strs_heap h3 rfl (by decide) (by decide) _ trivial) (by
      unfold keptL
      rw [e3, if_neg (by decide), if_neg (by decide), if_pos rfl])
  rw [atKey_put_other (fun e => e3 (hkey.1 e))] at hd
  by_cases e2 : key.data.toList = kPower.data.toList
  · rw [hkey.2 e2, atKey_put_same m1 (hk0 _)] at hd
    exact end_ (DataW.held.inj hd) (strs_heap h2 rfl (by decide) (by decide) _ trivial) (by
      unfold keptL
      rw [e2, if_neg (by decide), if_pos rfl])
  rw [atKey_put_other (fun e => e2 (hkey.1 e))] at hd
  by_cases e1 : key.data.toList = kMember.data.toList
  · rw [hkey.2 e1, atKey_put_same m0 (hk0 _)] at hd
    exact end_ (DataW.held.inj hd) (strs_heap h1 rfl (by decide) (by decide) _ trivial) (by
      unfold keptL
      rw [if_pos e1])
  rw [atKey_put_other (fun e => e1 (hkey.1 e))] at hd
  exact end_ (DataW.held.inj hd) (strs_nil w _) (by
    unfold keptL
    rw [if_neg e1, if_neg e2, if_neg e3, if_neg e4])
end Go.Proofs.YtapcmbbhhclepaaGreatDoor
namespace Go.Proofs.YtapcmbbhhclepaaGreatDoor
open Go.RowKit
theorem contains_any {w : World} {S : Nat → Prop} {a : Option Addr} {n c : Nat} {l : List ByteArray} (h : Strs w S (.slice a n c) l) (x : ByteArray) :
    Calls Tryz.prog 37 #[.slice a n c, .string x] w fun e w' => e = .returned (.bool (Lib.containsS l x)) ∧ w' = w := by
  obtain ⟨rfl, h2, h3, _, hc⟩ := h.out
  by_cases hl : 0 < l.length
  · obtain ⟨b, off, rfl, _, hcell⟩ := hc hl
    refine (Tryz.slices_Contains_string b off l.length c l x w (Nat.le_refl _) (by unfold maxLen at h3; omega) hcell).mono ?_
    rintro e w' ⟨he, hw⟩
    rw [List.take_length] at he
    exact ⟨he, hw⟩
  · have h0 : l = [] := List.length_eq_zero_iff.1 (by omega)
    subst h0
    exact Tryz.slices_Contains_string_empty a c x w
set_option maxHeartbeats 1000000 in
theorem Kept_any (kind key : ByteArray) (w : World) (hk : kind.size ≤ maxLen) :
    Calls Tryz.prog 15 #[.string kind, .string key] w fun e w' => e = .returned (.bool (keptB kind key)) ∧ Below w.heap.size w w' := by
  obtain ⟨q, hq⟩ : ∃ q, (kind.toList == kCreate.toList) = q := ⟨_, rfl⟩
  unfold keptB
  rw [hq]
  have e : kCreate.toList = [109, 46, 114, 111, 111, 109, 46, 99, 114, 101, 97, 116, 101] := by kernel_rfl
  rw [e] at hq
  clear e
  cases q with
  | true =>
    go_enter Tryz.func15, Tryz.ntmps15
    go_wp2_with fail
    go_ret
    exact ⟨rfl, Below.refl _ _⟩
  | false =>
    go_enter Tryz.func15, Tryz.ntmps15
    go_wp2_with fail
    refine (kept_any w).mono ?_
    rintro e w1 ⟨b1, b2, b3, b4, rfl, hown, h1, h2, h3, h4, _, hb⟩
    obtain ⟨a, n, c, hrun, hs⟩ := lookup_any w1 _ b1 b2 b3 b4 0 hown h1 h2 h3 h4 kind hk
    have HS := hide hs
    have HB := hide hb
    clear hown h1 h2 h3 h4 hs hb
    go_wp2_with fail
    refine (contains_any HS.out key).mono ?_
    rintro e w2 ⟨rfl, rfl⟩
    go_wp2_with fail
    go_ret
    exact ⟨rfl, HB.out⟩
end Go.Proofs.YtapcmbbhhclepaaGreatDoor
namespace Go.Proofs.YtapcmbbhhclepaaGreatDoor
open Go.RowKit
abbrev St (s : ByteArray) (a : Nat) (e : Int) (d : Nat) : Value := .agg #[.string s, .int .i64 (a : Int), .int .i64 e, .int .i64 (d : Int)]
def B4 (w : World) (g : Nat) (c0 c1 c2 c3 : Value) : Prop := w.heap[g]? = some (.cells #[c0, c1, c2, c3] 65 (0, 0))
theorem B4.cells {w : World} {g : Nat} {c0 c1 c2 c3 : Value} (h : B4 w g c0 c1 c2 c3) : w.cell? ⟨g, 0, none⟩ = some c0 ∧ w.cell? ⟨g, 1, none⟩ = some c1 ∧ w.cell? ⟨g, 2, none⟩ = some c2 ∧ w.cell? ⟨g, 3, none⟩ = some c3 := by
  refine ⟨?_, ?_, ?_, ?_⟩ <;> (rw [Lib.cell_of_heap h]; rfl)
theorem B4.free {w : World} {g : Nat} {c0 c1 c2 c3 : Value} (h : B4 w g c0 c1 c2 c3) (o : Nat) : w.frozen? ⟨g, o, none⟩ = false := Lib.frozen_of_heap h o
theorem b4_new (w : World) (c0 c1 c2 c3 : Value) (g : Nat) (hg : g = w.heap.size) : B4 (w.alloc (.cells #[c0, c1, c2, c3] 65)) g c0 c1 c2 c3 := by
  subst hg
  show (w.alloc _).heap[w.heap.size]? = _
  simp only [World.alloc, Array.getElem?_push_size]
theorem B4.keep {w w' : World} {g : Nat} {c0 c1 c2 c3 : Value} (h : B4 w g c0 c1 c2 c3) (k : Below w.heap.size w w') : B4 w' g c0 c1 c2 c3 := by
  unfold B4
  rw [k.block g (Array.getElem?_eq_some_iff.1 h).1]
  exact h
theorem B4.other {w : World} {g g' o : Nat} {c0 c1 c2 c3 : Value} (h : B4 w g c0 c1 c2 c3) (v : Value) (hg : g ≠ g') : B4 (w.setCell ⟨g', o, none⟩ v) g c0 c1 c2 c3 := by
  unfold B4
  simp only [World.setCell]
  rw [Array.getElem?_modify, if_neg (fun e => hg e.symm)]
  exact h
theorem B4.set0 {w : World} {g : Nat} {c0 c1 c2 c3 : Value} (h : B4 w g c0 c1 c2 c3) (v : Value) : B4 (w.setCell ⟨g, 0, none⟩ v) g v c1 c2 c3 := by
  unfold B4 at h ⊢
  simp [World.setCell, Array.getElem?_modify, h]
theorem B4.set1 {w : World} {g : Nat} {c0 c1 c2 c3 : Value} (h : B4 w g c0 c1 c2 c3) (v : Value) : B4 (w.setCell ⟨g, 1, none⟩ v) g c0 v c2 c3 := by
  unfold B4 at h ⊢
  simp [World.setCell, Array.getElem?_modify, h]
theorem B4.set2 {w : World} {g : Nat} {c0 c1 c2 c3 : Value} (h : B4 w g c0 c1 c2 c3) (v : Value) : B4 (w.setCell ⟨g, 2, none⟩ v) g c0 c1 v c3 := by
  unfold B4 at h ⊢
  simp [World.setCell, Array.getElem?_modify, h]
theorem B4.set3 {w : World} {g : Nat} {c0 c1 c2 c3 : Value} (h : B4 w g c0 c1 c2 c3) (v : Value) : B4 (w.setCell ⟨g, 3, none⟩ v) g c0 c1 c2 v := by
  unfold B4 at h ⊢
  simp [World.setCell, Array.getElem?_modify, h]
def At (s : ByteArray) (a : Nat) (u : List UInt8) : Prop := a ≤ s.size ∧ s.data.toList.drop a = u
theorem At.len {s : ByteArray} {a : Nat} {u : List UInt8} (h : At s a u) : a + u.length = s.size := by
  have h1 := h.1
  have h2 : s.data.toList.length = s.size := by simp
  rw [← h.2, List.length_drop]
  omega
theorem At.byte {s : ByteArray} {a : Nat} {b : UInt8} {t : List UInt8} (h : At s a (b :: t)) : ∃ hl : a < s.size, s[a]'hl = b := by
  have hl := h.len
  rw [List.length_cons] at hl
  have hl2 : a < s.size := by omega
  refine ⟨hl2, ?_⟩
  have h3 : s.data.toList[a]? = some b := by
    have := congrArg (fun l => l[0]?) h.2
    simpa [List.getElem?_drop] using this
  rw [Array.getElem?_toList] at h3
  obtain ⟨h4, h5⟩ := Array.getElem?_eq_some_iff.1 h3
  exact h5
theorem At.next {s : ByteArray} {a : Nat} {b : UInt8} {t : List UInt8} (h : At s a (b :: t)) : At s (a + 1) t := by
  have hl := h.len
  rw [List.length_cons] at hl
  refine ⟨by omega, ?_⟩
  rw [← List.drop_drop, h.2]
  rfl
theorem At.of_drop {s : ByteArray} {a : Nat} {u : List UInt8} (h : At s a u) (n : Nat) (hn : n ≤ u.length) : At s (a + n) (u.drop n) := by
  have hl := h.len
  refine ⟨by omega, ?_⟩
  rw [← List.drop_drop, h.2]
set_option maxHeartbeats 1000000 in
theorem fail_any (s : ByteArray) (a : Nat) (e n : Int) (d : Nat) (w : World) :
    Calls Tryz.prog 63 #[St s a e d, .int .i64 n] w fun e' w' => e' = .returned (St s a n d) ∧ Below w.heap.size w w' := by
  go_enter Tryz.func63, Tryz.ntmps63
  go_wp2_with fail
  obtain ⟨c0, c1, c2, c3⟩ := (b4_new (w.alloc (.cells #[.string s, .int .i64 (a : Int), .int .i64 n, .int .i64 (d : Int)] 65)) (.string s) (.int .i64 (a : Int)) (.int .i64 n) (.int .i64 (d : Int)) (w.heap.size + 1) (by simp)).cells
  exact bodyPost_ret (v := St s a n d) (by simp [results, Tryz.results63, go_sem, c0, c1, c2, c3]) rfl ⟨rfl, bthen (below_alloc _ _) (below_alloc _ _)⟩
theorem byte_eq (b c : UInt8) : ((b.toNat : Int) == (c.toNat : Int)) = (b == c) := by
  rw [Bool.eq_iff_iff, beq_iff_eq, beq_iff_eq]
  constructor
  · intro h
    exact UInt8.toNat_inj.1 (by omega)
  · rintro rfl
    rfl
set_option maxHeartbeats 1000000 in
theorem is_any (s : ByteArray) (a : Nat) (d : Nat) (c : UInt8) (u : List UInt8) (w : World) (h : At s a u) (hs : s.size ≤ 4294967296) (q : Bool) (hq : (u.head? == some c) = q) :
    Calls Tryz.prog 94 #[St s a 0 d, .int .u8 (c.toNat : Int)] w fun e' w' => e' = .returned (.bool q) ∧ Below w.heap.size w w' := by
  cases u with
  | nil =>
    have hl := h.len
    rw [List.length_nil] at hl
    have h1 : ¬ a < s.size := by omega
    have h2 : q = false := by rw [← hq]; rfl
    subst h2
    clear hq h hl
    go_enter Tryz.func94, Tryz.ntmps94
    go_wp2_with fail
    go_ret
    exact ⟨rfl, below_alloc _ _⟩
  | cons b t =>
    obtain ⟨hl, hb⟩ := h.byte
    have h2 : (((s[a]'hl).toNat : Int) == (c.toNat : Int)) = q := by
      rw [byte_eq, hb, ← hq]
      rfl
    have H2 : Hid _ := h2
    clear hq h hb h2
    go_enter Tryz.func94, Tryz.ntmps94
    go_wp2_with fail
    rw [H2.out]
    go_ret
    exact ⟨rfl, below_alloc _ _⟩
end Go.Proofs.YtapcmbbhhclepaaGreatDoor
