/-
  What this claim takes of the earlier layers' texts: WKeys WRight WPart RFactsM XTabs.
-/
import Derived.Test.YtapcmbbhhclepaaGreatDoorS22
import Derived.Deep.DeepCutAuto
import Derived.BigQuiet
import Derived.Lib.QuietBelow
import Derived.BigRegion
import Derived.Lib.LaidTab
import Derived.WalkSmall
import Derived.Deep.DeepHandedRow
set_option linter.unusedVariables false
set_option linter.unusedSimpArgs false
set_option maxRecDepth 100000
namespace Go.Proofs.YtapcmbbhhclepaaGreatDoor
open Go.RowKit Go.Sort
set_option maxHeartbeats 1000000 in
set_option maxRecDepth 100000 in
theorem refKeys_any {a1 : Option Addr} {n1 c1 : Nat} {ks : List ByteArray} {w : World} {S : Nat → Prop} (h : Strs w S (.slice a1 n1 c1) ks) (hl : ks.length ≤ 4294967296) (r : Bool) (hr : V.rises ks = r) :
    Calls Tryz.prog 52 #[.slice a1 n1 c1] w fun e w' => e = .returned (.bool r) ∧ Below w.heap.size w w' := by
  obtain ⟨rfl,hc1,hc2,hsz,hcell⟩ := h.out
  subst hr
  have HS := hide hsz
  have HC := hide hcell
  clear hsz hcell h hc1 hc2
  go_enter Tryz.func52,Tryz.ntmps52
  go_wp2_with fail
  go_loopg [3] ks.length (fun g i wr => ∃ j : Nat,j + g = ks.length ∧ i = .int .i64 j ∧ Hid (V.risesTo ks j = true) ∧ Below w.heap.size w wr)
  case atStart => exact ⟨0,by omega,rfl,rfl,Below.refl _ _⟩
  case round =>
    obtain ⟨j,hj,rfl,HR,bj⟩ := hrel
    by_cases hlt : j < ks.length
    · obtain ⟨b,off,K,rfl,hK,ej⟩ := str_at' HC.out bj hlt
      have zj := getD_size HS.out j
      rw [← hK.out] at zj
      cases hu : V.utf K with
      | false =>
        have hz : (0 : Int) ≤ Gm.checkZ K.data.toList := by simpa [V.utf] using hu
        obtain ⟨z,hz'⟩ : ∃ z,Gm.checkZ K.data.toList = z := ⟨_,rfl⟩
        rw [hz'] at hz
        have HU := hide hu
        have HZ := hide hz'
        clear hu hz'
        go_wp2_with fail
        have k1 := cell_regrown ej
        have hz2 : decide (0 ≤ z) = true := decide_eq_true hz
        have cQ : ∀ d os,Calls Tryz.prog 51 #[.string K] (grow (redrawn wr d) os) fun e w'' => e = .returned (.int .i64 z) ∧ ∃ p : Regrown,w'' = grow (redrawn wr p.d) p.os := fun d os => Calls.regrown_of (refCheck_is _ _ _ zj HZ.out)
        refine wp_region_quiet_below (by kernel_rfl) (by kernel_rfl) ?_
        repeat (go_big_quiet_step (exact cQ _ _))
        refine wpQuiet_nil ?_
        intro _ hw'
        obtain ⟨⟨dq,osq⟩,rfl⟩ := hw'
        have b1 := below_regrown wr dq osq
        generalize grow (redrawn wr dq) osq = w1 at *
        clear k1 cQ
        go_wp2
        go_ret
        refine ⟨?_,bthen bj b1⟩
        have q1 : V.keyOk ks j = false := by simp only [V.keyOk,← hK.out,HU.out,Bool.false_and]
        have q2 : V.risesTo ks (j + 1) = false := by simp only [V.risesTo,q1,Bool.and_false]
        have q3 := V.risesTo_mono q2 (m := ks.length) (by omega)
        simp [V.rises,q3]
      | true =>
        have hz : Gm.checkZ K.data.toList < 0 := by simpa [V.utf] using hu
        obtain ⟨z,hz'⟩ : ∃ z,Gm.checkZ K.data.toList = z := ⟨_,rfl⟩
        rw [hz'] at hz
        have hz2 : decide (0 ≤ z) = false := decide_eq_false (by omega)
        have HU := hide hu
        have HZ := hide hz'
        have k1 := cell_regrown ej
        have cQ : ∀ d os,Calls Tryz.prog 51 #[.string K] (grow (redrawn wr d) os) fun e w'' => e = .returned (.int .i64 z) ∧ ∃ p : Regrown,w'' = grow (redrawn wr p.d) p.os := fun d os => Calls.regrown_of (refCheck_is _ _ _ zj HZ.out)
        clear hu hz' hz
        by_cases hj0 : j = 0
        · have HJ := hide hj0
          have hj1 : decide (0 < j) = false := decide_eq_false (by omega)
          clear hj0
          go_wp2_with fail
          refine wp_region_quiet_below (by kernel_rfl) (by kernel_rfl) ?_
          repeat (go_big_quiet_step (exact cQ _ _))
          refine wpQuiet_nil ?_
          intro _ hw'
          obtain ⟨⟨dq,osq⟩,rfl⟩ := hw'
          have b1 := below_regrown wr dq osq
          generalize grow (redrawn wr dq) osq = w1 at *
          clear k1 cQ
          go_wp2
          go_roundg (gk - 1)
          case measure => omega
          case rel =>
            refine ⟨j + 1,by omega,rfl,?_,bthen bj b1⟩
            have q0 : (j == 0) = true := by rw [HJ.out]; rfl
            have hr := HR.out
            simp only [Hid,V.risesTo,V.keyOk,← hK.out,HU.out,hr,q0,Bool.true_or,Bool.and_self]
        · obtain ⟨b',off',K',hb',hK',ei⟩ := str_at' HC.out bj (i := j - 1) (by omega)
          have zi := getD_size HS.out (j - 1)
          rw [← hK'.out] at zi
          simp only [Option.some.injEq,Addr.mk.injEq,and_true] at hb'
          obtain ⟨rfl,rfl⟩ := hb'
          have k2 := cell_regrown ei
          have hj1 : (0 : Int) < (j : Int) := by omega
          have hj2 : decide (0 < j) = true := decide_eq_true (by omega)
          cases hle : V.less K' K with
          | true =>
            have HL := hide hle
            clear hle
            have cL : ∀ d os,Calls Tryz.prog 56 #[.string K',.string K] (grow (redrawn wr d) os) fun e w'' => e = .returned (.bool true) ∧ ∃ p : Regrown,w'' = grow (redrawn wr p.d) p.os := fun d os => Calls.regrown_of (by have := refLess_any K' K (grow (redrawn wr d) os) zi zj; rwa [show Op.bytesLess K'.toList K.toList = true from HL.out] at this)
            go_wp2_with fail
            refine wp_region_quiet_below (by kernel_rfl) (by kernel_rfl) ?_
            repeat (go_big_quiet_step (first | exact cQ _ _ | exact cL _ _))
            refine wpQuiet_nil ?_
            intro _ hw'
            obtain ⟨⟨dq,osq⟩,rfl⟩ := hw'
            have b1 := below_regrown wr dq osq
            generalize grow (redrawn wr dq) osq = w1 at *
            clear k1 k2 cQ cL
            go_wp2
            go_roundg (gk - 1)
            case measure => omega
            case rel =>
              refine ⟨j + 1,by omega,rfl,?_,bthen bj b1⟩
              have hr := HR.out
              simp only [Hid,V.risesTo,V.keyOk,← hK.out,← hK'.out,HU.out,HL.out,hr,Bool.or_true,Bool.and_true]
          | false =>
            have HL := hide hle
            clear hle
            have cL : ∀ d os,Calls Tryz.prog 56 #[.string K',.string K] (grow (redrawn wr d) os) fun e w'' => e = .returned (.bool false) ∧ ∃ p : Regrown,w'' = grow (redrawn wr p.d) p.os := fun d os => Calls.regrown_of (by have := refLess_any K' K (grow (redrawn wr d) os) zi zj; rwa [show Op.bytesLess K'.toList K.toList = false from HL.out] at this)
            go_wp2_with fail
            refine wp_region_quiet_below (by kernel_rfl) (by kernel_rfl) ?_
            repeat (go_big_quiet_step (first | exact cQ _ _ | exact cL _ _))
            refine wpQuiet_nil ?_
            intro _ hw'
            obtain ⟨⟨dq,osq⟩,rfl⟩ := hw'
            have b1 := below_regrown wr dq osq
            generalize grow (redrawn wr dq) osq = w1 at *
            clear k1 k2 cQ cL
            go_wp2
            go_ret
            refine ⟨?_,bthen bj b1⟩
            have q1 : V.keyOk ks j = false := by
              have : (j == 0) = false := by simp; omega
              simp only [V.keyOk,← hK.out,← hK'.out,HU.out,HL.out,this,Bool.or_self,Bool.and_false]
            have q2 : V.risesTo ks (j + 1) = false := by simp only [V.risesTo,q1,Bool.and_false]
            have q3 := V.risesTo_mono q2 (m := ks.length) (by omega)
            simp [V.rises,q3]
    · have hje : j = ks.length := by omega
      subst hje
      go_wp2
      go_ret
      refine ⟨?_,bj⟩
      have hr := HR.out
      simp [V.rises,hr]
end Go.Proofs.YtapcmbbhhclepaaGreatDoor
namespace Go.Proofs.YtapcmbbhhclepaaGreatDoor
open Go.RowKit
theorem num_ok1 {k n : Int} (h0 : 0 ≤ k) (h5 : k ≤ 5) (hk : (k == 1) = true) (hn : ((n == 0) || (n == 1)) = true) : (!(V.kindOk k && V.numOk k n)) = false := by
  have e : k = 1 := by simpa using hk
  subst e
  simp [V.kindOk,V.numOk,hn]
theorem num_ok0 {k n : Int} (h0 : 0 ≤ k) (h5 : k ≤ 5) (hn : (n != 0) = false) : (!(V.kindOk k && V.numOk k n)) = false := by
  have e : n = 0 := by simpa using hn
  subst e
  simp [V.kindOk,h0,h5,V.numOk]
theorem num_bad0 {k n : Int} (hn : (n != 0) = true) (h1 : (k != 1) = true) (h2 : (k != 2) = true) : (!(V.kindOk k && V.numOk k n)) = true := by
  have e : n ≠ 0 := by simpa using hn
  have e1 : k ≠ 1 := by simpa using h1
  have e2 : k ≠ 2 := by simpa using h2
  simp [V.numOk,e,e1,e2]
theorem num_ok2 {k n : Int} (h0 : 0 ≤ k) (h5 : k ≤ 5) (h2 : (k != 2) = false) (hA : -9007199254740991 ≤ n) (hB : n ≤ 9007199254740991) : (!(V.kindOk k && V.numOk k n)) = false := by
  have e2 : k = 2 := by simpa using h2
  subst e2
  simp [V.kindOk,V.numOk,hA,hB]
theorem num_bad2 {k n : Int} (h2 : (k != 2) = false) (h : n < -9007199254740991 ∨ 9007199254740991 < n) : (!(V.kindOk k && V.numOk k n)) = true := by
  have e2 : k = 2 := by simpa using h2
  subst e2
  simp [V.kindOk,V.numOk]
  omega
theorem num_bad1 {k n : Int} (hn : (n != 0) = true) (h1 : (k == 1) = true) (h2 : (n != 1) = true) : (!(V.kindOk k && V.numOk k n)) = true := by
  have e : n ≠ 0 := by simpa using hn
  have e1 : k = 1 := by simpa using h1
  have e2 : n ≠ 1 := by simpa using h2
  simp [V.numOk,e,e1,e2]
theorem ors_false {k n : Int} (h0 : 0 ≤ k) (h5 : k ≤ 5) (hA : -9007199254740991 ≤ n) (hB : n ≤ 9007199254740991) : (decide (k < 0) || decide (5 < k) || decide (n < -9007199254740991) || decide (9007199254740991 < n)) = false := by
  rw [decide_eq_false (by omega),decide_eq_false (by omega),decide_eq_false (by omega),decide_eq_false (by omega)]; rfl
theorem textOk3 {k : Int} {t : ByteArray} (hk : k = 3) (ht : t.toList.isEmpty = false) : V.textOk k t = V.utf t := by simp [V.textOk,hk,ht]
theorem num_badk {k n : Int} (h : k < 0 ∨ 5 < k) : (!(V.kindOk k && V.numOk k n)) = true := by
  have e : V.kindOk k = false := by simp [V.kindOk]; omega
  simp [e]
set_option maxHeartbeats 8000000 in
set_option maxRecDepth 100000 in
theorem refRight_any (d : Nat) : ∀ (v : Value) (x : V) (w : World) (S : Nat → Prop),IsD w S d v x → V.wt x ≤ 4294967296 →
    Calls Tryz.prog 22 #[v] w fun e w' => e = .returned (.bool (V.right x)) ∧ Below w.heap.size w w' := by
  induction d with
  | zero => intro v x w S h; exact h.elim
  | succ d ih =>
    intro v x w S h hwt
    obtain ⟨kv,a,cap,c,rfl,h2,h3,h4,h5,h6,h7⟩ := h
    obtain ⟨k,n,t,ks,l⟩ := x
    simp only at *
    rw [V.wt_mk] at hwt
    have hlen : l.length ≤ 4294967296 := Nat.le_trans (V.wtL_len l) (by omega)
    have hlenk : ks.length ≤ 4294967296 := Nat.le_trans (V.wtK_len ks) (by omega)
    have HW := hide hwt
    clear hwt
    obtain ⟨a1,c1,rfl,_⟩ := id h2
    rw [V.right_mk]
    go_enter Tryz.func22,Tryz.ntmps22
    go_upto_region 1 with fail
    go_cut [51] (fun s wc => s = .bool (!(V.kindOk k && V.numOk k n)) ∧ wc = w.alloc (.cells #[.int .i64 k,.int .i64 n,.string t,.slice a1 ks.length c1,.slice a l.length cap] 27))
    case first =>
      by_cases c1' : 0 ≤ k
      · by_cases c2' : k ≤ 5
        · cases b1 : (n != 0) with
          | false =>
            have hn : n = 0 := by simpa using b1
            have hA : -9007199254740991 ≤ n := by omega
            have hB : n ≤ 9007199254740991 := by omega
            have HN := hide hn
            clear hn
            cases b4 : (k == 1) with
            | true =>
              go_wp2_with fail
              go_meet
              exact ⟨congrArg Value.bool ((ors_false c1' c2' hA hB).trans (num_ok1 c1' c2' b4 (by rw [HN.out]; rfl)).symm),rfl⟩
            | false =>
              go_wp2_with fail
              go_meet
              exact ⟨congrArg Value.bool ((ors_false c1' c2' hA hB).trans (num_ok0 c1' c2' b1).symm),rfl⟩
          | true =>
            cases b2 : (k != 1) with
            | true =>
              have b4 : (k == 1) = false := by simpa using b2
              cases b3 : (k != 2) with
              | true =>
                go_wp2_with fail
                go_meet
                exact ⟨congrArg Value.bool (num_bad0 b1 b2 b3).symm,rfl⟩
              | false =>
                by_cases hA : -9007199254740991 ≤ n
                · by_cases hB : n ≤ 9007199254740991
                  · go_wp2_with fail
                    go_meet
                    exact ⟨congrArg Value.bool ((ors_false c1' c2' hA hB).trans (num_ok2 c1' c2' b3 hA hB).symm),rfl⟩
                  · go_wp2_with fail
                    go_meet
                    exact ⟨congrArg Value.bool (num_bad2 b3 (.inr (by omega))).symm,rfl⟩
                · go_wp2_with fail
                  go_meet
                  exact ⟨congrArg Value.bool (num_bad2 b3 (.inl (by omega))).symm,rfl⟩
            | false =>
              have b4 : (k == 1) = true := by simpa using b2
              cases b5 : (n != 1) with
              | true =>
                go_wp2_with fail
                go_meet
                exact ⟨congrArg Value.bool (num_bad1 b1 b4 b5).symm,rfl⟩
              | false =>
                have hn : n = 1 := by simpa using b5
                have hA : -9007199254740991 ≤ n := by omega
                have hB : n ≤ 9007199254740991 := by omega
                have HN := hide hn
                clear hn
                go_wp2_with fail
                go_meet
                exact ⟨congrArg Value.bool ((ors_false c1' c2' hA hB).trans (num_ok1 c1' c2' b4 (by rw [HN.out]; rfl)).symm),rfl⟩
        · go_wp2_with fail
          go_meet
          exact ⟨congrArg Value.bool (num_badk (.inr (by omega))).symm,rfl⟩
      · go_wp2_with fail
        go_meet
        exact ⟨congrArg Value.bool (num_badk (.inl (by omega))).symm,rfl⟩
    case rest =>
      obtain ⟨rfl,rfl⟩ := hcut
      cases hkn : (V.kindOk k && V.numOk k n) with
      | false =>
        go_wp2_with fail
        go_ret
        refine ⟨ret_bool ?_,below_alloc _ _⟩
        rw [hkn]
        simp only [Bool.false_and]
      | true =>
        have HKN := hide hkn
        clear hkn
        have hbx := box5_new w (.int .i64 k) (.int .i64 n) (.string t) (.slice a1 ks.length c1) (.slice a l.length cap) 27
        go_upto_region 3 with fail
        go_cut [65] (fun s wc => s = .bool (!(V.textOk k t)) ∧ Below w.heap.size w wc ∧ Box5 wc w.heap.size (.int .i64 k) (.int .i64 n) (.string t) (.slice a1 ks.length c1) (.slice a l.length cap))
        case first =>
          cases hte : t.toList.isEmpty with
          | true =>
            go_wp2_with fail
            go_meet
            exact ⟨by simp [V.textOk,hte],below_alloc _ _,hbx⟩
          | false =>
            cases b3 : (k != 3) with
            | true =>
              go_wp2_with fail
              go_meet
              have : k ≠ 3 := by simpa using b3
              exact ⟨by simp [V.textOk,hte,this],below_alloc _ _,hbx⟩
            | false =>
              go_wp2_with fail
              refine (refCheck_is _ _ _ h5 rfl).mono ?_
              rintro e w1 ⟨rfl,b1⟩
              go_wp2_with fail
              go_meet
              have : k = 3 := by simpa using b3
              exact ⟨congrArg Value.bool (by rw [textOk3 this hte]; rw [Bool.eq_iff_iff]; simp [V.utf]),bthen (below_alloc _ _) b1,hbx.keep b1⟩
        case rest =>
          clear hbx
          obtain ⟨rfl,bc,hbx⟩ := hcut
          cases htx : V.textOk k t with
          | false =>
            go_wp2_with fail
            go_ret
            refine ⟨ret_bool ?_,bc⟩
            rw [htx,Bool.and_false,Bool.false_and,Bool.false_and,Bool.false_and]
          | true =>
            have HTX := hide htx
            clear htx
            have bcw := bc
            obtain ⟨x0,x1,x2,x3,x4⟩ := id hbx
            go_upto_region 5 with fail
            go_cut [94] (fun s wc => s = .bool (!(V.keysOk k ks l.length)) ∧ Below w.heap.size w wc ∧ Box5 wc w.heap.size (.int .i64 k) (.int .i64 n) (.string t) (.slice a1 ks.length c1) (.slice a l.length cap))
            case first =>
              cases b5 : (k != 5) with
              | true =>
                have b5' : (k == 5) = false := by simpa using b5
                have hk5 : k ≠ 5 := by simpa using b5
                have HK5 := hide hk5
                clear hk5
                by_cases hke : 0 < ks.length
                · have hke' : (0 : Int) < (ks.length : Int) := by omega
                  go_wp2_with fail
                  go_meet
                  refine ⟨congrArg Value.bool ?_,bc,hbx⟩
                  unfold V.keysOk
                  rw [if_neg HK5.out]
                  cases ks with
                  | nil => simp at hke
                  | cons _ _ => rfl
                · have hke' : decide (0 < ks.length) = false := decide_eq_false hke
                  go_wp2_with fail
                  go_meet
                  refine ⟨congrArg Value.bool ?_,bc,hbx⟩
                  unfold V.keysOk
                  rw [if_neg HK5.out]
                  cases ks with
                  | nil => rfl
                  | cons _ _ => simp at hke
              | false =>
                have b5' : (k == 5) = true := by simpa using b5
                have hk5 : k = 5 := by simpa using b5
                have HK5 := hide hk5
                clear hk5
                by_cases hle : ks.length = l.length
                · have HLE := hide hle
                  have hne : ((ks.length : Int) != (l.length : Int)) = false := by simp; omega
                  clear hle
                  go_wp2_with fail
                  refine (refKeys_any (h2.below bc) hlenk _ rfl).mono ?_
                  rintro e w1 ⟨rfl,b1⟩
                  go_wp2_with fail
                  go_meet
                  refine ⟨congrArg Value.bool ?_,bthen bc b1,hbx.keep b1⟩
                  unfold V.keysOk
                  rw [if_pos HK5.out,decide_eq_true HLE.out,Bool.and_true]
                · have HLE := hide hle
                  have hne : ((ks.length : Int) != (l.length : Int)) = true := by simp; omega
                  clear hle
                  go_wp2_with fail
                  go_meet
                  refine ⟨congrArg Value.bool ?_,bc,hbx⟩
                  unfold V.keysOk
                  rw [if_pos HK5.out,decide_eq_false HLE.out,Bool.and_false]
                  rfl
            case rest =>
              clear hbx bc x0 x1 x2 x3 x4
              obtain ⟨rfl,bc,hbx⟩ := hcut
              cases hky : V.keysOk k ks l.length with
              | false =>
                go_wp2_with fail
                go_ret
                refine ⟨ret_bool ?_,bc⟩
                rw [hky,Bool.and_false,Bool.false_and,Bool.false_and]
              | true =>
                have HKY := hide hky
                clear hky
                obtain ⟨x0,x1,x2,x3,x4⟩ := id hbx
                go_upto_region 7 with fail
                go_cut [103] (fun s wc => s = .bool (decide (k < 4) && decide (0 < l.length)) ∧ Below w.heap.size w wc ∧ Box5 wc w.heap.size (.int .i64 k) (.int .i64 n) (.string t) (.slice a1 ks.length c1) (.slice a l.length cap))
                case first =>
                  by_cases hk4 : k < 4
                  · go_wp2_with fail
                    go_meet
                    exact ⟨congrArg Value.bool (by rw [decide_eq_true hk4,Bool.true_and]),bc,hbx⟩
                  · go_wp2_with fail
                    go_meet
                    exact ⟨congrArg Value.bool (by rw [decide_eq_false (by omega),Bool.false_and]),bc,hbx⟩
                case rest =>
                  clear hbx bc x0 x1 x2 x3 x4
                  obtain ⟨rfl,bc,hbx⟩ := hcut
                  cases hk4 : (decide (k < 4) && decide (0 < l.length)) with
                  | true =>
                    go_wp2_with fail
                    go_ret
                    refine ⟨ret_bool ?_,bc⟩
                    simp only [Bool.and_eq_true,decide_eq_true_eq] at hk4
                    have e1 : (k == 4) = false := by rw [beq_eq_false_iff_ne]; omega
                    have e2 : (k == 5) = false := by rw [beq_eq_false_iff_ne]; omega
                    have e3 : l.isEmpty = false := by
                      cases l with
                      | nil => simp at hk4
                      | cons _ _ => rfl
                    rw [e1,e2,e3,Bool.or_false,Bool.or_false,Bool.and_false]
                  | false =>
                    have hlast : V.kindOk k = true → ((k == 4) || (k == 5) || l.isEmpty) = true := by
                      intro hko
                      simp only [V.kindOk,Bool.and_eq_true,decide_eq_true_eq] at hko
                      by_cases h4' : k < 4
                      · rw [decide_eq_true h4',Bool.true_and] at hk4
                        have : l = [] := List.eq_nil_of_length_eq_zero (by have := of_decide_eq_false hk4; omega)
                        subst this
                        simp
                      · have : k = 4 ∨ k = 5 := by omega
                        rcases this with rfl | rfl <;> simp
                    have HLA := hide hlast
                    have HK4 := hide hk4
                    clear hlast
                    go_wp2_with fail
                    clear hk4
                    go_loopg [3] l.length (fun g i wr => ∃ j : Nat,j + g = l.length ∧ i = .int .i64 j ∧ Hid ((l.take j).all V.right = true) ∧ Below w.heap.size w wr ∧ Box5 wr w.heap.size (.int .i64 k) (.int .i64 n) (.string t) (.slice a1 ks.length c1) (.slice a l.length cap))
                    case atStart => exact ⟨0,by omega,rfl,rfl,bc,hbx⟩
                    case round =>
                      clear hbx bc
                      obtain ⟨j,hj,rfl,HA,bj,hbox⟩ := hrel
                      obtain ⟨x0,x1,x2,x3,x4⟩ := id hbox
                      by_cases hlt : j < l.length
                      · obtain ⟨b,off,k',n',t',a1',n1',c1',a2',n2',c2',rfl,hel,e0,e1,e2,e3,e4⟩ := elem_open h6 bj hlt (h7 j hlt)
                        have hwx := V.wtL_mem (List.getElem_mem hlt)
                        have H1 := hide hwx
                        clear hwx
                        cases hrx : V.right l[j] with
                        | true =>
                          have HX := hide hrx
                          clear hrx
                          go_wp2_with fail
                          refine (ih _ _ _ S hel (Nat.le_trans H1.out (by have := HW.out; omega))).mono ?_
                          rintro e w2 ⟨rfl,b2⟩
                          rw [HX.out]
                          have hbox' := hbox.keep b2
                          go_wp2
                          go_roundg (gk - 1)
                          case measure => omega
                          case rel =>
                            refine ⟨j + 1,by omega,rfl,?_,bthen bj b2,hbox'⟩
                            unfold Hid
                            rw [List.take_succ_eq_append_getElem hlt,List.all_append,HA.out]
                            simp [HX.out]
                        | false =>
                          have HX := hide hrx
                          clear hrx
                          go_wp2_with fail
                          refine (ih _ _ _ S hel (Nat.le_trans H1.out (by have := HW.out; omega))).mono ?_
                          rintro e w2 ⟨rfl,b2⟩
                          rw [HX.out]
                          go_wp2
                          go_ret
                          refine ⟨ret_bool ?_,bthen bj b2⟩
                          have q : l.all V.right = false := by
                            rw [List.all_eq_false]
                            exact ⟨l[j],List.getElem_mem hlt,by simp [HX.out]⟩
                          rw [q,Bool.and_false,Bool.false_and]
                      · have hje : j = l.length := by omega
                        subst hje
                        have HA' : l.all V.right = true := by have := HA.out; rwa [List.take_length] at this
                        have HAA := hide HA'
                        clear HA'
                        go_wp2
                        go_ret
                        refine ⟨ret_bool ?_,bj⟩
                        have hkn := HKN.out
                        have hko : V.kindOk k = true := by
                          rw [Bool.and_eq_true] at hkn; exact hkn.1
                        rw [hkn,HTX.out,HKY.out,HAA.out,HLA.out hko]
                        rfl
theorem refRight_is {v : Value} {x : V} {w : World} {S : Nat → Prop} (h : Is w S v x) (hwt : V.wt x ≤ 4294967296) (r : Bool) (hn : V.right x = r) :
    Calls Tryz.prog 22 #[v] w fun e w' => e = .returned (.bool r) ∧ Below w.heap.size w w' := by
  subst hn
  obtain ⟨d,h⟩ := h
  exact refRight_any d v x w S h hwt
end Go.Proofs.YtapcmbbhhclepaaGreatDoor
namespace Go.Proofs.YtapcmbbhhclepaaGreatDoor
open Go.RowKit
namespace V
def part (zs : List Int) (len : Nat) (k : Int) : V :=
  if (valV zs len).list.isEmpty || !(valV zs len).right then nul else (valV zs len).list.getD (k.toNat % (valV zs len).list.length) nul
theorem wt_part (zs : List Int) (len : Nat) (k : Int) : wt (part zs len k) ≤ 4000 := by
  unfold part
  have hn : wt nul = 1 := by unfold nul; rw [wt_mk]; rfl
  split
  · omega
  · have h1 := wt_val zs len
    simp only [List.getD]
    cases h : (valV zs len).list[k.toNat % (valV zs len).list.length]? with
    | none => simp only [Option.getD_none]; omega
    | some x =>
      have hm := List.mem_of_getElem? h
      have h2 := wtL_mem hm
      have h3 := wtL_list (valV zs len)
      simp only [Option.getD_some]
      omega
theorem right_nul : right nul = true := by
  unfold nul
  rw [right_mk]
  have e2 : textOk 0 ⟨#[]⟩ = true := by unfold textOk; rw [Lib.toList_data]; rfl
  rw [e2]
  rfl
theorem right_part (zs : List Int) (len : Nat) (k : Int) : right (part zs len k) = true := by
  unfold part
  split
  · exact right_nul
  · rename_i h
    simp only [Bool.or_eq_true,Bool.not_eq_true',not_or,Bool.not_eq_true,Bool.not_eq_false] at h
    have hr := h.2
    have hl : 0 < (valV zs len).list.length := by
      rcases Nat.eq_zero_or_pos (valV zs len).list.length with e | e
      · have := List.eq_nil_of_length_eq_zero e
        rw [this] at h
        simp at h
      · exact e
    have hlt : k.toNat % (valV zs len).list.length < (valV zs len).list.length := Nat.mod_lt _ hl
    have e : (valV zs len).list.getD (k.toNat % (valV zs len).list.length) nul = (valV zs len).list[k.toNat % (valV zs len).list.length] := by simp [List.getD,hlt]
    rw [e]
    have hall : (valV zs len).list.all right = true := by
      generalize valV zs len = x at hr
      obtain ⟨kk,n,t,ks,l⟩ := x
      rw [right_mk] at hr
      simp only [Bool.and_eq_true] at hr
      exact hr.1.2
    exact List.all_eq_true.1 hall _ (List.getElem_mem hlt)
end V
theorem isRow_keep {w w' : World} {a : Option Addr} {len cap : Nat} {zs : List Int} (h : IsRow .u8 w a len cap zs) (k : Below w.heap.size w w') : IsRow .u8 w' a len cap zs := by
  rcases h with h | ⟨x,ha,hl,hm,hz,hcell,hwz⟩
  · exact .inl h
  · exact .inr ⟨x,ha,hl,hm,hz,fun i hi => by rw [k.cell (p := x.add i) (World.block_lt_of_cell? w _ (hcell i hi))]; exact hcell i hi,hwz⟩
set_option maxHeartbeats 4000000 in
set_option maxRecDepth 100000 in
theorem part_any (a : Option Addr) (len cap : Nat) (zs : List Int) (k : Int) (w : World) (h : IsRow .u8 w a len cap zs) (hk0 : 0 ≤ k) (hk1 : k ≤ 255) :
    Calls Tryz.prog 14 #[.slice a len cap,.int .u8 k] w fun e w' => ∃ k2 n t a1 n1 c1 a2 n2 c2,e = .returned (.agg #[.int .i64 k2,.int .i64 n,.string t,.slice a1 n1 c1,.slice a2 n2 c2]) ∧ Is w' (fun b => w.heap.size ≤ b) (.agg #[.int .i64 k2,.int .i64 n,.string t,.slice a1 n1 c1,.slice a2 n2 c2]) (V.part zs len k) ∧ Below w.heap.size w w' := by
  have HH := hide h
  clear h
  go_enter Tryz.func14,Tryz.ntmps14
  go_wp2_with fail
  refine (val_any a len cap zs _ (isRow_keep HH.out (below_alloc _ _))).mono ?_
  rintro e w1 ⟨va,vn,vc,rfl,hv,b1⟩
  have hw := V.wt_val zs len
  obtain ⟨r1,r2,r3,r4,rfl⟩ := hv.parts
  clear r1 r2 r3 r4
  have hl := V.len_wt (V.valV zs len)
  obtain ⟨X,hX⟩ : ∃ X,V.valV zs len = X := ⟨_,rfl⟩
  rw [hX] at hv hw hl
  rw [hX]
  have hp : V.part zs len k = if X.list.isEmpty || !X.right then V.nul else X.list.getD (k.toNat % X.list.length) V.nul := by unfold V.part; rw [hX]
  have HP := hide hp
  have HV := hide hv
  have HW := hide hw
  have hl2 : X.list.length ≤ 4000 := by omega
  have pr : BoxF w1 w.heap.size _ _ _ _ _ := (boxF_at w _ _ _ _ _ 27 _ rfl).keep b1
  have bb := bthen (below_alloc w _) b1
  clear hp hv hw hl hX b1
  obtain ⟨LV,hLV⟩ : ∃ l,X.list = l := ⟨_,rfl⟩
  rw [hLV]
  rw [hLV] at hl2
  have HLV := hide hLV
  clear hLV
  by_cases h0 : LV.length = 0
  · have hb : ((LV.length : Int) == 0) = true := by simp [h0]
    have H0 := hide h0
    clear h0
    obtain ⟨⟨y0,y1,y2,y3,y4⟩,g0,g1,g2,g3,g4⟩ := id (pr.keep (below_alloc w1 (.cells #[.int .i64 4,.int .i64 0,.string ⟨#[]⟩,.slice none 0 0,.slice va LV.length vc] 27)))
    go_wp2_with fail
    obtain ⟨u0,u1,u2,u3,u4⟩ := Box5.all (pr.keep (below_alloc w1 (.cells #[.int .i64 4,.int .i64 0,.string ⟨#[]⟩,.slice none 0 0,.slice va LV.length vc] 27))).1 (.int .i64 0) (.int .i64 0) (.string ⟨#[]⟩) (.slice none 0 0) (.slice none 0 0)
    refine bodyPost_ret (v := .agg #[.int .i64 0,.int .i64 0,.string ⟨#[]⟩,.slice none 0 0,.slice none 0 0]) (by simp [results,Tryz.results14,go_sem,u0,u1,u2,u3,u4]) rfl ?_
    refine ⟨0,0,⟨#[]⟩,none,0,0,none,0,0,rfl,?_,(((((bthen bb (below_alloc _ _)).setCell (Nat.le_refl _) _).setCell (Nat.le_refl _) _).setCell (Nat.le_refl _) _).setCell (Nat.le_refl _) _).setCell (Nat.le_refl _) _⟩
    have e : V.part zs len k = V.nul := by
      rw [HP.out,HLV.out,List.eq_nil_of_length_eq_zero H0.out]
      rfl
    rw [e]
    exact is_plain _ _ 0 0 ⟨#[]⟩ (by decide)
  · have hb : ((LV.length : Int) == 0) = false := by rw [beq_eq_false_iff_ne]; omega
    have hne : LV.isEmpty = false := by
      cases LV with
      | nil => simp at h0
      | cons _ _ => rfl
    have HNE := hide hne
    clear hne
    have hvv : Is (w1.alloc (.cells #[.int .i64 4,.int .i64 0,.string ⟨#[]⟩,.slice none 0 0,.slice va LV.length vc] 27)) (fun b => w.heap.size + 1 ≤ b) (.agg #[.int .i64 4,.int .i64 0,.string ⟨#[]⟩,.slice none 0 0,.slice va LV.length vc]) X := by
      have := HV.out
      rw [HLV.out] at this
      exact (this.weak (fun b _ hb => by simpa using hb)).below (below_alloc _ _)
    cases hr : X.right with
    | false =>
      have HR := hide hr
      clear hr
      go_wp2_with fail
      refine (refRight_is hvv (Nat.le_trans HW.out (by decide)) false HR.out).mono ?_
      rintro e w2 ⟨rfl,b2⟩
      have pr2 := (pr.keep (below_alloc _ _)).keep b2
      obtain ⟨⟨y0,y1,y2,y3,y4⟩,g0,g1,g2,g3,g4⟩ := id pr2
      go_wp2_with fail
      obtain ⟨u0,u1,u2,u3,u4⟩ := Box5.all pr2.1 (.int .i64 0) (.int .i64 0) (.string ⟨#[]⟩) (.slice none 0 0) (.slice none 0 0)
      refine bodyPost_ret (v := .agg #[.int .i64 0,.int .i64 0,.string ⟨#[]⟩,.slice none 0 0,.slice none 0 0]) (by simp [results,Tryz.results14,go_sem,u0,u1,u2,u3,u4]) rfl ?_
      refine ⟨0,0,⟨#[]⟩,none,0,0,none,0,0,rfl,?_,(((((bthen bb (bthen (below_alloc _ _) b2)).setCell (Nat.le_refl _) _).setCell (Nat.le_refl _) _).setCell (Nat.le_refl _) _).setCell (Nat.le_refl _) _).setCell (Nat.le_refl _) _⟩
      have e : V.part zs len k = V.nul := by rw [HP.out,HR.out]; simp
      rw [e]
      exact is_plain _ _ 0 0 ⟨#[]⟩ (by decide)
    | true =>
      have HR := hide hr
      clear hr
      go_wp2_with fail
      refine (refRight_is hvv (Nat.le_trans HW.out (by decide)) true HR.out).mono ?_
      rintro e w2 ⟨rfl,b2⟩
      have pr2 := (pr.keep (below_alloc _ _)).keep b2
      have pv2 := (boxF_at w1 (.int .i64 4) (.int .i64 0) (.string ⟨#[]⟩) (.slice none 0 0) (.slice va LV.length vc) 27 _ rfl).keep b2
      have hvv2 := hvv.below b2
      have hs1 : w.heap.size < w1.heap.size := cell_size pr.1.1
      obtain ⟨p,hp⟩ : ∃ p,k.toNat % LV.length = p := ⟨_,rfl⟩
      have hpl : p < LV.length := by rw [← hp]; exact Nat.mod_lt _ (by omega)
      obtain ⟨kv3,lv3,hq3,_,hl3,_⟩ := hvv2.open
      simp only [Value.agg.injEq,Array.mk.injEq,List.cons.injEq,and_true] at hq3
      obtain ⟨r1,r2,r3,r4,rfl⟩ := hq3
      clear r1 r2 r3 r4
      rw [HLV.out] at hl3
      obtain ⟨b,off,k3,m3,t3,a13,n13,c13,a23,n23,c23,rfl,hel,q0,q1,q2,q3,q4⟩ := isL_open hl3 (Below.refl _ _) hpl
      have hpI : k % (LV.length : Int) = (p : Int) := by
        rw [← hp]
        have : (k.toNat : Int) = k := Int.toNat_of_nonneg hk0
        rw [Int.natCast_emod,this]
      have hpt : k.tmod (LV.length : Int) = (p : Int) := by rw [Int.tmod_eq_emod_of_nonneg hk0]; exact hpI
      have hkw : IntKind.i64.wrap k = k := by rw [IntKind.wrap_i64]; omega
      have hlz : ((LV.length : Int) == 0) = false := hb
      have hlz' : ¬ (LV.length : Int) = 0 := by omega
      have hpw : IntKind.i64.wrap (p : Int) = (p : Int) := by rw [IntKind.wrap_i64]; omega
      have HEL := hide hel
      obtain ⟨⟨y0,y1,y2,y3,y4⟩,g0,g1,g2,g3,g4⟩ := id pr2
      obtain ⟨⟨v0,v1,v2,v3,v4⟩,_⟩ := id pv2
      have HPP := hide hp
      clear hel hvv hvv2 hl3 hp
      have hpL : (p : Int) < (LV.length : Int) := by omega
      go_wp2_with fail
      go_region
      go_wp2_with fail
      obtain ⟨u0,u1,u2,u3,u4⟩ := Box5.all pr2.1 (.int .i64 k3) (.int .i64 m3) (.string t3) (.slice a13 n13 c13) (.slice a23 n23 c23)
      refine bodyPost_ret (v := .agg #[.int .i64 k3,.int .i64 m3,.string t3,.slice a13 n13 c13,.slice a23 n23 c23]) (by simp [results,Tryz.results14,go_sem,u0,u1,u2,u3,u4]) rfl ?_
      refine ⟨k3,m3,t3,a13,n13,c13,a23,n23,c23,rfl,?_,?_⟩
      · have kp := keeps_set5 (S := fun b => w.heap.size + 1 ≤ b) (w := w2) (g := w.heap.size) (o := 0) (.int .i64 k3) (.int .i64 m3) (.string t3) (.slice a13 n13 c13) (.slice a23 n23 c23) (by omega)
        have e : V.part zs len k = LV[p] := by
          rw [HP.out,HR.out,HLV.out,HNE.out]
          simp only [Bool.not_true,Bool.or_self,Bool.false_eq_true,if_false]
          simp [List.getD,HPP.out,List.getElem?_eq_getElem hpl]
        rw [e]
        refine Is.weak (S := fun b => w.heap.size + 1 ≤ b) (Is.keep (w := w2) HEL.out ?_) (fun b _ hb => Nat.le_of_succ_le hb)
        exact fun b hb hl => kp b hb hl
      · exact ((((((bthen bb (bthen (below_alloc _ _) b2)).setCell (Nat.le_refl _) _).setCell (Nat.le_refl _) _).setCell (Nat.le_refl _) _).setCell (Nat.le_refl _) _).setCell (Nat.le_refl _) _).drew
end Go.Proofs.YtapcmbbhhclepaaGreatDoor
namespace Go.Proofs.YtapcmbbhhclepaaGreatDoor
open Go.RowKit
abbrev FactM := (Nat → Prop) → Value → World → Prop
def fctM (Fs : List FactM) (k : Nat) : FactM := Fs.getD k (fun _ _ _ => True)
def MonoM (f : FactM) : Prop := ∀ (M M' : Nat → Prop) v (w w' : World),f M v w → (∀ b,M b → M' b) → Below w.heap.size w w' → f M' v w'
def MonoMAll : List FactM → Prop
  | [] => True
  | f :: l => MonoM f ∧ MonoMAll l
theorem monoM_eq (x : Value) : MonoM (fun _ v _ => v = x) := fun _ _ _ _ _ h _ _ => h
theorem monoM_true : MonoM (fun _ _ _ => True) := fun _ _ _ _ _ _ _ _ => trivial
theorem MonoMAll.at {Fs : List FactM} (h : MonoMAll Fs) (k : Nat) : MonoM (fctM Fs k) := by
  induction Fs generalizing k with
  | nil => exact monoM_true
  | cons f l ih =>
    cases k with
    | zero => exact h.1
    | succ k => exact ih h.2 k
def AllFM (vs : Nat → Value) (M : Nat → Nat → Prop) (w : World) : Nat → List FactM → Prop
  | _,[] => True
  | k,f :: l => f (M k) (vs k) w ∧ AllFM vs M w (k + 1) l
theorem allFM_of {vs : Nat → Value} {M : Nat → Nat → Prop} {w : World} : ∀ (l : List FactM) (k : Nat),(∀ i,i < l.length → fctM l i (M (k + i)) (vs (k + i)) w) → AllFM vs M w k l
  | [],_,_ => trivial
  | f :: l,k,h => ⟨h 0 (by simp),allFM_of l (k + 1) (fun i hi => by
      have := h (i + 1) (by simp; omega)
      rw [show k + (i + 1) = k + 1 + i by omega] at this
      exact this)⟩
def ancB (L : List Oper) : Nat → Nat → Nat → Bool
  | 0,k,j => k == j
  | f + 1,k,j => (k == j) || (match L[k]? with | some o => (List.range L.length).any (fun d => depB o d && ancB L f d j) | none => false)
theorem ancB_self (L : List Oper) (f k : Nat) : ancB L f k k = true := by cases f <;> simp [ancB]
def ownM (L : List Oper) (lo hi : Nat → Nat) (k : Nat) : Nat → Prop := fun b => ∃ f j,ancB L f k j = true ∧ lo j ≤ b ∧ b < hi j
theorem ancB_dep {L : List Oper} {f k d j : Nat} {o : Oper} (ho : L[k]? = some o) (hd : depB o d = true) (hl : d < L.length) (h : ancB L f d j = true) : ancB L (f + 1) k j = true := by
  rw [ancB,ho]
  have h4 : (List.range L.length).any (fun d => depB o d && ancB L f d j) = true := List.any_eq_true.2 ⟨d,List.mem_range.2 hl,by rw [hd,h]; rfl⟩
  simp only [h4,Bool.or_true]
theorem ancB_listed {L : List Oper} {listed : Array Bool} (hdn : ∀ k o,L[k]? = some o → listed.getD k false = true → ∀ j,depB o j = true → listed.getD j false = true) : ∀ (f k j : Nat),listed.getD k false = true → ancB L f k j = true → listed.getD j false = true
  | 0,k,j,hk,h => by
    have e : k = j := by simpa [ancB] using h
    rw [← e]; exact hk
  | f + 1,k,j,hk,h => by
    rw [ancB] at h
    rcases Bool.or_eq_true .. ▸ h with h | h
    · have e : k = j := by simpa using h
      rw [← e]; exact hk
    · cases ho : L[k]? with
      | none => rw [ho] at h; cases h
      | some o =>
        rw [ho] at h
        obtain ⟨d,hd,h2⟩ := List.any_eq_true.1 h
        have h3 := (Bool.and_eq_true ..).mp h2
        exact ancB_listed hdn f d j (hdn k o ho hk d h3.1) h3.2
def StepM (P : Program) (ops : Array Oper) (Q : Exit → Act → World → Prop) (Fs : List FactM) (A : (Nat → Value) → Act) (w0 : World) (k : Nat) (o : Oper) : Prop :=
  ∀ (vs : Nat → Value) (M : Nat → Nat → Prop) (w : World),Below w0.heap.size w0 w → (∀ d,depB o d = true → fctM Fs d (M d) (vs d) w) → ∀ K' : Act → World → Prop,
    Shut (∀ v w',fctM Fs k (fun b => (∃ d,depB o d = true ∧ M d b) ∨ (w.heap.size ≤ b ∧ b < w'.heap.size)) v w' → Below w.heap.size w w' → K' ((A vs).put o.dst v) w') →
    if Region.wanted o (yielded ops (A vs).tmps) = true then Oper.wp P o (A vs) w K' Q else K' ((A vs).put o.dst undef) w
def StepsM (P : Program) (ops : Array Oper) (Q : Exit → Act → World → Prop) (Fs : List FactM) (A : (Nat → Value) → Act) (w0 : World) : Nat → List Oper → Prop
  | _,[] => True
  | _,[_] => True
  | k,o :: o' :: l => StepM P ops Q Fs A w0 k o ∧ StepsM P ops Q Fs A w0 (k + 1) (o' :: l)
theorem StepsM.at {P : Program} {ops : Array Oper} {Q : Exit → Act → World → Prop} {Fs : List FactM} {A : (Nat → Value) → Act} {w0 : World} : ∀ (l : List Oper) (m : Nat),StepsM P ops Q Fs A w0 m l → ∀ i o,l[i]? = some o → i + 1 < l.length → StepM P ops Q Fs A w0 (m + i) o
  | [],_,_,_,_,_,h => by simp at h
  | [_],_,_,i,_,_,h => by simp at h
  | o :: o' :: l,m,h,i,x,hx,hi => by
    cases i with
    | zero =>
      simp at hx
      subst hx
      exact h.1
    | succ i =>
      have := StepsM.at (o' :: l) (m + 1) h.2 i x (by simpa using hx) (by simp at hi ⊢; omega)
      rw [show m + 1 + i = m + (i + 1) by omega] at this
      exact this
theorem wpAny_factsM {P : Program} {l : List Oper} {olast : Oper} {Q : Exit → Act → World → Prop} {Fs : List FactM} {a0 : Act} {w0 : World} {A : (Nat → Value) → Act}
    (hA : ∀ vs,puts vs 0 (l ++ [olast]) a0 = A vs) (hd : dstB (l ++ [olast]) = true) (hbk : backB 0 (l ++ [olast]) = true) (hc : coverB (l ++ [olast]) = true) (hF : MonoMAll Fs) (hlen : Fs.length = l.length)
    (hs : StepsM P (l ++ [olast]).toArray Q Fs A w0 0 (l ++ [olast]))
    (hl : ∀ vs lo hi w,Below w0.heap.size w0 w → (∀ k,k < l.length → w0.heap.size ≤ lo k ∧ hi k ≤ w.heap.size) → (∀ j k,j < l.length → k < l.length → j ≠ k → hi j ≤ lo k ∨ hi k ≤ lo j) → AllFM vs (ownM (l ++ [olast]) lo hi) w 0 Fs → wpOp P (l ++ [olast]).toArray Q l.length (fun a' w' => Q .normal a' w') (A vs) w) :
    ∀ (fuel : Nat) (listed : Array Bool) (vs : Nat → Value) (lo hi : Nat → Nat) (w : World),listed.size = l.length + 1 → listed.getD l.length true = false → listed.toList.count false ≤ fuel → Below w0.heap.size w0 w →
      (∀ k,listed.getD k false = true → (w0.heap.size ≤ lo k ∧ hi k ≤ w.heap.size) ∧ fctM Fs k (ownM (l ++ [olast]) lo hi k) (vs k) w) → (∀ j k,listed.getD j false = true → listed.getD k false = true → j ≠ k → hi j ≤ lo k ∨ hi k ≤ lo j) → (∀ k o,(l ++ [olast])[k]? = some o → listed.getD k false = true → ∀ j,depB o j = true → listed.getD j false = true) → wpAny P .any (l ++ [olast]).toArray Q fuel listed (A vs) w := by
  intro fuel
  induction fuel with
  | zero =>
    intro listed vs lo hi w hsz hlast hcnt
    have hi : l.length < listed.size := by omega
    have hv : listed[l.length] = false := by simpa [hi] using hlast
    have h3 : 0 < listed.toList.count false := List.count_pos_iff.2 (by rw [← hv,← Array.getElem_toList]; exact List.getElem_mem _)
    omega
  | succ fuel ih =>
    intro listed vs lo hi w hsz hlast hcnt hb hf hap hdn
    have hnext : ∀ i,i ∈ Region.ready .any (l ++ [olast]).toArray listed → wpOp P (l ++ [olast]).toArray Q i (wpAny P .any (l ++ [olast]).toArray Q fuel (listed.setIfInBounds i true)) (A vs) w := by
      intro i hrd
      obtain ⟨hun,o,ho,hall⟩ := mem_ready.1 hrd
      have hlt : i < l.length + 1 := by
        have := (Array.getElem?_eq_some_iff.1 ho).1
        simpa using this
      by_cases hil : i = l.length
      · subst hil
        have hol : o = olast := by simpa using ho.symm
        subst hol
        have hthere : ∀ d j,j < l.length → l.length - j ≤ d → listed.getD j false = true := by
          intro d
          induction d with
          | zero => intro j hj hd'; omega
          | succ d ihd =>
            intro j hj hd'
            obtain ⟨k,ok,hjk,hok,hdep⟩ := coverB_at hc j (by simpa using hj)
            by_cases hkl : k = l.length
            · subst hkl
              have : ok = o := by simpa using hok.symm
              subst this
              obtain ⟨e,he,h2,h3⟩ := depB_spec hdep
              have := hall e he h3
              rw [h2] at this
              exact this
            · have hkn : k < l.length := by
                have := (List.getElem?_eq_some_iff.1 hok).1
                simp at this
                omega
              exact hdn k ok hok (ihd k hkn (by omega)) j hdep
        replace hthere : ∀ j,j < l.length → listed.getD j false = true := fun j hj => hthere (l.length - j) j hj (Nat.le_refl _)
        refine wpOp_mono (fun a' w' hq => ?_) (hl vs lo hi w hb (fun k hk => (hf k (hthere k hk)).1) (fun j k hj hk => hap j k (hthere j hj) (hthere k hk)) (allFM_of Fs 0 (fun i hi' => by rw [Nat.zero_add]; exact (hf i (hthere i (by omega))).2)))
        have hnone : Region.ready .any (l ++ [o]).toArray (listed.setIfInBounds l.length true) = [] := by
          rw [List.eq_nil_iff_forall_not_mem]
          intro j hj
          obtain ⟨h1,_⟩ := mem_ready.1 hj
          by_cases hjl : l.length = j
          · subst hjl
            have : l.length < listed.size := by omega
            simp [this] at h1
          · rw [getD_set_ne true hjl] at h1
            have hjs : j < listed.size := by
              rcases Nat.lt_or_ge j listed.size with h' | h'
              · exact h'
              · simp [Array.getElem?_eq_none h'] at h1
            have h4 := hthere j (by omega)
            simp [hjs] at h1 h4
            rw [h1] at h4
            cases h4
        exact wpAny_done hnone hq fuel
      · have hst := StepsM.at (l ++ [olast]) 0 hs i o (by simpa using ho) (by simp; omega)
        rw [Nat.zero_add] at hst
        refine wpOp_step ho (fun K' hK => hst vs (ownM (l ++ [olast]) lo hi) w hb (fun d hdep => ?_) K' (fun v w' hv hbw => ?_))
        · obtain ⟨e,he,h2,h3⟩ := depB_spec hdep
          subst h2
          exact (hf _ (hall e he h3)).2
        · refine hK _ _ ?_
          have hset : (A vs).put o.dst v = A (fun i' => if i' = i then v else vs i') := by
            rw [← hA,← hA]
            exact puts_set vs v i (l ++ [olast]) 0 a0 o hd (Nat.zero_le _) (by simpa using ho)
          rw [hset]
          refine ih _ _ (fun i' => if i' = i then w.heap.size else lo i') (fun i' => if i' = i then w'.heap.size else hi i') _ (by simpa using hsz) (by rw [getD_set_ne true hil]; exact hlast) ?_ (bthen hb hbw) (fun k hk => ?_) (fun j k hj hk hjk => ?_) (fun k ok hok hk j hdep => ?_)
          · have := falses_set hun
            omega
          · have h9 := hbw.size
            have h8 := hb.size
            by_cases hki : k = i
            · subst hki
              refine ⟨by simp only [if_pos]; exact ⟨h8,Nat.le_refl _⟩,?_⟩
              have hv2 := hF.at k _ (ownM (l ++ [olast]) (fun i' => if i' = k then w.heap.size else lo i') (fun i' => if i' = k then w'.heap.size else hi i') k) _ _ _ hv (fun b hb' => ?_) (Below.refl _ _)
              · simpa using hv2
              · rcases hb' with ⟨d,hdep,f,j,hanc,h3,h4⟩ | hb'
                · obtain ⟨e,he,h5,h6⟩ := depB_spec hdep
                  have hdl : listed.getD d false = true := by
                    have := hall e he h6
                    rw [h5] at this
                    exact this
                  have hjl := ancB_listed hdn f d j hdl hanc
                  have hjk : j ≠ k := fun e5 => by
                    subst e5
                    have h7 : j < listed.size := by omega
                    simp [h7] at hun hjl
                    rw [hun] at hjl
                    cases hjl
                  have hd2 : d < (l ++ [olast]).length := by
                    rcases Nat.lt_or_ge d listed.size with h7 | h7
                    · simp; omega
                    · simp [Array.getElem?_eq_none h7] at hdl
                  refine ⟨f + 1,j,ancB_dep (by simpa using ho) hdep hd2 hanc,?_,?_⟩
                  · simp only [if_neg hjk]; exact h3
                  · simp only [if_neg hjk]; exact h4
                · exact ⟨0,k,ancB_self _ _ _,by simp only [if_pos]; exact hb'.1,by simp only [if_pos]; exact hb'.2⟩
            · rcases getD_set_self hk with h5 | h5
              · exact absurd h5 hki
              · have h6 := (hf k h5).1
                refine ⟨by simp only [if_neg hki]; exact ⟨h6.1,by omega⟩,?_⟩
                simp only [if_neg hki]
                refine hF.at k _ _ _ _ _ (hf k h5).2 (fun b hb' => ?_) hbw
                obtain ⟨f,j,hanc,h3,h4⟩ := hb'
                have hjl := ancB_listed hdn f k j h5 hanc
                have hji : j ≠ i := fun e5 => by
                  subst e5
                  have h7 : j < listed.size := by omega
                  simp [h7] at hun hjl
                  rw [hun] at hjl
                  cases hjl
                refine ⟨f,j,hanc,?_,?_⟩
                · simp only [if_neg hji]; exact h3
                · simp only [if_neg hji]; exact h4
          · rcases getD_set_self hj with h5 | h5 <;> rcases getD_set_self hk with h6 | h6
            · omega
            · subst h5
              by_cases hki : k = j
              · omega
              · simp only [if_neg hki,if_pos]
                exact .inr (hf k h6).1.2
            · subst h6
              by_cases hji : j = k
              · omega
              · simp only [if_neg hji,if_pos]
                exact .inl (hf j h5).1.2
            · by_cases hki : k = i
              · subst hki
                by_cases hji : j = k
                · omega
                · simp only [if_neg hji,if_pos]
                  exact .inl (hf j h5).1.2
              · by_cases hji : j = i
                · subst hji
                  simp only [if_neg hki,if_pos]
                  exact .inr (hf k h6).1.2
                · simp only [if_neg hki,if_neg hji]
                  exact hap j k h5 h6 hjk
          · rcases getD_set_self hk with h5 | h5
            · subst h5
              have : ok = o := by
                have h7 : (l ++ [olast])[k]? = some o := by simpa using ho
                rw [h7] at hok
                exact (Option.some.inj hok).symm
              subst this
              obtain ⟨e,he,h2,h3⟩ := depB_spec hdep
              have := hall e he h3
              rw [h2] at this
              exact getD_set_true this
            · exact getD_set_true (hdn k ok hok h5 j hdep)
    refine ⟨fun hnil => ?_,hnext⟩
    exfalso
    obtain ⟨m,hm,hpm,hmin⟩ := least (p := fun j => listed.getD j true = false) l.length hlast
    have hmo : ∃ o,(l ++ [olast]).toArray[m]? = some o := by
      rw [List.getElem?_toArray]
      exact ⟨_,List.getElem?_eq_getElem (by simp; omega)⟩
    obtain ⟨o,ho⟩ := hmo
    have hin : m ∈ Region.ready .any (l ++ [olast]).toArray listed := mem_ready.2 ⟨hpm,o,ho,fun e he hbn => by
      have h1 := backB_at (l ++ [olast]) 0 hbk m o (by simpa using ho) e he hbn
      have h2 := hmin e.on (by omega)
      have h3 : e.on < listed.size := by omega
      simp [h3] at h2 ⊢
      exact h2⟩
    rw [hnil] at hin
    cases hin
theorem wp_region_factsM {P : Program} {id : Nat} {L : List Oper} {olast : Oper} {Q : Exit → Act → World → Prop} (Fs : List FactM) {a0 : Act} {w0 : World} {A : (Nat → Value) → Act} (hm : P.follows .mixedOrders = true) (hL : L.getLast? = some olast)
    (hA : ∀ vs,puts vs 0 L a0 = A vs) (hd : dstB L = true) (hbk : backB 0 L = true) (hc : coverB L = true) (hlen : Fs.length = L.length - 1) (hF : MonoMAll Fs)
    (hs : ∀ Q',StepsM P L.toArray Q' Fs A w0 0 L)
    (hl : ∀ vs lo hi w,Below w0.heap.size w0 w → (∀ k,k < L.length - 1 → w0.heap.size ≤ lo k ∧ hi k ≤ w.heap.size) → (∀ j k,j < L.length - 1 → k < L.length - 1 → j ≠ k → hi j ≤ lo k ∨ hi k ≤ lo j) → AllFM vs (ownM L lo hi) w 0 Fs → ∀ (K' : Act → World → Prop) (Q' : Exit → Act → World → Prop),Shut (∀ a w,Q .normal a w → K' a w) →
      if Region.wanted olast (yielded L.toArray (A vs).tmps) = true then Oper.wp P olast (A vs) w K' Q' else K' ((A vs).put olast.dst undef) w) :
    (Code.region id L.toArray true).wp P Q a0 w0 := by
  obtain ⟨l,rfl⟩ : ∃ l,L = l ++ [olast] := by
    obtain ⟨l,hl⟩ := List.getLast?_eq_some_iff.1 hL
    exact ⟨l,hl⟩
  have hn : (l ++ [olast]).length - 1 = l.length := by simp
  rw [hn] at hlen hl
  refine wp_region_any hm ?_
  obtain ⟨vs,hvs⟩ : ∃ vs : Nat → Value,∀ i o,(l ++ [olast])[i]? = some o → vs (0 + i) = own a0 o :=
    ⟨fun i => match (l ++ [olast])[i]? with | some o => own a0 o | none => undef,fun i o ho => by simp only [Nat.zero_add,ho]⟩
  have e : a0 = A vs := by rw [← hA,puts_own a0 vs _ 0 hvs]
  have h := wpAny_factsM hA hd hbk hc hF hlen (hs Q) (fun vs lo hi w hb h1 h2 hf => wpOp_step (by simp) (fun K' hK => hl vs lo hi w hb h1 h2 hf K' Q hK)) (l ++ [olast]).toArray.size (Array.replicate (l ++ [olast]).toArray.size false) vs (fun _ => 0) (fun _ => 0) w0.drew (by simp) (by simp)
    (Nat.le_trans List.count_le_length (by simp)) (Below.refl _ _).drew (fun k hk => by simp [Array.getD] at hk) (fun j k hk => by simp [Array.getD] at hk) (fun k o _ hk => by simp [Array.getD] at hk)
  rw [← e] at h
  exact h
end Go.Proofs.YtapcmbbhhclepaaGreatDoor
namespace Go.Proofs.YtapcmbbhhclepaaGreatDoor
theorem tab_of_vars {P : Program} {W : World} {name : String} {k : IntKind} {zs : List Int} {g : Nat} {t e : TypeId} {n : Nat}
    (hg : P.globalNamed name = some g) (hty : (P.globals[g]?).map (·.type) = some t) (ht : P.underlying t = some (.array n e)) (he : P.underlying e = some (.int k)) (hce : P.cellsOf e = 1) (hct : P.cellsOf t = n) :
    ∀ {laid : List (String × DataW Unit)} {ps : List MemPlace},DataW.LaidVars P W laid ps → (name,Lib.tabData k zs) ∈ laid → Lib.TabIs P W name k zs
  | [],_,_,h => by cases h
  | (nm,d) :: r,_,h,hm => by
    obtain ⟨g',t',cs,fuel,p,q,hg',ht',hvar,hd,hr,_⟩ := h
    rcases List.mem_cons.1 hm with hm | hm
    · cases hm
      obtain rfl := Option.some.inj (hg.symm.trans hg')
      obtain rfl := Option.some.inj (hty.symm.trans ht')
      unfold Lib.TabIs
      rw [hvar,← Lib.cells_of_tab ht he hce hct hd]
    · exact tab_of_vars hg hty ht he hce hct hr hm
theorem var_lt {P : Program} {W : World} {n : String} {g : Nat} {cs : Array Value} (hg : P.globalNamed n = some g) (h : W.var? P n = some cs) : g < W.heap.size := by
  unfold World.var? at h
  rw [hg] at h
  simp only [Option.bind_some] at h
  rcases Nat.lt_or_ge g W.heap.size with h1 | h1
  · exact h1
  · rw [Array.getElem?_eq_none h1] at h
    cases h
theorem gCubes : Tryz.prog.globalNamed "heliast/digest.cubes" = some 0 := by kernel_rfl
theorem gPow : Tryz.prog.globalNamed "internal/strconv.uint64pow10" = some 2 := by kernel_rfl
theorem tabs_of {W : World} {laid : List (String × DataW Unit)} {ps : List MemPlace} (h : DataW.LaidVars Tryz.prog W laid ps) (h1 : ("internal/strconv.uint64pow10", Lib.tabData .u64 Lib.pow10Tab) ∈ laid) (h2 : ("heliast/digest.cubes", Lib.tabData .u32 Dig.Dg.K) ∈ laid) : Tabs W := by
  have t1 := tab_of_vars gPow (t := 160) (by kernel_rfl) Tryz.underlying160 Tryz.underlying110 (by kernel_rfl) (by kernel_rfl) h h1
  have t2 := tab_of_vars gCubes (t := 147) (by kernel_rfl) Tryz.underlying147 Tryz.underlying123 (by kernel_rfl) (by kernel_rfl) h h2
  refine ⟨fun i hi => ?_,fun w2 b2 => var?_below b2 gPow (var_lt gPow t1) t1⟩
  rw [t2.cell gCubes i hi]
  simp
def litCells : DataW Unit → Array Value
  | .agg l => (l.map (fun d => match d with | .lit (.int k z) => Value.int k z | _ => undef)).toArray
  | _ => #[]
end Go.Proofs.YtapcmbbhhclepaaGreatDoor
