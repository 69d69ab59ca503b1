/-
  THE WALKS over the document's own answer for layer 1: Check, Runes, Less; and the law GlyphJoin.
-/
import Derived.Test.YtlkfdmcgcenliaaRefWalks
import Derived.Test.YtlkfdmcgcenliaaLawTold
set_option linter.unusedVariables false
set_option linter.unusedSimpArgs false
namespace Go.Proofs.Ytlkfdmcgcenliaa
open Go.RowKit

theorem one_is (s : ByteArray) (n : Nat) (w : World) (hs : s.size ≤ maxLen) (h : Gm.one s.data.toList = n) :
    Calls Try.prog 35 #[.string s] w fun e w' => e = .returned (.int .i64 n) ∧ Below w.heap.size w w' := by
  subst h; exact one_any s w hs
theorem one_bad {l : List UInt8} (h : l ≠ []) (hb : Gm.bad l = true) : Gm.one l = 0 := by
  unfold Gm.one; rw [if_neg h, hb]; rfl
theorem one_good {l : List UInt8} (h : l ≠ []) (hb : Gm.bad l = false) : Gm.one l = (Gm.dec l).2 := by
  unfold Gm.one; rw [if_neg h, hb]; rfl

set_option maxHeartbeats 1000000 in
theorem refCheck_any (s : ByteArray) (w : World) (hs : s.size ≤ maxLen) :
    Calls Try.prog 22 #[.string s] w fun e w' => e = .returned (.int .i64 (Gm.checkZ s.data.toList)) ∧ Below w.heap.size w w' := by
  have hs' := hs
  unfold maxLen at hs
  go_enter Try.func22, Try.ntmps22
  go_wp2
  go_loopw [3] (fun at' wr => ∃ (pos : Nat), at' = .int .i64 pos ∧ pos ≤ s.size ∧ Below w.heap.size w wr ∧ (Gm.check (s.data.toList.drop pos)).map (fun n => n + pos) = Gm.check s.data.toList) (fun at' _ => s.size - (intOf at').toNat)
  case atStart => exact ⟨0, rfl, by omega, Below.refl _ _, by simp⟩
  case round =>
    obtain ⟨pos, rfl, hps, hbel, hc⟩ := hrel
    have HC : Hid _ := hc
    clear hc
    by_cases hp : pos < s.size
    · have hp' : (pos : Int) < s.size := by omega
      have hne := drop_ne s pos hp
      have hce := Gm.check_eq _ hne
      have hw := Gm.dec_w (s.data.toList.drop pos)
      have hwl := Gm.dec_w_len _ hne
      rw [List.length_drop, ← Lib.size_eq] at hwl
      have hes : (s.extract pos s.size).size ≤ maxLen := by unfold maxLen; simp [ByteArray.size_extract]; omega
      have hed := toList_drop_end s pos
      have HE : Hid _ := hce
      cases hb : Gm.bad (s.data.toList.drop pos) with
      | true =>
        have HB : Hid _ := hb
        have HO : Hid (Gm.one (s.extract pos s.size).data.toList = 0) := by rw [hed]; exact one_bad hne hb
        clear hb hce hed
        go_wp2_with fail
        refine (one_is _ 0 _ hes HO.out).mono ?_
        rintro e W1 ⟨rfl, b1⟩
        go_wp2
        go_ret
        refine ⟨ret_int ?_, bthen hbel b1⟩
        have h1 := HC.out
        rw [HE.out, HB.out] at h1
        have h2 := checkZ_some h1.symm
        rw [h2]
        simp
      | false =>
        have HB : Hid _ := hb
        have HO : Hid (Gm.one (s.extract pos s.size).data.toList = (Gm.dec (s.data.toList.drop pos)).2) := by rw [hed]; exact one_good hne hb
        clear hb hce hed
        generalize hwd : (Gm.dec (s.data.toList.drop pos)).2 = wd at *
        have HWD : Hid _ := hwd
        clear hwd
        have hw0 : ((wd : Int) == 0) = false := by simp; omega
        go_wp2_with fail
        refine (one_is _ wd _ hes HO.out).mono ?_
        rintro e W1 ⟨rfl, b1⟩
        go_wp2
        go_roundw
        case rel =>
          refine ⟨pos + wd, by go_num, by omega, bthen hbel b1, ?_⟩
          have h1 := HC.out
          rw [HE.out, HB.out, drop_drop'] at h1
          rw [← h1]
          simp only [Bool.false_eq_true, if_false, Option.map_map]
          congr 1
          funext n
          simp only [Function.comp]
          omega
        case measure => simp [intOf]; omega
    · have hp' : ¬ (pos : Int) < s.size := by omega
      go_wp2
      go_ret
      refine ⟨ret_int ?_, hbel⟩
      have h1 := HC.out
      rw [drop_nil s pos hp, Gm.check_nil] at h1
      exact (checkZ_none h1.symm).symm

theorem refCheck_is (s : ByteArray) (z : Int) (w : World) (hs : s.size ≤ maxLen) (h : Gm.checkZ s.data.toList = z) :
    Calls Try.prog 22 #[.string s] w fun e w' => e = .returned (.int .i64 z) ∧ Below w.heap.size w w' := by
  subst h; exact refCheck_any s w hs

theorem glyphJoin_walk (a0 : Option Addr) (len0 cap0 : Nat) (z0 : List Int) (S : ByteArray) (w : World) (w0 : IsRow .u8 w a0 len0 cap0 z0) (w1 : S.size ≤ maxLen) :
    Calls Try.prog 9 #[.slice a0 len0 cap0, .string S] w fun e w' => e = .returned (.bool true) ∧ Below w.heap.size w w' := by
  have hA := Gm.pick_text_le z0 (min len0 40)
  have hf1 := flatten_size (Gm.pick Gm.textTab z0 (min len0 40))
  unfold maxLen at w1
  go_enter Try.func9, Try.ntmps9
  go_wp2_with fail
  refine (text_any a0 len0 cap0 z0 _ w0).mono ?_
  rintro e W1 ⟨rfl, b1⟩
  generalize (⟨(Gm.pick Gm.textTab z0 (min len0 40)).toArray⟩ : ByteArray) = A at *
  have hAs : A.size ≤ 160 := by omega
  clear hA hf1 w0
  by_cases h100 : 100 < S.size
  · have h100' : (100 : Int) < S.size := by omega
    go_wp2_with fail
    refine (known_any _).mono ?_
    rintro e W3 ⟨rfl, b3⟩
    go_wp2
    go_ret
    exact ⟨rfl, bthen b1 b3⟩
  · have h100' : ¬ (100 : Int) < S.size := by omega
    cases hc : Gm.check A.data.toList with
    | some k =>
      have HZ : Hid _ := checkZ_some hc
      clear hc
      go_wp2_with fail
      refine (refCheck_is A k _ (by unfold maxLen; omega) HZ.out).mono ?_
      rintro e W2 ⟨rfl, b2⟩
      go_wp2_with fail
      refine (known_any _).mono ?_
      rintro e W3 ⟨rfl, b3⟩
      go_wp2
      go_ret
      exact ⟨rfl, bthen (bthen b1 b2) b3⟩
    | none =>
      have HZ : Hid _ := checkZ_none hc
      obtain ⟨j1, j2⟩ := Gm.check_append A.data.toList.length A.data.toList S.data.toList (Nat.le_refl _) hc
      rw [← data_append] at j1 j2
      rw [← Lib.size_eq] at j1
      have hruA : Gm.runes A.data.toList ≤ A.size := by rw [Lib.size_eq]; exact Gm.runes_le _
      have hruS : Gm.runes S.data.toList ≤ S.size := by rw [Lib.size_eq]; exact Gm.runes_le _
      have hAS : (A ++ S).size ≤ maxLen := by rw [size_append]; unfold maxLen; omega
      have J2 : Hid _ := j2
      clear hc j2
      generalize hra : Gm.runes A.data.toList = ra at *
      generalize hrs : Gm.runes S.data.toList = rs at *
      have HRA : Hid _ := hra
      have HRS : Hid _ := hrs
      clear hra hrs
      cases hs : Gm.check S.data.toList with
      | none =>
        rw [hs] at j1
        have HS : Hid _ := checkZ_none hs
        have HJ : Hid _ := checkZ_none (l := (A ++ S).data.toList) j1
        clear hs j1
        go_wp2_with fail
        refine (refCheck_is A (-1) _ (by unfold maxLen; omega) HZ.out).mono ?_
        rintro e W2 ⟨rfl, b2⟩
        go_wp2_with fail
        refine (check_is S (-1) _ (by unfold maxLen; omega) HS.out).mono ?_
        rintro e W3 ⟨rfl, b3⟩
        go_wp2_with fail
        refine (known_any _).mono ?_
        rintro e W4 ⟨rfl, b4⟩
        go_wp2_with fail
        refine (check_is _ (-1) _ hAS HJ.out).mono ?_
        rintro e W5 ⟨rfl, b5⟩
        go_wp2_with fail
        refine (runes_is _ _ _ hAS J2.out).mono ?_
        rintro e W6 ⟨rfl, b6⟩
        go_wp2_with fail
        refine (runes_is _ ra _ (by unfold maxLen; omega) HRA.out).mono ?_
        rintro e W7 ⟨rfl, b7⟩
        go_wp2_with fail
        refine (runes_is _ rs _ (by unfold maxLen; omega) HRS.out).mono ?_
        rintro e W8 ⟨rfl, b8⟩
        go_wp2
        go_ret
        exact ⟨ret_bool (by simp), bthen (bthen (bthen (bthen (bthen (bthen (bthen b1 b2) b3) b4) b5) b6) b7) b8⟩
      | some k =>
        rw [hs] at j1
        have HS : Hid _ := checkZ_some hs
        have HJ : Hid _ := checkZ_some (l := (A ++ S).data.toList) j1
        have hkk : k ≤ S.size := by
          have hz : Gm.checkZ S.data.toList = k := HS.out
          by_cases hk : k ≤ S.size
          · exact hk
          · exfalso
            have := Gm.check_lt S.data.toList k hs
            rw [← Lib.size_eq] at this
            omega
        clear hs j1
        go_wp2_with fail
        refine (refCheck_is A (-1) _ (by unfold maxLen; omega) HZ.out).mono ?_
        rintro e W2 ⟨rfl, b2⟩
        go_wp2_with fail
        refine (check_is S k _ (by unfold maxLen; omega) HS.out).mono ?_
        rintro e W3 ⟨rfl, b3⟩
        go_wp2_with fail
        refine (known_any _).mono ?_
        rintro e W4 ⟨rfl, b4⟩
        go_wp2_with fail
        refine (check_is _ _ _ hAS HJ.out).mono ?_
        rintro e W5 ⟨rfl, b5⟩
        go_wp2_with fail
        refine (runes_is _ _ _ hAS J2.out).mono ?_
        rintro e W6 ⟨rfl, b6⟩
        go_wp2_with fail
        refine (runes_is _ ra _ (by unfold maxLen; omega) HRA.out).mono ?_
        rintro e W7 ⟨rfl, b7⟩
        go_wp2_with fail
        refine (runes_is _ rs _ (by unfold maxLen; omega) HRS.out).mono ?_
        rintro e W8 ⟨rfl, b8⟩
        go_wp2
        go_ret
        exact ⟨ret_bool (by simp), bthen (bthen (bthen (bthen (bthen (bthen (bthen b1 b2) b3) b4) b5) b6) b7) b8⟩

end Go.Proofs.Ytlkfdmcgcenliaa
