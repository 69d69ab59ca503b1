/-
  THE WALKS of disk's Sync, Cut, Read, Lasting; calls without a disk (layer 9).
-/
import Derived.Test.YtmbjlnnoemenoaaKAppend
set_option linter.unusedVariables false
set_option linter.unusedSimpArgs false
set_option maxRecDepth 100000
namespace Go.Proofs.Ytmbjlnnoemenoaa
open Go.RowKit Go.Maps Dk

theorem st_dead {P : PD} {A : Bs → Nat} {n : Bs} (h : P.dead = true) : stF P A n = .pointer none ∧ stE P n = 21 := by simp [stF, stE, h]
theorem st_none {P : PD} {A : Bs → Nat} {n : Bs} (h : P.dead = false) (hg : get P.fs n = none) : stF P A n = .pointer none ∧ stE P n = 31 := by simp [stF, stE, h, hg, atF]
theorem st_some {P : PD} {A : Bs → Nat} {n : Bs} {f : PF} (h : P.dead = false) (hg : get P.fs n = some f) : stF P A n = ptr (A n) ∧ stE P n = 0 := by simp [stF, stE, h, hg, atF]

set_option maxHeartbeats 2000000 in
theorem sync_any (P : PD) (d : Nat) (S : Nat → Prop) (n : ByteArray) (w : World) (h : IsD w d S P) (hn : n.size ≤ 1099511627776) :
    Calls Try.prog 17 #[ptr d, .string n] w fun e w' => e = .returned (.int .u16 ((sync P (bs n)).1 : Nat)) ∧ ∃ S', IsD w' d S' (sync P (bs n)).2 ∧ Turn S w S' w' := by
  obtain ⟨mv, A, h⟩ := h
  have HNM : Hid (n.size ≤ maxLen) := by show n.size ≤ maxLen; unfold maxLen; omega
  have HA := hide h
  clear h hn
  cases hd : P.dead with
  | true =>
    obtain ⟨s1, s2⟩ := st_dead (A := fun n => (A n).1) (n := bs n) hd
    have HD := hide hd
    clear hd
    go_enter Try.func17, Try.ntmps17
    go_wp2_with fail
    refine (standing_any P mv A d S n w HA.out HNM.out).mono ?_
    rintro e w ⟨rfl, rfl⟩
    rw [s1, s2]
    go_wp2_with fail
    go_ret
    have e : sync P (bs n) = (21, P) := by unfold Dk.sync; rw [HD.out]; rfl
    rw [e]
    exact ⟨rfl, S, ⟨mv, A, HA.out⟩, Turn.refl _ _⟩
  | false =>
    have HD := hide hd
    clear hd
    cases hg : get P.fs (bs n) with
    | none =>
      obtain ⟨s1, s2⟩ := st_none (A := fun n => (A n).1) HD.out hg
      have HG := hide hg
      clear hg
      go_enter Try.func17, Try.ntmps17
      go_wp2_with fail
      refine (standing_any P mv A d S n w HA.out HNM.out).mono ?_
      rintro e w ⟨rfl, rfl⟩
      rw [s1, s2]
      go_wp2_with fail
      go_ret
      have e : sync P (bs n) = (31, P) := by unfold Dk.sync; rw [HD.out, HG.out]; rfl
      rw [e]
      exact ⟨rfl, S, ⟨mv, A, HA.out⟩, Turn.refl _ _⟩
    | some f =>
      obtain ⟨s1, s2⟩ := st_some (A := fun n => (A n).1) HD.out hg
      obtain ⟨f1, f2, f3, f4⟩ := HA.out.file _ (get_mem hg)
      obtain ⟨ok, hok⟩ : ∃ ok, ok = decide (steps P 1 = 1) := ⟨_, rfl⟩
      have HG := hide hg
      have HF2 := hide f2
      have HF3 := hide f3
      have HO := hide hok
      clear hg f1 f2 f3 f4 hok
      go_enter Try.func17, Try.ntmps17
      go_wp2_with fail
      refine (standing_any P mv A d S n w HA.out HNM.out).mono ?_
      rintro e w ⟨rfl, rfl⟩
      rw [s1, s2]
      go_wp2_with fail
      refine (fsync_any P mv d f (A (bs n)).2 (A (bs n)).1 w HA.out.blk HD.out HA.out.wf.left HF2.out HF3.out ok HO.out).mono ?_
      rintro e w1 ⟨rfl, hd1, hb1, hr1, hc1⟩
      have HD1 := hide hd1
      have HB1 := hide hb1
      have HR1 := hide hr1
      have HC1 := hide hc1
      clear hd1 hb1 hr1 hc1
      go_wp2_with fail
      refine (told_any ok _).mono ?_
      rintro e w2 ⟨rfl, hw2⟩
      subst hw2
      cases ok with
      | false =>
        have h0 : steps P 1 < 1 := by have := HO.out; have := steps01 P; simp at *; omega
        have e : sync P (bs n) = (21, gone P 1) := by unfold Dk.sync; rw [HD.out, HG.out]; simp [h0]
        have HE := hide e
        have hA := HA.out.filed (P' := gone P 1) (f' := f) HG.out (HC1.out.weak fun i _ hi => by rcases hi with h | h; exact .inl h; exact .inr (.inl h)) (upd_self HA.out.wf.rise HG.out).symm rfl (by have := HA.out.wf.left; simp only [gone]; split <;> omega) HA.out.wf.used (HA.out.wf.last _ (get_mem HG.out)) HD1.out HB1.out HR1.out (.inl rfl)
        have HH := hide hA
        clear h0 e hA
        go_wp2_with fail
        go_ret
        obtain ⟨S', hA, hT⟩ := HH.out
        rw [HE.out]
        exact ⟨rfl, S', ⟨_, _, hA⟩, hT⟩
      | true =>
        have h0 : ¬ steps P 1 < 1 := by have := HO.out; simp at *; omega
        have e : sync P (bs n) = (0, { gone P 1 with fs := upd (bs n) ⟨f.all, f.all.length⟩ P.fs }) := by unfold Dk.sync; rw [HD.out, HG.out]; simp [h0]
        have HE := hide e
        have hA := HA.out.filed (P' := { gone P 1 with fs := upd (bs n) ⟨f.all, f.all.length⟩ P.fs }) (f' := ⟨f.all, f.all.length⟩) HG.out (HC1.out.weak fun i _ hi => by rcases hi with h | h; exact .inl h; exact .inr (.inl h)) rfl rfl (by have := HA.out.wf.left; simp only [gone]; split <;> omega) (by have h1 := used_upd (f := ⟨f.all, f.all.length⟩) HG.out; have h2 := HA.out.wf.used; simp only at h1 ⊢; omega) (Nat.le_refl _) HD1.out HB1.out HR1.out (.inl rfl)
        have HH := hide hA
        clear h0 e hA
        go_wp2_with fail
        go_ret
        obtain ⟨S', hA, hT⟩ := HH.out
        rw [HE.out]
        exact ⟨rfl, S', ⟨_, _, hA⟩, hT⟩

set_option maxHeartbeats 4000000 in
theorem cut_any (P : PD) (d : Nat) (S : Nat → Prop) (n : ByteArray) (m : Int) (w : World) (h : IsD w d S P) (hn : n.size ≤ 1099511627776) :
    Calls Try.prog 23 #[ptr d, .string n, .int .i64 m] w fun e w' => e = .returned (.int .u16 ((cut P (bs n) m).1 : Nat)) ∧ ∃ S', IsD w' d S' (cut P (bs n) m).2 ∧ Turn S w S' w' := by
  obtain ⟨mv, A, h⟩ := h
  have HNM : Hid (n.size ≤ maxLen) := by show n.size ≤ maxLen; unfold maxLen; omega
  have HA := hide h
  clear h hn
  cases hd : P.dead with
  | true =>
    obtain ⟨s1, s2⟩ := st_dead (A := fun n => (A n).1) (n := bs n) hd
    have HD := hide hd
    clear hd
    go_enter Try.func23, Try.ntmps23
    go_wp2_with fail
    refine (standing_any P mv A d S n w HA.out HNM.out).mono ?_
    rintro e w ⟨rfl, rfl⟩
    rw [s1, s2]
    go_wp2_with fail
    go_ret
    have e : cut P (bs n) m = (21, P) := by unfold Dk.cut; rw [HD.out]; rfl
    rw [e]
    exact ⟨rfl, S, ⟨mv, A, HA.out⟩, Turn.refl _ _⟩
  | false =>
    have HD := hide hd
    clear hd
    cases hg : get P.fs (bs n) with
    | none =>
      obtain ⟨s1, s2⟩ := st_none (A := fun n => (A n).1) HD.out hg
      have HG := hide hg
      clear hg
      go_enter Try.func23, Try.ntmps23
      go_wp2_with fail
      refine (standing_any P mv A d S n w HA.out HNM.out).mono ?_
      rintro e w ⟨rfl, rfl⟩
      rw [s1, s2]
      go_wp2_with fail
      go_ret
      have e : cut P (bs n) m = (31, P) := by unfold Dk.cut; rw [HD.out, HG.out]; rfl
      rw [e]
      exact ⟨rfl, S, ⟨mv, A, HA.out⟩, Turn.refl _ _⟩
    | some f =>
      obtain ⟨s1, s2⟩ := st_some (A := fun n => (A n).1) HD.out hg
      obtain ⟨f1, f2, f3, f4⟩ := HA.out.file _ (get_mem hg)
      obtain ⟨ok, hok⟩ : ∃ ok, ok = decide (steps P 1 = 1) := ⟨_, rfl⟩
      obtain ⟨va, vc, hv⟩ := own_shape f3
      have c0 := f2.cell 0
      simp only [hv] at c0
      simp at c0
      have hfl : f.all.length ≤ 4194304 := by have h1 := get_used hg; have h2 := HA.out.wf.used; have h3 := HA.out.wf.room; omega
      have HG := hide hg
      have HF2 := hide f2
      have HF3 := hide f3
      have HO := hide hok
      have HFL := hide hfl
      have HV := hide hv
      clear hg f1 f2 f3 f4 hok hfl hv
      by_cases hm : m < 0
      · have HM := hide (show m < 0 ∨ (f.all.length : Int) < m from .inl hm)
        go_enter Try.func23, Try.ntmps23
        go_wp2_with fail
        refine (standing_any P mv A d S n w HA.out HNM.out).mono ?_
        rintro e w ⟨rfl, rfl⟩
        rw [s1, s2]
        go_wp2_with fail
        go_ret
        have e : cut P (bs n) m = (1, P) := by unfold Dk.cut; rw [HD.out, HG.out]; simp [HM.out]
        rw [e]
        exact ⟨rfl, S, ⟨mv, A, HA.out⟩, Turn.refl _ _⟩
      · by_cases hm2 : (f.all.length : Int) < m
        · have HM := hide (show m < 0 ∨ (f.all.length : Int) < m from .inr hm2)
          go_enter Try.func23, Try.ntmps23
          go_wp2_with fail
          refine (standing_any P mv A d S n w HA.out HNM.out).mono ?_
          rintro e w ⟨rfl, rfl⟩
          rw [s1, s2]
          go_wp2_with fail
          go_ret
          have e : cut P (bs n) m = (1, P) := by unfold Dk.cut; rw [HD.out, HG.out]; simp [HM.out]
          rw [e]
          exact ⟨rfl, S, ⟨mv, A, HA.out⟩, Turn.refl _ _⟩
        · obtain ⟨k, rfl⟩ : ∃ k : Nat, m = k := ⟨m.toNat, by omega⟩
          have hk : k ≤ f.all.length := by omega
          have HM := hide (show ¬ ((k : Int) < 0 ∨ (f.all.length : Int) < k) from by omega)
          have HK := hide hk
          clear hk
          go_enter Try.func23, Try.ntmps23
          go_wp2_with fail
          refine (standing_any P mv A d S n w HA.out HNM.out).mono ?_
          rintro e w ⟨rfl, rfl⟩
          rw [s1, s2]
          go_wp2_with fail
          refine (fcut_any P mv d f (A (bs n)).2 (A (bs n)).1 k w HA.out.blk HD.out HA.out.wf.left HF2.out HF3.out HK.out HFL.out ok HO.out).mono ?_
          rintro e w1 ⟨rfl, hd1, v1, hb1, hr1, hv1, hc1⟩
          have HD1 := hide hd1
          have HB1 := hide hb1
          have HR1 := hide hr1
          have HC1 := hide hc1
          have HV1 := hide hv1
          clear hd1 hb1 hr1 hc1 hv1
          go_wp2_with fail
          refine (told_any ok _).mono ?_
          rintro e w2 ⟨rfl, hw2⟩
          subst hw2
          cases ok with
          | false =>
            have h0 : steps P 1 < 1 := by have := HO.out; have := steps01 P; simp at *; omega
            have e : cut P (bs n) k = (21, gone P 1) := by unfold Dk.cut; rw [HD.out, HG.out]; simp only [if_neg HM.out, if_pos h0]; rfl
            have HE := hide e
            have hA := HA.out.filed (P' := gone P 1) (f' := f) HG.out (HC1.out.weak fun i _ hi => by rcases hi with h | h; exact .inl h; exact .inr (.inl h)) (upd_same HG.out).symm rfl (by have := HA.out.wf.left; simp only [gone]; split <;> omega) HA.out.wf.used (HA.out.wf.last _ (get_mem HG.out)) HD1.out HB1.out HR1.out HV1.out
            have HH := hide hA
            clear h0 e hA
            go_wp2_with fail
            go_ret
            obtain ⟨S', hA, hT⟩ := HH.out
            rw [HE.out]
            exact ⟨rfl, S', ⟨_, _, hA⟩, hT⟩
          | true =>
            have h0 : ¬ steps P 1 < 1 := by have := HO.out; simp at *; omega
            have e : cut P (bs n) k = (0, { gone P 1 with fs := upd (bs n) ⟨f.all.take k, min f.last k⟩ P.fs }) := by unfold Dk.cut; rw [HD.out, HG.out]; simp only [if_neg HM.out, if_neg h0]; rfl
            have HE := hide e
            have hA := HA.out.filed (P' := { gone P 1 with fs := upd (bs n) ⟨f.all.take k, min f.last k⟩ P.fs }) (f' := ⟨f.all.take k, min f.last k⟩) HG.out (HC1.out.weak fun i _ hi => by rcases hi with h | h; exact .inl h; exact .inr (.inl h)) rfl rfl (by have := HA.out.wf.left; simp only [gone]; split <;> omega)
              (by have h1 := used_upd (f := ⟨f.all.take k, min f.last k⟩) HG.out; have h2 := HA.out.wf.used; simp only [List.length_take] at h1 ⊢; omega) (by have := HA.out.wf.last _ (get_mem HG.out); simp only [List.length_take] at this ⊢; omega) HD1.out HB1.out HR1.out HV1.out
            have HH := hide hA
            clear h0 e hA
            go_wp2_with fail
            go_ret
            obtain ⟨S', hA, hT⟩ := HH.out
            rw [HE.out]
            exact ⟨rfl, S', ⟨_, _, hA⟩, hT⟩

set_option maxHeartbeats 2000000 in
theorem read_any (P : PD) (d : Nat) (S : Nat → Prop) (n : ByteArray) (w : World) (h : IsD w d S P) (hn : n.size ≤ 1099511627776) :
    Calls Try.prog 20 #[ptr d, .string n] w fun e w' => e = .returned (.string ⟨(read P (bs n)).toArray⟩) ∧ Below w.heap.size w w' := by
  obtain ⟨mv, A, h⟩ := h
  have HNM : Hid (n.size ≤ maxLen) := by show n.size ≤ maxLen; unfold maxLen; omega
  have HA := hide h
  clear h hn
  cases hd : P.dead with
  | true =>
    obtain ⟨s1, s2⟩ := st_dead (A := fun n => (A n).1) (n := bs n) hd
    have HD := hide hd
    clear hd
    go_enter Try.func20, Try.ntmps20
    go_wp2_with fail
    refine (standing_any P mv A d S n w HA.out HNM.out).mono ?_
    rintro e w ⟨rfl, rfl⟩
    rw [s1, s2]
    go_wp2_with fail
    go_ret
    exact ⟨by unfold Dk.read; rw [HD.out]; rfl, Below.refl _ _⟩
  | false =>
    have HD := hide hd
    clear hd
    cases hg : get P.fs (bs n) with
    | none =>
      obtain ⟨s1, s2⟩ := st_none (A := fun n => (A n).1) HD.out hg
      have HG := hide hg
      clear hg
      go_enter Try.func20, Try.ntmps20
      go_wp2_with fail
      refine (standing_any P mv A d S n w HA.out HNM.out).mono ?_
      rintro e w ⟨rfl, rfl⟩
      rw [s1, s2]
      go_wp2_with fail
      go_ret
      exact ⟨by unfold Dk.read; rw [HD.out, HG.out]; rfl, Below.refl _ _⟩
    | some f =>
      obtain ⟨s1, s2⟩ := st_some (A := fun n => (A n).1) HD.out hg
      obtain ⟨f1, f2, f3, f4⟩ := HA.out.file _ (get_mem hg)
      have c0 := f2.cell 0
      simp at c0
      have hfl : f.all.length ≤ 4194304 := by have h1 := get_used hg; have h2 := HA.out.wf.used; have h3 := HA.out.wf.room; omega
      have HG := hide hg
      have HF3 := hide f3
      have HFL := hide hfl
      clear hg f1 f2 f3 f4 hfl
      go_enter Try.func20, Try.ntmps20
      go_wp2_with fail
      refine (standing_any P mv A d S n w HA.out HNM.out).mono ?_
      rintro e w ⟨rfl, rfl⟩
      rw [s1, s2]
      go_wp2_with fail
      refine (text_any f.all (A (bs n)).2 w HF3.out.view HFL.out).mono ?_
      rintro e w1 ⟨rfl, b1⟩
      have HB1 := hide b1
      clear b1
      go_wp2_with fail
      go_ret
      exact ⟨by unfold Dk.read; rw [HD.out, HG.out]; rfl, HB1.out⟩

set_option maxHeartbeats 2000000 in
theorem lasting_any (P : PD) (d : Nat) (S : Nat → Prop) (n : ByteArray) (w : World) (h : IsD w d S P) (hn : n.size ≤ 1099511627776) :
    Calls Try.prog 21 #[ptr d, .string n] w fun e w' => e = .returned (.string ⟨(lasting P (bs n)).toArray⟩) ∧ Below w.heap.size w w' := by
  obtain ⟨mv, A, h⟩ := h
  have hl := look_any h.map n (by unfold maxLen; omega)
  have c1 := h.blk.cell 1
  simp [head] at c1
  have HA := hide h
  clear h hn
  cases hg : get P.fs (bs n) with
  | none =>
    rw [atF_none hg] at hl
    have HG := hide hg
    clear hg
    go_enter Try.func21, Try.ntmps21
    go_wp2_with fail
    go_ret
    exact ⟨by unfold Dk.lasting; rw [HG.out]; rfl, Below.refl _ _⟩
  | some f =>
    rw [atF_some hg] at hl
    obtain ⟨f1, f2, f3, f4⟩ := HA.out.file _ (get_mem hg)
    have hfl : f.all.length ≤ 4194304 := by have h1 := get_used hg; have h2 := HA.out.wf.used; have h3 := HA.out.wf.room; omega
    have hla := HA.out.wf.last _ (get_mem hg)
    have HG := hide hg
    have HF2 := hide f2
    have HF3 := hide f3
    have HFL := hide hfl
    have HLA : Hid (f.last ≤ f.all.length) := hide hla
    clear hg f1 f2 f3 f4 hfl hla
    go_enter Try.func21, Try.ntmps21
    go_wp2_with fail
    refine (front_any f (A (bs n)).2 (A (bs n)).1 w HF2.out HF3.out HLA.out HFL.out).mono ?_
    rintro e w1 ⟨v1, rfl, hv1, b1⟩
    have HB1 := hide b1
    have HV1 := hide hv1
    clear b1 hv1
    go_wp2_with fail
    refine (text_any _ v1 w1 HV1.out (by rw [List.length_take]; have := HFL.out; omega)).mono ?_
    rintro e w2 ⟨rfl, b2⟩
    have HB2 := hide (bthen HB1.out b2)
    clear b2
    go_wp2_with fail
    go_ret
    exact ⟨by unfold Dk.lasting; rw [HG.out]; rfl, HB2.out⟩
end Go.Proofs.Ytmbjlnnoemenoaa
