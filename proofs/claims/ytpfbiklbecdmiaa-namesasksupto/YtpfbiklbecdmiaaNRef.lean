/-
  THE WALKS of the document's names (layer 6).
-/
import Derived.Test.YtpfbiklbecdmiaaNParts
set_option linter.unusedVariables false
set_option linter.unusedSimpArgs false
namespace Go.Proofs.Ytpfbiklbecdmiaa
open Go.RowKit Go.Shelf

theorem refPlain_any (c : UInt8) (w : World) :
    Calls Try.prog 42 #[.int .u8 (c.toNat : Int)] w fun e w' => e = .returned (.bool (Nm.hostB c)) ∧ w' = w := by
  obtain ⟨r, hr⟩ : ∃ r, r = Nm.hostB c := ⟨_, rfl⟩
  rw [← hr]
  have HR := nhide hr
  clear hr
  obtain ⟨n, hn⟩ : ∃ n : Nat, n = c.toNat := ⟨_, rfl⟩
  have hn256 : n < 256 := by rw [hn]; exact c.toNat_lt
  have hrn : r = ((decide (97 ≤ n) && decide (n ≤ 122)) || (decide (48 ≤ n) && decide (n ≤ 57)) || decide (n = 46) || decide (n = 45)) := by rw [HR.out, Nm.hostB, hn]
  rw [← hn]
  have HN := nhide hn
  clear hn HR
  by_cases h1 : 97 ≤ n
  · by_cases h2 : n ≤ 122
    · have hrt : r = true := by rw [hrn]; simp [h1, h2]
      subst hrt
      clear hrn
      go_enter Try.func42, Try.ntmps42
      go_wp2_with fail
      go_ret
      exact ⟨rfl, rfl⟩
    · have h3 : 48 ≤ n := by omega
      have h4 : ¬ n ≤ 57 := by omega
      have h2' : decide ((n : Int) ≤ 122) = false := by simp; omega
      have h4' : decide ((n : Int) ≤ 57) = false := by simp; omega
      have h5 : ((n : Int) == 46) = false := by rw [beq_eq_false_iff_ne]; omega
      have h6 : ((n : Int) == 45) = false := by rw [beq_eq_false_iff_ne]; omega
      have hrt : r = false := by rw [hrn]; simp; omega
      subst hrt
      clear hrn
      go_enter Try.func42, Try.ntmps42
      go_wp2_with fail
      go_ret
      exact ⟨rfl, rfl⟩
  · by_cases h3 : 48 ≤ n
    · by_cases h4 : n ≤ 57
      · have hrt : r = true := by rw [hrn]; simp [h3, h4]
        subst hrt
        clear hrn
        go_enter Try.func42, Try.ntmps42
        go_wp2_with fail
        go_ret
        exact ⟨rfl, rfl⟩
      · have h4' : decide ((n : Int) ≤ 57) = false := by simp; omega
        have h1' : decide ((97 : Int) ≤ (n : Int)) = false := by simp; omega
        have h5 : ((n : Int) == 46) = false := by rw [beq_eq_false_iff_ne]; omega
        have h6 : ((n : Int) == 45) = false := by rw [beq_eq_false_iff_ne]; omega
        have hrt : r = false := by rw [hrn]; simp; omega
        subst hrt
        clear hrn
        go_enter Try.func42, Try.ntmps42
        go_wp2_with fail
        go_ret
        exact ⟨rfl, rfl⟩
    · by_cases h5 : n = 46
      · have h5' : ((n : Int) == 46) = true := by rw [h5]; rfl
        have hrt : r = true := by rw [hrn]; simp [h5]
        subst hrt
        clear hrn h5
        go_enter Try.func42, Try.ntmps42
        go_wp2_with fail
        go_ret
        exact ⟨rfl, rfl⟩
      · have h5' : ((n : Int) == 46) = false := by rw [beq_eq_false_iff_ne]; omega
        by_cases h6 : n = 45
        · have h6' : ((n : Int) == 45) = true := by rw [h6]; rfl
          have hrt : r = true := by rw [hrn]; simp [h6]
          subst hrt
          clear hrn h5 h6
          go_enter Try.func42, Try.ntmps42
          go_wp2_with fail
          go_ret
          exact ⟨rfl, rfl⟩
        · have h6' : ((n : Int) == 45) = false := by rw [beq_eq_false_iff_ne]; omega
          have hrt : r = false := by rw [hrn]; simp [h1, h3, h5, h6]
          subst hrt
          clear hrn h5 h6
          go_enter Try.func42, Try.ntmps42
          go_wp2_with fail
          go_ret
          exact ⟨rfl, rfl⟩

theorem made_eq (f : UInt8 → Bool) (s : ByteArray) : Nm.made f s.data.toList = (s.data.toList.all f && (decide (1 ≤ s.size) && decide (s.size ≤ 40))) := by
  rw [Nm.made, ← Lib.size_eq, Bool.and_comm]

set_option maxHeartbeats 1000000 in
theorem refHost_any (s : ByteArray) (w : World) (hs : s.size ≤ 140737488355328) :
    Calls Try.prog 30 #[.string s] w fun e w' => e = .returned (.bool (Nm.host s.data.toList)) ∧ w' = w := by
  obtain ⟨r, hr⟩ : ∃ r, r = Nm.host s.data.toList := ⟨_, rfl⟩
  rw [← hr]
  have HR : Hid (r = (s.data.toList.all Nm.hostB && (decide (1 ≤ s.size) && decide (s.size ≤ 40)))) := by show _ = _; rw [hr, Nm.host, made_eq]
  have HZ : Hid (s.data.toList.length = s.size) := (Lib.size_eq s).symm
  clear hr
  go_enter Try.func30, Try.ntmps30
  go_wp2_with fail
  go_loop [3] (fun i => ∃ k : Nat, k ≤ s.size ∧ i = .int .i64 k ∧ Hid ((s.data.toList.take k).all Nm.hostB = true)) (fun i => s.size - (intOf i).toNat)
  case atStart => exact ⟨0, by omega, rfl, rfl⟩
  case round =>
    obtain ⟨k, hk, rfl, HT⟩ := hrel
    by_cases hlt : k < s.size
    · have hlt' : k < s.data.toList.length := by rw [HZ.out]; exact hlt
      go_wp2_with fail
      refine (refPlain_any (s[k]'hlt) w).mono ?_
      rintro e w ⟨rfl, rfl⟩
      have hbe : s.data.toList[k]'hlt' = s[k]'hlt := rfl
      cases hc : Nm.hostB (s[k]'hlt) with
      | true =>
        have HA := nhide (take_all _ _ hlt' HT.out (by rw [hbe]; exact hc))
        clear hc
        go_wp2_with fail
        go_round
        case rel => exact ⟨k + 1, hlt, by go_num, HA⟩
        case measure => simp [intOf]; omega
      | false =>
        have hrf : r = false := by rw [HR.out, not_all _ _ hlt' (by rw [hbe]; exact hc)]; rfl
        clear hc
        go_wp2_with fail
        go_ret
        exact ⟨by rw [hrf]; rfl, rfl⟩
    · have ht : s.data.toList.all Nm.hostB = true := by
        have h1 := HT.out
        rw [List.take_of_length_le (by rw [HZ.out]; omega)] at h1
        exact h1
      have hr2 : r = (decide (1 ≤ s.size) && decide (s.size ≤ 40)) := by rw [HR.out, ht, Bool.true_and]
      by_cases h0 : s.size = 0
      · have h1 : decide ((1 : Int) ≤ (s.size : Int)) = false := by simp; omega
        have hrf : r = false := by rw [hr2]; simp; omega
        have HRf := nhide hrf
        clear hr2 hrf h0
        go_wp2_with fail
        go_ret
        exact ⟨by rw [HRf.out]; rfl, rfl⟩
      · have h1 : decide ((1 : Int) ≤ (s.size : Int)) = true := by simp; omega
        by_cases h40 : s.size ≤ 40
        · have hrf : r = true := by rw [hr2]; simp; omega
          have HRf := nhide hrf
          clear hr2 hrf h0
          have h2 : decide ((s.size : Int) ≤ 40) = true := by simp; omega
          go_wp2_with fail
          go_ret
          exact ⟨by rw [HRf.out]; rfl, rfl⟩
        · have hrf : r = false := by rw [hr2]; simp; omega
          have HRf := nhide hrf
          clear hr2 hrf h0
          have h2 : decide ((s.size : Int) ≤ 40) = false := by simp; omega
          go_wp2_with fail
          go_ret
          exact ⟨by rw [HRf.out]; rfl, rfl⟩

set_option maxHeartbeats 1000000 in
theorem refLocal_any (s : ByteArray) (w : World) (hs : s.size ≤ 140737488355328) :
    Calls Try.prog 55 #[.string s] w fun e w' => e = .returned (.bool (Nm.loc s.data.toList)) ∧ w' = w := by
  obtain ⟨r, hr⟩ : ∃ r, r = Nm.loc s.data.toList := ⟨_, rfl⟩
  rw [← hr]
  have HR : Hid (r = (s.data.toList.all Nm.locB && (decide (1 ≤ s.size) && decide (s.size ≤ 40)))) := by show _ = _; rw [hr, Nm.loc, made_eq]
  have HZ : Hid (s.data.toList.length = s.size) := (Lib.size_eq s).symm
  clear hr
  go_enter Try.func55, Try.ntmps55
  go_wp2_with fail
  go_loop [3] (fun i => ∃ k : Nat, k ≤ s.size ∧ i = .int .i64 k ∧ Hid ((s.data.toList.take k).all Nm.locB = true)) (fun i => s.size - (intOf i).toNat)
  case atStart => exact ⟨0, by omega, rfl, rfl⟩
  case round =>
    obtain ⟨k, hk, rfl, HT⟩ := hrel
    by_cases hlt : k < s.size
    · have hlt' : k < s.data.toList.length := by rw [HZ.out]; exact hlt
      have hbe : s.data.toList[k]'hlt' = s[k]'hlt := rfl
      have hloc : Nm.locB (s[k]'hlt) = (Nm.hostB (s[k]'hlt) || decide ((s[k]'hlt).toNat = 95) || decide ((s[k]'hlt).toNat = 61) || decide ((s[k]'hlt).toNat = 47)) := rfl
      have e95 : (((s[k]'hlt).toNat : Int) != 95) = !decide ((s[k]'hlt).toNat = 95) := by
        rw [bne]; congr 1; rw [Bool.eq_iff_iff]; simp; omega
      have e61 : (((s[k]'hlt).toNat : Int) != 61) = !decide ((s[k]'hlt).toNat = 61) := by
        rw [bne]; congr 1; rw [Bool.eq_iff_iff]; simp; omega
      have e47 : (((s[k]'hlt).toNat : Int) != 47) = !decide ((s[k]'hlt).toNat = 47) := by
        rw [bne]; congr 1; rw [Bool.eq_iff_iff]; simp; omega
      cases hc : Nm.locB (s[k]'hlt) with
      | true =>
        have HA := nhide (take_all _ _ hlt' HT.out (by rw [hbe]; exact hc))
        rw [hc] at hloc
        cases hp : Nm.hostB (s[k]'hlt) with
        | true =>
          have HP := nhide hp
          clear hc hp hloc e95 e61 e47
          go_wp2_with fail
          refine (refPlain_any (s[k]'hlt) w).mono ?_
          rintro e w ⟨rfl, rfl⟩
          rw [HP.out]
          go_wp2_with fail
          go_round
          case rel => exact ⟨k + 1, hlt, by go_num, HA⟩
          case measure => simp [intOf]; omega
        | false =>
          have HP := nhide hp
          rw [hp] at hloc
          have h3 : (decide ((s[k]'hlt).toNat = 95) = true) ∨ (decide ((s[k]'hlt).toNat = 95) = false ∧ decide ((s[k]'hlt).toNat = 61) = true) ∨ (decide ((s[k]'hlt).toNat = 95) = false ∧ decide ((s[k]'hlt).toNat = 61) = false ∧ decide ((s[k]'hlt).toNat = 47) = true) := by
            revert hloc
            cases decide ((s[k]'hlt).toNat = 95) <;> cases decide ((s[k]'hlt).toNat = 61) <;> cases decide ((s[k]'hlt).toNat = 47) <;> simp
          clear hc hp hloc
          rcases h3 with h5 | ⟨h5, h6⟩ | ⟨h5, h6, h7⟩
          · rw [h5] at e95
            clear h5 e61 e47
            go_wp2_with fail
            refine (refPlain_any (s[k]'hlt) w).mono ?_
            rintro e w ⟨rfl, rfl⟩
            rw [HP.out]
            go_wp2_with fail
            go_round
            case rel => exact ⟨k + 1, hlt, by go_num, HA⟩
            case measure => simp [intOf]; omega
          · rw [h5] at e95
            rw [h6] at e61
            clear h5 h6 e47
            go_wp2_with fail
            refine (refPlain_any (s[k]'hlt) w).mono ?_
            rintro e w ⟨rfl, rfl⟩
            rw [HP.out]
            go_wp2_with fail
            go_round
            case rel => exact ⟨k + 1, hlt, by go_num, HA⟩
            case measure => simp [intOf]; omega
          · rw [h5] at e95
            rw [h6] at e61
            rw [h7] at e47
            clear h5 h6 h7
            go_wp2_with fail
            refine (refPlain_any (s[k]'hlt) w).mono ?_
            rintro e w ⟨rfl, rfl⟩
            rw [HP.out]
            go_wp2_with fail
            go_round
            case rel => exact ⟨k + 1, hlt, by go_num, HA⟩
            case measure => simp [intOf]; omega
      | false =>
        have hrf : r = false := by rw [HR.out, not_all _ _ hlt' (by rw [hbe]; exact hc)]; rfl
        rw [hc] at hloc
        have h3 : Nm.hostB (s[k]'hlt) = false ∧ decide ((s[k]'hlt).toNat = 95) = false ∧ decide ((s[k]'hlt).toNat = 61) = false ∧ decide ((s[k]'hlt).toNat = 47) = false := by
          revert hloc
          cases Nm.hostB (s[k]'hlt) <;> cases decide ((s[k]'hlt).toNat = 95) <;> cases decide ((s[k]'hlt).toNat = 61) <;> cases decide ((s[k]'hlt).toNat = 47) <;> simp
        obtain ⟨hp, h5, h6, h7⟩ := h3
        have HP := nhide hp
        rw [h5] at e95
        rw [h6] at e61
        rw [h7] at e47
        clear hc hp h5 h6 h7 hloc
        go_wp2_with fail
        refine (refPlain_any (s[k]'hlt) w).mono ?_
        rintro e w ⟨rfl, rfl⟩
        rw [HP.out]
        go_wp2_with fail
        go_ret
        exact ⟨by rw [hrf]; rfl, rfl⟩
    · have ht : s.data.toList.all Nm.locB = true := by
        have h1 := HT.out
        rw [List.take_of_length_le (by rw [HZ.out]; omega)] at h1
        exact h1
      have hr2 : r = (decide (1 ≤ s.size) && decide (s.size ≤ 40)) := by rw [HR.out, ht, Bool.true_and]
      by_cases h0 : s.size = 0
      · have h1 : decide ((1 : Int) ≤ (s.size : Int)) = false := by simp; omega
        have hrf : r = false := by rw [hr2]; simp; omega
        have HRf := nhide hrf
        clear hr2 hrf h0
        go_wp2_with fail
        go_ret
        exact ⟨by rw [HRf.out]; rfl, rfl⟩
      · have h1 : decide ((1 : Int) ≤ (s.size : Int)) = true := by simp; omega
        by_cases h40 : s.size ≤ 40
        · have hrf : r = true := by rw [hr2]; simp; omega
          have HRf := nhide hrf
          clear hr2 hrf h0
          have h2 : decide ((s.size : Int) ≤ 40) = true := by simp; omega
          go_wp2_with fail
          go_ret
          exact ⟨by rw [HRf.out]; rfl, rfl⟩
        · have hrf : r = false := by rw [hr2]; simp; omega
          have HRf := nhide hrf
          clear hr2 hrf h0
          have h2 : decide ((s.size : Int) ≤ 40) = false := by simp; omega
          go_wp2_with fail
          go_ret
          exact ⟨by rw [HRf.out]; rfl, rfl⟩

/-- where the first colon stands; below 0: nowhere -/
def colZ (l : List UInt8) : Int := Lib.indexByte l 58
theorem colZ_at (l : List UInt8) (k : Nat) (h : k < l.length) (h1 : ∀ i (hi : i < k), ¬ l[i]'(by omega) = 58) (h2 : l[k] = 58) : colZ l = k := by
  unfold colZ
  induction l generalizing k with
  | nil => simp at h
  | cons c l ih =>
    cases k with
    | zero =>
      have : c = 58 := h2
      unfold Lib.indexByte
      simp [this]
    | succ k =>
      have hc : ¬ c = 58 := h1 0 (by omega)
      have := ih k (by simpa using h) (fun i hi => by have := h1 (i + 1) (by omega); simpa using this) (by simpa using h2)
      have hb : (c == 58) = false := by simp [hc]
      have hn : ((k : Int) == -1) = false := by rw [beq_eq_false_iff_ne]; omega
      unfold Lib.indexByte
      rw [hb, this, hn]
      simp
theorem colZ_none (l : List UInt8) (h1 : ∀ i (hi : i < l.length), ¬ l[i] = 58) : colZ l = -1 := by
  unfold colZ
  apply nm_index_none
  intro hm
  obtain ⟨i, hi, e⟩ := List.mem_iff_getElem.1 hm
  exact h1 i hi e

set_option maxHeartbeats 1000000 in
theorem refColon_any (s : ByteArray) (w : World) (hs : s.size ≤ 140737488355328) :
    Calls Try.prog 43 #[.string s] w fun e w' => e = .returned (.int .i64 (colZ s.data.toList)) ∧ w' = w := by
  obtain ⟨r, hr⟩ : ∃ r, r = colZ s.data.toList := ⟨_, rfl⟩
  rw [← hr]
  have HR := nhide hr
  have HZ : Hid (s.data.toList.length = s.size) := (Lib.size_eq s).symm
  clear hr
  go_enter Try.func43, Try.ntmps43
  go_wp2_with fail
  go_loop [3] (fun i => ∃ k : Nat, k ≤ s.size ∧ i = .int .i64 k ∧ Hid (∀ i (hi : i < k) (h' : i < s.data.toList.length), ¬ s.data.toList[i] = 58)) (fun i => s.size - (intOf i).toNat)
  case atStart => exact ⟨0, by omega, rfl, (fun i hi => absurd hi (by omega))⟩
  case round =>
    obtain ⟨k, hk, rfl, HT⟩ := hrel
    by_cases hlt : k < s.size
    · have hlt' : k < s.data.toList.length := by rw [HZ.out]; exact hlt
      have e58 := byteEq hlt 58 58 rfl
      by_cases hc : s.data.toList[k]'hlt' = 58
      · rw [decide_eq_true hc] at e58
        have hrk : r = k := by rw [HR.out]; exact colZ_at _ k hlt' (fun i hi => HT.out i hi (by omega)) hc
        have HRk := nhide hrk
        clear hc hrk
        go_wp2_with fail
        go_ret
        exact ⟨by rw [HRk.out]; rfl, rfl⟩
      · rw [decide_eq_false hc] at e58
        have HA : Hid (∀ i (hi : i < k + 1) (h' : i < s.data.toList.length), ¬ s.data.toList[i] = 58) := fun i hi h' => by
          by_cases e : i = k
          · subst e; exact hc
          · exact HT.out i (by omega) h'
        clear hc
        go_wp2_with fail
        go_round
        case rel => exact ⟨k + 1, hlt, by go_num, HA⟩
        case measure => simp [intOf]; omega
    · have hrk : r = -1 := by rw [HR.out]; exact colZ_none _ (fun i hi => HT.out i (by rw [HZ.out] at hi; omega) hi)
      have HRk := nhide hrk
      clear hrk
      go_wp2_with fail
      go_ret
      exact ⟨by rw [HRk.out]; rfl, rfl⟩
end Go.Proofs.Ytpfbiklbecdmiaa
