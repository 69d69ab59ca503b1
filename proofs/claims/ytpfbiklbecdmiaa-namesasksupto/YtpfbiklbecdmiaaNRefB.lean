/-
  THE WALKS of the document's names (layer 6).
  THE WALKS of the document's names (layer 6): of, User, Room, Server.
-/
import Derived.Test.YtpfbiklbecdmiaaNParts
set_option linter.unusedVariables false
set_option linter.unusedSimpArgs false
namespace Go.Proofs.Ytpfbiklbecdmiaa
open Go.RowKit Go.Shelf

theorem refPlain_any (c : UInt8) (w : World) :
    Calls Try.prog 42 #[.int .u8 (c.toNat : Int)] w fun e w' => e = .returned (.bool (Nm.hostB c)) ∧ w' = w := by
  obtain ⟨r, hr⟩ : ∃ r, r = Nm.hostB c := ⟨_, rfl⟩
  rw [← hr]
  have HR := nhide hr
  clear hr
  obtain ⟨n, hn⟩ : ∃ n : Nat, n = c.toNat := ⟨_, rfl⟩
  have hn256 : n < 256 := by rw [hn]; exact c.toNat_lt
  have hrn : r = ((decide (97 ≤ n) && decide (n ≤ 122)) || (decide (48 ≤ n) && decide (n ≤ 57)) || decide (n = 46) || decide (n = 45)) := by rw [HR.out, Nm.hostB, hn]
  rw [← hn]
  have HN := nhide hn
  clear hn HR
  by_cases h1 : 97 ≤ n
  · by_cases h2 : n ≤ 122
    · have hrt : r = true := by rw [hrn]; simp [h1, h2]
      subst hrt
      clear hrn
      go_enter Try.func42, Try.ntmps42
      go_wp2_with fail
      go_ret
      exact ⟨rfl, rfl⟩
    · have h3 : 48 ≤ n := by omega
      have h4 : ¬ n ≤ 57 := by omega
      have h2' : decide ((n : Int) ≤ 122) = false := by simp; omega
      have h4' : decide ((n : Int) ≤ 57) = false := by simp; omega
      have h5 : ((n : Int) == 46) = false := by rw [beq_eq_false_iff_ne]; omega
      have h6 : ((n : Int) == 45) = false := by rw [beq_eq_false_iff_ne]; omega
      have hrt : r = false := by rw [hrn]; simp; omega
      subst hrt
      clear hrn
      go_enter Try.func42, Try.ntmps42
      go_wp2_with fail
      go_ret
      exact ⟨rfl, rfl⟩
  · by_cases h3 : 48 ≤ n
    · by_cases h4 : n ≤ 57
      · have hrt : r = true := by rw [hrn]; simp [h3, h4]
        subst hrt
        clear hrn
        go_enter Try.func42, Try.ntmps42
        go_wp2_with fail
        go_ret
        exact ⟨rfl, rfl⟩
      · have h4' : decide ((n : Int) ≤ 57) = false := by simp; omega
        have h1' : decide ((97 : Int) ≤ (n : Int)) = false := by simp; omega
        have h5 : ((n : Int) == 46) = false := by rw [beq_eq_false_iff_ne]; omega
        have h6 : ((n : Int) == 45) = false := by rw [beq_eq_false_iff_ne]; omega
        have hrt : r = false := by rw [hrn]; simp; omega
        subst hrt
        clear hrn
        go_enter Try.func42, Try.ntmps42
        go_wp2_with fail
        go_ret
        exact ⟨rfl, rfl⟩
    · by_cases h5 : n = 46
      · have h5' : ((n : Int) == 46) = true := by rw [h5]; rfl
        have hrt : r = true := by rw [hrn]; simp [h5]
        subst hrt
        clear hrn h5
        go_enter Try.func42, Try.ntmps42
        go_wp2_with fail
        go_ret
        exact ⟨rfl, rfl⟩
      · have h5' : ((n : Int) == 46) = false := by rw [beq_eq_false_iff_ne]; omega
        by_cases h6 : n = 45
        · have h6' : ((n : Int) == 45) = true := by rw [h6]; rfl
          have hrt : r = true := by rw [hrn]; simp [h6]
          subst hrt
          clear hrn h5 h6
          go_enter Try.func42, Try.ntmps42
          go_wp2_with fail
          go_ret
          exact ⟨rfl, rfl⟩
        · have h6' : ((n : Int) == 45) = false := by rw [beq_eq_false_iff_ne]; omega
          have hrt : r = false := by rw [hrn]; simp [h1, h3, h5, h6]
          subst hrt
          clear hrn h5 h6
          go_enter Try.func42, Try.ntmps42
          go_wp2_with fail
          go_ret
          exact ⟨rfl, rfl⟩

theorem made_eq (f : UInt8 → Bool) (s : ByteArray) : Nm.made f s.data.toList = (s.data.toList.all f && (decide (1 ≤ s.size) && decide (s.size ≤ 40))) := by
  rw [Nm.made, ← Lib.size_eq, Bool.and_comm]

set_option maxHeartbeats 1000000 in
theorem refHost_any (s : ByteArray) (w : World) (hs : s.size ≤ 140737488355328) :
    Calls Try.prog 30 #[.string s] w fun e w' => e = .returned (.bool (Nm.host s.data.toList)) ∧ w' = w := by
  obtain ⟨r, hr⟩ : ∃ r, r = Nm.host s.data.toList := ⟨_, rfl⟩
  rw [← hr]
  have HR : Hid (r = (s.data.toList.all Nm.hostB && (decide (1 ≤ s.size) && decide (s.size ≤ 40)))) := by show _ = _; rw [hr, Nm.host, made_eq]
  have HZ : Hid (s.data.toList.length = s.size) := (Lib.size_eq s).symm
  clear hr
  go_enter Try.func30, Try.ntmps30
  go_wp2_with fail
  go_loop [3] (fun i => ∃ k : Nat, k ≤ s.size ∧ i = .int .i64 k ∧ Hid ((s.data.toList.take k).all Nm.hostB = true)) (fun i => s.size - (intOf i).toNat)
  case atStart => exact ⟨0, by omega, rfl, rfl⟩
  case round =>
    obtain ⟨k, hk, rfl, HT⟩ := hrel
    by_cases hlt : k < s.size
    · have hlt' : k < s.data.toList.length := by rw [HZ.out]; exact hlt
      go_wp2_with fail
      refine (refPlain_any (s[k]'hlt) w).mono ?_
      rintro e w ⟨rfl, rfl⟩
      have hbe : s.data.toList[k]'hlt' = s[k]'hlt := rfl
      cases hc : Nm.hostB (s[k]'hlt) with
      | true =>
        have HA := nhide (take_all _ _ hlt' HT.out (by rw [hbe]; exact hc))
        clear hc
        go_wp2_with fail
        go_round
        case rel => exact ⟨k + 1, hlt, by go_num, HA⟩
        case measure => simp [intOf]; omega
      | false =>
        have hrf : r = false := by rw [HR.out, not_all _ _ hlt' (by rw [hbe]; exact hc)]; rfl
        clear hc
        go_wp2_with fail
        go_ret
        exact ⟨by rw [hrf]; rfl, rfl⟩
    · have ht : s.data.toList.all Nm.hostB = true := by
        have h1 := HT.out
        rw [List.take_of_length_le (by rw [HZ.out]; omega)] at h1
        exact h1
      have hr2 : r = (decide (1 ≤ s.size) && decide (s.size ≤ 40)) := by rw [HR.out, ht, Bool.true_and]
      by_cases h0 : s.size = 0
      · have h1 : decide ((1 : Int) ≤ (s.size : Int)) = false := by simp; omega
        have hrf : r = false := by rw [hr2]; simp; omega
        have HRf := nhide hrf
        clear hr2 hrf h0
        go_wp2_with fail
        go_ret
        exact ⟨by rw [HRf.out]; rfl, rfl⟩
      · have h1 : decide ((1 : Int) ≤ (s.size : Int)) = true := by simp; omega
        by_cases h40 : s.size ≤ 40
        · have hrf : r = true := by rw [hr2]; simp; omega
          have HRf := nhide hrf
          clear hr2 hrf h0
          have h2 : decide ((s.size : Int) ≤ 40) = true := by simp; omega
          go_wp2_with fail
          go_ret
          exact ⟨by rw [HRf.out]; rfl, rfl⟩
        · have hrf : r = false := by rw [hr2]; simp; omega
          have HRf := nhide hrf
          clear hr2 hrf h0
          have h2 : decide ((s.size : Int) ≤ 40) = false := by simp; omega
          go_wp2_with fail
          go_ret
          exact ⟨by rw [HRf.out]; rfl, rfl⟩

set_option maxHeartbeats 1000000 in
theorem refLocal_any (s : ByteArray) (w : World) (hs : s.size ≤ 140737488355328) :
    Calls Try.prog 55 #[.string s] w fun e w' => e = .returned (.bool (Nm.loc s.data.toList)) ∧ w' = w := by
  obtain ⟨r, hr⟩ : ∃ r, r = Nm.loc s.data.toList := ⟨_, rfl⟩
  rw [← hr]
  have HR : Hid (r = (s.data.toList.all Nm.locB && (decide (1 ≤ s.size) && decide (s.size ≤ 40)))) := by show _ = _; rw [hr, Nm.loc, made_eq]
  have HZ : Hid (s.data.toList.length = s.size) := (Lib.size_eq s).symm
  clear hr
  go_enter Try.func55, Try.ntmps55
  go_wp2_with fail
  go_loop [3] (fun i => ∃ k : Nat, k ≤ s.size ∧ i = .int .i64 k ∧ Hid ((s.data.toList.take k).all Nm.locB = true)) (fun i => s.size - (intOf i).toNat)
  case atStart => exact ⟨0, by omega, rfl, rfl⟩
  case round =>
    obtain ⟨k, hk, rfl, HT⟩ := hrel
    by_cases hlt : k < s.size
    · have hlt' : k < s.data.toList.length := by rw [HZ.out]; exact hlt
      have hbe : s.data.toList[k]'hlt' = s[k]'hlt := rfl
      have hloc : Nm.locB (s[k]'hlt) = (Nm.hostB (s[k]'hlt) || decide ((s[k]'hlt).toNat = 95) || decide ((s[k]'hlt).toNat = 61) || decide ((s[k]'hlt).toNat = 47)) := rfl
      have e95 : (((s[k]'hlt).toNat : Int) != 95) = !decide ((s[k]'hlt).toNat = 95) := by
        rw [bne]; congr 1; rw [Bool.eq_iff_iff]; simp; omega
      have e61 : (((s[k]'hlt).toNat : Int) != 61) = !decide ((s[k]'hlt).toNat = 61) := by
        rw [bne]; congr 1; rw [Bool.eq_iff_iff]; simp; omega
      have e47 : (((s[k]'hlt).toNat : Int) != 47) = !decide ((s[k]'hlt).toNat = 47) := by
        rw [bne]; congr 1; rw [Bool.eq_iff_iff]; simp; omega
      cases hc : Nm.locB (s[k]'hlt) with
      | true =>
        have HA := nhide (take_all _ _ hlt' HT.out (by rw [hbe]; exact hc))
        rw [hc] at hloc
        cases hp : Nm.hostB (s[k]'hlt) with
        | true =>
          have HP := nhide hp
          clear hc hp hloc e95 e61 e47
          go_wp2_with fail
          refine (refPlain_any (s[k]'hlt) w).mono ?_
          rintro e w ⟨rfl, rfl⟩
          rw [HP.out]
          go_wp2_with fail
          go_round
          case rel => exact ⟨k + 1, hlt, by go_num, HA⟩
          case measure => simp [intOf]; omega
        | false =>
          have HP := nhide hp
          rw [hp] at hloc
          have h3 : (decide ((s[k]'hlt).toNat = 95) = true) ∨ (decide ((s[k]'hlt).toNat = 95) = false ∧ decide ((s[k]'hlt).toNat = 61) = true) ∨ (decide ((s[k]'hlt).toNat = 95) = false ∧ decide ((s[k]'hlt).toNat = 61) = false ∧ decide ((s[k]'hlt).toNat = 47) = true) := by
            revert hloc
            cases decide ((s[k]'hlt).toNat = 95) <;> cases decide ((s[k]'hlt).toNat = 61) <;> cases decide ((s[k]'hlt).toNat = 47) <;> simp
          clear hc hp hloc
          rcases h3 with h5 | ⟨h5, h6⟩ | ⟨h5, h6, h7⟩
          · rw [h5] at e95
            clear h5 e61 e47
            go_wp2_with fail
            refine (refPlain_any (s[k]'hlt) w).mono ?_
            rintro e w ⟨rfl, rfl⟩
            rw [HP.out]
            go_wp2_with fail
            go_round
            case rel => exact ⟨k + 1, hlt, by go_num, HA⟩
            case measure => simp [intOf]; omega
          · rw [h5] at e95
            rw [h6] at e61
            clear h5 h6 e47
            go_wp2_with fail
            refine (refPlain_any (s[k]'hlt) w).mono ?_
            rintro e w ⟨rfl, rfl⟩
            rw [HP.out]
            go_wp2_with fail
            go_round
            case rel => exact ⟨k + 1, hlt, by go_num, HA⟩
            case measure => simp [intOf]; omega
          · rw [h5] at e95
            rw [h6] at e61
            rw [h7] at e47
            clear h5 h6 h7
            go_wp2_with fail
            refine (refPlain_any (s[k]'hlt) w).mono ?_
            rintro e w ⟨rfl, rfl⟩
            rw [HP.out]
            go_wp2_with fail
            go_round
            case rel => exact ⟨k + 1, hlt, by go_num, HA⟩
            case measure => simp [intOf]; omega
      | false =>
        have hrf : r = false := by rw [HR.out, not_all _ _ hlt' (by rw [hbe]; exact hc)]; rfl
        rw [hc] at hloc
        have h3 : Nm.hostB (s[k]'hlt) = false ∧ decide ((s[k]'hlt).toNat = 95) = false ∧ decide ((s[k]'hlt).toNat = 61) = false ∧ decide ((s[k]'hlt).toNat = 47) = false := by
          revert hloc
          cases Nm.hostB (s[k]'hlt) <;> cases decide ((s[k]'hlt).toNat = 95) <;> cases decide ((s[k]'hlt).toNat = 61) <;> cases decide ((s[k]'hlt).toNat = 47) <;> simp
        obtain ⟨hp, h5, h6, h7⟩ := h3
        have HP := nhide hp
        rw [h5] at e95
        rw [h6] at e61
        rw [h7] at e47
        clear hc hp h5 h6 h7 hloc
        go_wp2_with fail
        refine (refPlain_any (s[k]'hlt) w).mono ?_
        rintro e w ⟨rfl, rfl⟩
        rw [HP.out]
        go_wp2_with fail
        go_ret
        exact ⟨by rw [hrf]; rfl, rfl⟩
    · have ht : s.data.toList.all Nm.locB = true := by
        have h1 := HT.out
        rw [List.take_of_length_le (by rw [HZ.out]; omega)] at h1
        exact h1
      have hr2 : r = (decide (1 ≤ s.size) && decide (s.size ≤ 40)) := by rw [HR.out, ht, Bool.true_and]
      by_cases h0 : s.size = 0
      · have h1 : decide ((1 : Int) ≤ (s.size : Int)) = false := by simp; omega
        have hrf : r = false := by rw [hr2]; simp; omega
        have HRf := nhide hrf
        clear hr2 hrf h0
        go_wp2_with fail
        go_ret
        exact ⟨by rw [HRf.out]; rfl, rfl⟩
      · have h1 : decide ((1 : Int) ≤ (s.size : Int)) = true := by simp; omega
        by_cases h40 : s.size ≤ 40
        · have hrf : r = true := by rw [hr2]; simp; omega
          have HRf := nhide hrf
          clear hr2 hrf h0
          have h2 : decide ((s.size : Int) ≤ 40) = true := by simp; omega
          go_wp2_with fail
          go_ret
          exact ⟨by rw [HRf.out]; rfl, rfl⟩
        · have hrf : r = false := by rw [hr2]; simp; omega
          have HRf := nhide hrf
          clear hr2 hrf h0
          have h2 : decide ((s.size : Int) ≤ 40) = false := by simp; omega
          go_wp2_with fail
          go_ret
          exact ⟨by rw [HRf.out]; rfl, rfl⟩

/-- where the first colon stands; below 0: nowhere -/
def colZ (l : List UInt8) : Int := Lib.indexByte l 58
theorem colZ_at (l : List UInt8) (k : Nat) (h : k < l.length) (h1 : ∀ i (hi : i < k), ¬ l[i]'(by omega) = 58) (h2 : l[k] = 58) : colZ l = k := by
  unfold colZ
  induction l generalizing k with
  | nil => simp at h
  | cons c l ih =>
    cases k with
    | zero =>
      have : c = 58 := h2
      unfold Lib.indexByte
      simp [this]
    | succ k =>
      have hc : ¬ c = 58 := h1 0 (by omega)
      have := ih k (by simpa using h) (fun i hi => by have := h1 (i + 1) (by omega); simpa using this) (by simpa using h2)
      have hb : (c == 58) = false := by simp [hc]
      have hn : ((k : Int) == -1) = false := by rw [beq_eq_false_iff_ne]; omega
      unfold Lib.indexByte
      rw [hb, this, hn]
      simp
theorem colZ_none (l : List UInt8) (h1 : ∀ i (hi : i < l.length), ¬ l[i] = 58) : colZ l = -1 := by
  unfold colZ
  apply nm_index_none
  intro hm
  obtain ⟨i, hi, e⟩ := List.mem_iff_getElem.1 hm
  exact h1 i hi e

set_option maxHeartbeats 1000000 in
theorem refColon_any (s : ByteArray) (w : World) (hs : s.size ≤ 140737488355328) :
    Calls Try.prog 43 #[.string s] w fun e w' => e = .returned (.int .i64 (colZ s.data.toList)) ∧ w' = w := by
  obtain ⟨r, hr⟩ : ∃ r, r = colZ s.data.toList := ⟨_, rfl⟩
  rw [← hr]
  have HR := nhide hr
  have HZ : Hid (s.data.toList.length = s.size) := (Lib.size_eq s).symm
  clear hr
  go_enter Try.func43, Try.ntmps43
  go_wp2_with fail
  go_loop [3] (fun i => ∃ k : Nat, k ≤ s.size ∧ i = .int .i64 k ∧ Hid (∀ i (hi : i < k) (h' : i < s.data.toList.length), ¬ s.data.toList[i] = 58)) (fun i => s.size - (intOf i).toNat)
  case atStart => exact ⟨0, by omega, rfl, (fun i hi => absurd hi (by omega))⟩
  case round =>
    obtain ⟨k, hk, rfl, HT⟩ := hrel
    by_cases hlt : k < s.size
    · have hlt' : k < s.data.toList.length := by rw [HZ.out]; exact hlt
      have e58 := byteEq hlt 58 58 rfl
      by_cases hc : s.data.toList[k]'hlt' = 58
      · rw [decide_eq_true hc] at e58
        have hrk : r = k := by rw [HR.out]; exact colZ_at _ k hlt' (fun i hi => HT.out i hi (by omega)) hc
        have HRk := nhide hrk
        clear hc hrk
        go_wp2_with fail
        go_ret
        exact ⟨by rw [HRk.out]; rfl, rfl⟩
      · rw [decide_eq_false hc] at e58
        have HA : Hid (∀ i (hi : i < k + 1) (h' : i < s.data.toList.length), ¬ s.data.toList[i] = 58) := fun i hi h' => by
          by_cases e : i = k
          · subst e; exact hc
          · exact HT.out i (by omega) h'
        clear hc
        go_wp2_with fail
        go_round
        case rel => exact ⟨k + 1, hlt, by go_num, HA⟩
        case measure => simp [intOf]; omega
    · have hrk : r = -1 := by rw [HR.out]; exact colZ_none _ (fun i hi => HT.out i (by rw [HZ.out] at hi; omega) hi)
      have HRk := nhide hrk
      clear hrk
      go_wp2_with fail
      go_ret
      exact ⟨by rw [HRk.out]; rfl, rfl⟩
end Go.Proofs.Ytpfbiklbecdmiaa
namespace Go.Proofs.Ytpfbiklbecdmiaa
open Go.RowKit Go.Shelf

theorem nrun_mid (s : ByteArray) (k : Nat) (h1 : 1 ≤ k) (h : k ≤ s.size) (w : World) : (Instr.sliceAt 9 (.string s) (some (.int .i64 1)) (some (.int .i64 (k : Int))) none).run Try.prog w = .ok (.string (s.extract 1 k)) w := by
  have hu : (Try.prog.underlying 9) = some .string := Try.underlying9
  have h2 : (k : Int) ≤ s.size := by omega
  have h3 : (1 : Int) ≤ k := by omega
  have h4 : (1 : Int) ≤ s.size := by omega
  simp [Instr.sliceAt, Instr.slice, run_underlying hu, Instr.sliceBounds, run_sliceBound, h2, h3, h4]

/-- what the document's 'of' has in hand -/
theorem of_cases (c : UInt8) (hc : ¬ c = 58) (s : ByteArray) :
    (¬ 0 < colZ s.data.toList ∧ Nm.hostOf c s.data.toList = none) ∨
    ∃ (k : Nat) (l h : List UInt8), colZ s.data.toList = k ∧ 1 ≤ k ∧ k < s.size ∧ (s.extract 1 k).data.toList = l ∧ (s.extract (k + 1) s.size).data.toList = h ∧
      ∃ h0 : 0 < s.size, Nm.hostOf c s.data.toList = if s[0]'h0 = c then (if Nm.loc l && Nm.host h then some h else none) else none := by
  cases e : s.data.toList with
  | nil => exact .inl ⟨by decide, rfl⟩
  | cons d t =>
    by_cases hd : d = 58
    · refine .inl ⟨?_, ?_⟩
      · rw [hd]; unfold colZ Lib.indexByte; simp
      · exact Nm.hostOf_other _ _ _ (fun h => hc (by rw [← h, hd]))
    · have hix := index_parted t
      have hcz : colZ (d :: t) = if Lib.indexByte t 58 == -1 then -1 else Lib.indexByte t 58 + 1 := by
        have hb : (d == 58) = false := by simp [hd]
        unfold colZ
        conv => lhs; unfold Lib.indexByte
        rw [hb]
        rfl
      cases hp : Nm.parted t with
      | none =>
        rw [hp] at hix
        simp only at hix
        refine .inl ⟨?_, ?_⟩
        · rw [hcz, hix]; decide
        · simp only [Nm.hostOf, hp]
          split <;> rfl
      | some x =>
        obtain ⟨l, h⟩ := x
        rw [hp] at hix
        simp only at hix
        obtain ⟨ht, _⟩ := Nm.parted_eq _ _ _ hp
        have hsz : s.size = l.length + h.length + 2 := by
          rw [Lib.size_eq, e, ht]; simp; omega
        refine .inr ⟨l.length + 1, l, h, ?_, by omega, by omega, ?_, ?_, by omega, ?_⟩
        · rw [hcz, hix]
          have : ((l.length : Int) == -1) = false := by rw [beq_eq_false_iff_ne]; omega
          rw [this]
          simp
        · rw [Lib.extract_data, e, ht]; simp
        · have := ex_back s (d :: l) h 58 (by rw [e, ht]; rfl)
          simpa using this
        · have h0 : s[0]'(by omega) = d := by
            have h1 : s.data.toList[0]'(by rw [e]; simp) = d := by simp [e]
            exact h1
          rw [h0]
          simp only [Nm.hostOf, hp]

set_option maxHeartbeats 1000000 in
theorem refOf_any (c : UInt8) (hc : ¬ c = 58) (s : ByteArray) (w : World) (hs : s.size ≤ 140737488355328) :
    Calls Try.prog 41 #[.string s, .int .u8 (c.toNat : Int)] w fun e w' => e = .returned (.bool (Nm.hostOf c s.data.toList).isSome) ∧ w' = w := by
  obtain ⟨r, hr⟩ : ∃ r, r = (Nm.hostOf c s.data.toList).isSome := ⟨_, rfl⟩
  rw [← hr]
  rcases of_cases c hc s with ⟨hz, hn⟩ | ⟨k, l, h, hz, hk1, hk2, hl, hh, h0, hn⟩
  · have hrf : r = false := by rw [hr, hn]; rfl
    have hd : decide (0 < colZ s.data.toList) = false := by simpa using hz
    have HRf := nhide hrf
    clear hr hn hrf
    go_enter Try.func41, Try.ntmps41
    go_wp2_with fail
    refine (refColon_any s w hs).mono ?_
    rintro e w ⟨rfl, rfl⟩
    go_wp2_with fail
    go_ret
    exact ⟨by rw [HRf.out]; rfl, rfl⟩
  · have hkd : decide (0 < (k : Int)) = true := by simp; omega
    have hz0 : ((s[0]'h0).toNat : Int) = ((s[0]'h0).toNat : Int) := rfl
    have hsl := nrun_mid s k hk1 (by omega)
    have hsl2 := nm_slice s k (by omega)
    have hwr : IntKind.i64.wrap ((k : Int) + 1) = (k : Int) + 1 := by rw [IntKind.wrap_i64]; omega
    have HZ := nhide hz
    have HL := nhide hl
    have HH := nhide hh
    have hz1 : (s.extract 1 k).size ≤ 140737488355328 := by rw [ByteArray.size_extract]; omega
    have hz2 : (s.extract (k + 1) s.size).size ≤ 140737488355328 := by rw [ByteArray.size_extract]; omega
    by_cases hsg : s[0]'h0 = c
    · have hsb : (((s[0]'h0).toNat : Int) == (c.toNat : Int)) = true := by rw [hsg]; simp
      rw [if_pos hsg] at hn
      have hr2 : r = (Nm.loc l && Nm.host h) := by
        rw [hr, hn]
        cases Nm.loc l && Nm.host h <;> rfl
      have HR2 := nhide hr2
      clear hr hn hr2 hsg hz hl hh
      go_enter Try.func41, Try.ntmps41
      go_wp2_with fail
      refine (refColon_any s w hs).mono ?_
      rintro e w ⟨rfl, rfl⟩
      rw [HZ.out]
      go_wp2_with fail
      refine (refLocal_any _ w hz1).mono ?_
      rintro e w ⟨rfl, rfl⟩
      rw [HL.out]
      cases hlo : Nm.loc l with
      | false =>
        have hrf : r = false := by rw [HR2.out, hlo]; rfl
        clear hlo
        go_wp2_with fail
        go_ret
        exact ⟨by rw [hrf]; rfl, rfl⟩
      | true =>
        have hrf : r = Nm.host h := by rw [HR2.out, hlo]; rfl
        have HRF := nhide hrf
        clear hlo hrf
        go_wp2_with fail
        refine (refHost_any _ w hz2).mono ?_
        rintro e w ⟨rfl, rfl⟩
        rw [HH.out]
        go_wp2_with fail
        go_ret
        exact ⟨by rw [HRF.out]; rfl, rfl⟩
    · have hsb : (((s[0]'h0).toNat : Int) == (c.toNat : Int)) = false := by
        rw [beq_eq_false_iff_ne]
        intro e
        exact hsg (UInt8.toNat_inj.1 (Int.ofNat_inj.1 e))
      rw [if_neg hsg] at hn
      have hrf : r = false := by rw [hr, hn]; rfl
      have HRf := nhide hrf
      clear hr hn hrf hsg hz hl hh
      go_enter Try.func41, Try.ntmps41
      go_wp2_with fail
      refine (refColon_any s w hs).mono ?_
      rintro e w ⟨rfl, rfl⟩
      rw [HZ.out]
      go_wp2_with fail
      go_ret
      exact ⟨by rw [HRf.out]; rfl, rfl⟩

theorem refUser_any (s : ByteArray) (w : World) (hs : s.size ≤ 140737488355328) :
    Calls Try.prog 28 #[.string s] w fun e w' => e = .returned (.bool (Nm.user s.data.toList)) ∧ w' = w := by
  go_enter Try.func28, Try.ntmps28
  go_wp2_with fail
  refine (refOf_any 64 (by decide) s w hs).mono ?_
  rintro e w ⟨rfl, rfl⟩
  go_wp2_with fail
  go_ret
  exact ⟨rfl, rfl⟩
theorem refRoom_any (s : ByteArray) (w : World) (hs : s.size ≤ 140737488355328) :
    Calls Try.prog 29 #[.string s] w fun e w' => e = .returned (.bool (Nm.room s.data.toList)) ∧ w' = w := by
  go_enter Try.func29, Try.ntmps29
  go_wp2_with fail
  refine (refOf_any 33 (by decide) s w hs).mono ?_
  rintro e w ⟨rfl, rfl⟩
  go_wp2_with fail
  go_ret
  exact ⟨rfl, rfl⟩

theorem server_cut (s : ByteArray) (h : (Nm.user s.data.toList || Nm.room s.data.toList) = true) : ∃ k : Nat, colZ s.data.toList = k ∧ k < s.size ∧ (⟨(Nm.server s.data.toList).toArray⟩ : ByteArray) = s.extract (k + 1) s.size := by
  have key : ∀ c : UInt8, ¬ c = 58 → ∀ x, Nm.hostOf c s.data.toList = some x → ∃ k : Nat, colZ s.data.toList = k ∧ k < s.size ∧ (⟨x.toArray⟩ : ByteArray) = s.extract (k + 1) s.size := by
    intro c hc x hx
    rcases of_cases c hc s with ⟨_, hn⟩ | ⟨k, l, h, hz, _, hk2, _, hh, h0, hn⟩
    · rw [hn] at hx; cases hx
    · rw [hn] at hx
      split at hx
      · split at hx
        · refine ⟨k, hz, hk2, ?_⟩
          rw [← Option.some.inj hx, ← hh]
        · cases hx
      · cases hx
  unfold Nm.server
  cases hu : Nm.hostOf 64 s.data.toList with
  | some x => exact key 64 (by decide) x hu
  | none =>
    cases hr : Nm.hostOf 33 s.data.toList with
    | some x => exact key 33 (by decide) x hr
    | none =>
      unfold Nm.user Nm.room at h
      rw [hu, hr] at h
      cases h

set_option maxHeartbeats 1000000 in
theorem refServer_any (s : ByteArray) (w : World) (hs : s.size ≤ 140737488355328) :
    Calls Try.prog 31 #[.string s] w fun e w' => e = .returned (.string ⟨(Nm.server s.data.toList).toArray⟩) ∧ w' = w := by
  cases hur : (Nm.user s.data.toList || Nm.room s.data.toList) with
  | false =>
    have hsv : Nm.server s.data.toList = [] := by
      have h1 := Nm.server_is s.data.toList
      rw [hur] at h1
      cases e : Nm.server s.data.toList with
      | nil => rfl
      | cons a b => rw [e] at h1; simp at h1
    obtain ⟨hu, hr⟩ : Nm.user s.data.toList = false ∧ Nm.room s.data.toList = false := by
      revert hur
      cases Nm.user s.data.toList <;> cases Nm.room s.data.toList <;> simp
    have HU := nhide hu
    have HR := nhide hr
    have HS := nhide hsv
    clear hu hr hur hsv
    go_enter Try.func31, Try.ntmps31
    go_wp2_with fail
    refine (refUser_any s w hs).mono ?_
    rintro e w ⟨rfl, rfl⟩
    rw [HU.out]
    go_wp2_with fail
    refine (refRoom_any s w hs).mono ?_
    rintro e w ⟨rfl, rfl⟩
    rw [HR.out]
    go_wp2_with fail
    go_ret
    exact ⟨by rw [HS.out]; rfl, rfl⟩
  | true =>
    obtain ⟨k, hz, hk, hsv⟩ := server_cut s hur
    have hsl2 := nm_slice s k (by omega)
    have hwr : IntKind.i64.wrap ((k : Int) + 1) = (k : Int) + 1 := by rw [IntKind.wrap_i64]; omega
    have HZ := nhide hz
    have HSv := nhide hsv
    clear hz hsv
    cases hu : Nm.user s.data.toList with
    | true =>
      have HU := nhide hu
      clear hu hur
      go_enter Try.func31, Try.ntmps31
      go_wp2_with fail
      refine (refUser_any s w hs).mono ?_
      rintro e w ⟨rfl, rfl⟩
      rw [HU.out]
      go_wp2_with fail
      refine (refColon_any s w hs).mono ?_
      rintro e w ⟨rfl, rfl⟩
      rw [HZ.out]
      go_wp2_with fail
      go_ret
      exact ⟨by rw [HSv.out]; rfl, rfl⟩
    | false =>
      have hr : Nm.room s.data.toList = true := by rw [hu] at hur; simpa using hur
      have HU := nhide hu
      have HR := nhide hr
      clear hu hur hr
      go_enter Try.func31, Try.ntmps31
      go_wp2_with fail
      refine (refUser_any s w hs).mono ?_
      rintro e w ⟨rfl, rfl⟩
      rw [HU.out]
      go_wp2_with fail
      refine (refRoom_any s w hs).mono ?_
      rintro e w ⟨rfl, rfl⟩
      rw [HR.out]
      go_wp2_with fail
      refine (refColon_any s w hs).mono ?_
      rintro e w ⟨rfl, rfl⟩
      rw [HZ.out]
      go_wp2_with fail
      go_ret
      exact ⟨by rw [HSv.out]; rfl, rfl⟩
end Go.Proofs.Ytpfbiklbecdmiaa
