/-
  THE WALKS of the document's names (layer 6): of, User, Room, Server.
-/
import Derived.Test.YtpfbiklbecdmiaaNRef
set_option linter.unusedVariables false
set_option linter.unusedSimpArgs false
namespace Go.Proofs.Ytpfbiklbecdmiaa
open Go.RowKit Go.Shelf

theorem nrun_mid (s : ByteArray) (k : Nat) (h1 : 1 ≤ k) (h : k ≤ s.size) (w : World) : (Instr.sliceAt 9 (.string s) (some (.int .i64 1)) (some (.int .i64 (k : Int))) none).run Try.prog w = .ok (.string (s.extract 1 k)) w := by
  have hu : (Try.prog.underlying 9) = some .string := Try.underlying9
  have h2 : (k : Int) ≤ s.size := by omega
  have h3 : (1 : Int) ≤ k := by omega
  have h4 : (1 : Int) ≤ s.size := by omega
  simp [Instr.sliceAt, Instr.slice, run_underlying hu, Instr.sliceBounds, run_sliceBound, h2, h3, h4]

/-- what the document's 'of' has in hand -/
theorem of_cases (c : UInt8) (hc : ¬ c = 58) (s : ByteArray) :
    (¬ 0 < colZ s.data.toList ∧ Nm.hostOf c s.data.toList = none) ∨
    ∃ (k : Nat) (l h : List UInt8), colZ s.data.toList = k ∧ 1 ≤ k ∧ k < s.size ∧ (s.extract 1 k).data.toList = l ∧ (s.extract (k + 1) s.size).data.toList = h ∧
      ∃ h0 : 0 < s.size, Nm.hostOf c s.data.toList = if s[0]'h0 = c then (if Nm.loc l && Nm.host h then some h else none) else none := by
  cases e : s.data.toList with
  | nil => exact .inl ⟨by decide, rfl⟩
  | cons d t =>
    by_cases hd : d = 58
    · refine .inl ⟨?_, ?_⟩
      · rw [hd]; unfold colZ Lib.indexByte; simp
      · exact Nm.hostOf_other _ _ _ (fun h => hc (by rw [← h, hd]))
    · have hix := index_parted t
      have hcz : colZ (d :: t) = if Lib.indexByte t 58 == -1 then -1 else Lib.indexByte t 58 + 1 := by
        have hb : (d == 58) = false := by simp [hd]
        unfold colZ
        conv => lhs; unfold Lib.indexByte
        rw [hb]
        rfl
      cases hp : Nm.parted t with
      | none =>
        rw [hp] at hix
        simp only at hix
        refine .inl ⟨?_, ?_⟩
        · rw [hcz, hix]; decide
        · simp only [Nm.hostOf, hp]
          split <;> rfl
      | some x =>
        obtain ⟨l, h⟩ := x
        rw [hp] at hix
        simp only at hix
        obtain ⟨ht, _⟩ := Nm.parted_eq _ _ _ hp
        have hsz : s.size = l.length + h.length + 2 := by
          rw [Lib.size_eq, e, ht]; simp; omega
        refine .inr ⟨l.length + 1, l, h, ?_, by omega, by omega, ?_, ?_, by omega, ?_⟩
        · rw [hcz, hix]
          have : ((l.length : Int) == -1) = false := by rw [beq_eq_false_iff_ne]; omega
          rw [this]
          simp
        · rw [Lib.extract_data, e, ht]; simp
        · have := ex_back s (d :: l) h 58 (by rw [e, ht]; rfl)
          simpa using this
        · have h0 : s[0]'(by omega) = d := by
            have h1 : s.data.toList[0]'(by rw [e]; simp) = d := by simp [e]
            exact h1
          rw [h0]
          simp only [Nm.hostOf, hp]

set_option maxHeartbeats 1000000 in
theorem refOf_any (c : UInt8) (hc : ¬ c = 58) (s : ByteArray) (w : World) (hs : s.size ≤ 140737488355328) :
    Calls Try.prog 41 #[.string s, .int .u8 (c.toNat : Int)] w fun e w' => e = .returned (.bool (Nm.hostOf c s.data.toList).isSome) ∧ w' = w := by
  obtain ⟨r, hr⟩ : ∃ r, r = (Nm.hostOf c s.data.toList).isSome := ⟨_, rfl⟩
  rw [← hr]
  rcases of_cases c hc s with ⟨hz, hn⟩ | ⟨k, l, h, hz, hk1, hk2, hl, hh, h0, hn⟩
  · have hrf : r = false := by rw [hr, hn]; rfl
    have hd : decide (0 < colZ s.data.toList) = false := by simpa using hz
    have HRf := nhide hrf
    clear hr hn hrf
    go_enter Try.func41, Try.ntmps41
    go_wp2_with fail
    refine (refColon_any s w hs).mono ?_
    rintro e w ⟨rfl, rfl⟩
    go_wp2_with fail
    go_ret
    exact ⟨by rw [HRf.out]; rfl, rfl⟩
  · have hkd : decide (0 < (k : Int)) = true := by simp; omega
    have hz0 : ((s[0]'h0).toNat : Int) = ((s[0]'h0).toNat : Int) := rfl
    have hsl := nrun_mid s k hk1 (by omega)
    have hsl2 := nm_slice s k (by omega)
    have hwr : IntKind.i64.wrap ((k : Int) + 1) = (k : Int) + 1 := by rw [IntKind.wrap_i64]; omega
    have HZ := nhide hz
    have HL := nhide hl
    have HH := nhide hh
    have hz1 : (s.extract 1 k).size ≤ 140737488355328 := by rw [ByteArray.size_extract]; omega
    have hz2 : (s.extract (k + 1) s.size).size ≤ 140737488355328 := by rw [ByteArray.size_extract]; omega
    by_cases hsg : s[0]'h0 = c
    · have hsb : (((s[0]'h0).toNat : Int) == (c.toNat : Int)) = true := by rw [hsg]; simp
      rw [if_pos hsg] at hn
      have hr2 : r = (Nm.loc l && Nm.host h) := by
        rw [hr, hn]
        cases Nm.loc l && Nm.host h <;> rfl
      have HR2 := nhide hr2
      clear hr hn hr2 hsg hz hl hh
      go_enter Try.func41, Try.ntmps41
      go_wp2_with fail
      refine (refColon_any s w hs).mono ?_
      rintro e w ⟨rfl, rfl⟩
      rw [HZ.out]
      go_wp2_with fail
      refine (refLocal_any _ w hz1).mono ?_
      rintro e w ⟨rfl, rfl⟩
      rw [HL.out]
      cases hlo : Nm.loc l with
      | false =>
        have hrf : r = false := by rw [HR2.out, hlo]; rfl
        clear hlo
        go_wp2_with fail
        go_ret
        exact ⟨by rw [hrf]; rfl, rfl⟩
      | true =>
        have hrf : r = Nm.host h := by rw [HR2.out, hlo]; rfl
        have HRF := nhide hrf
        clear hlo hrf
        go_wp2_with fail
        refine (refHost_any _ w hz2).mono ?_
        rintro e w ⟨rfl, rfl⟩
        rw [HH.out]
        go_wp2_with fail
        go_ret
        exact ⟨by rw [HRF.out]; rfl, rfl⟩
    · have hsb : (((s[0]'h0).toNat : Int) == (c.toNat : Int)) = false := by
        rw [beq_eq_false_iff_ne]
        intro e
        exact hsg (UInt8.toNat_inj.1 (Int.ofNat_inj.1 e))
      rw [if_neg hsg] at hn
      have hrf : r = false := by rw [hr, hn]; rfl
      have HRf := nhide hrf
      clear hr hn hrf hsg hz hl hh
      go_enter Try.func41, Try.ntmps41
      go_wp2_with fail
      refine (refColon_any s w hs).mono ?_
      rintro e w ⟨rfl, rfl⟩
      rw [HZ.out]
      go_wp2_with fail
      go_ret
      exact ⟨by rw [HRf.out]; rfl, rfl⟩

theorem refUser_any (s : ByteArray) (w : World) (hs : s.size ≤ 140737488355328) :
    Calls Try.prog 28 #[.string s] w fun e w' => e = .returned (.bool (Nm.user s.data.toList)) ∧ w' = w := by
  go_enter Try.func28, Try.ntmps28
  go_wp2_with fail
  refine (refOf_any 64 (by decide) s w hs).mono ?_
  rintro e w ⟨rfl, rfl⟩
  go_wp2_with fail
  go_ret
  exact ⟨rfl, rfl⟩
theorem refRoom_any (s : ByteArray) (w : World) (hs : s.size ≤ 140737488355328) :
    Calls Try.prog 29 #[.string s] w fun e w' => e = .returned (.bool (Nm.room s.data.toList)) ∧ w' = w := by
  go_enter Try.func29, Try.ntmps29
  go_wp2_with fail
  refine (refOf_any 33 (by decide) s w hs).mono ?_
  rintro e w ⟨rfl, rfl⟩
  go_wp2_with fail
  go_ret
  exact ⟨rfl, rfl⟩

theorem server_cut (s : ByteArray) (h : (Nm.user s.data.toList || Nm.room s.data.toList) = true) : ∃ k : Nat, colZ s.data.toList = k ∧ k < s.size ∧ (⟨(Nm.server s.data.toList).toArray⟩ : ByteArray) = s.extract (k + 1) s.size := by
  have key : ∀ c : UInt8, ¬ c = 58 → ∀ x, Nm.hostOf c s.data.toList = some x → ∃ k : Nat, colZ s.data.toList = k ∧ k < s.size ∧ (⟨x.toArray⟩ : ByteArray) = s.extract (k + 1) s.size := by
    intro c hc x hx
    rcases of_cases c hc s with ⟨_, hn⟩ | ⟨k, l, h, hz, _, hk2, _, hh, h0, hn⟩
    · rw [hn] at hx; cases hx
    · rw [hn] at hx
      split at hx
      · split at hx
        · refine ⟨k, hz, hk2, ?_⟩
          rw [← Option.some.inj hx, ← hh]
        · cases hx
      · cases hx
  unfold Nm.server
  cases hu : Nm.hostOf 64 s.data.toList with
  | some x => exact key 64 (by decide) x hu
  | none =>
    cases hr : Nm.hostOf 33 s.data.toList with
    | some x => exact key 33 (by decide) x hr
    | none =>
      unfold Nm.user Nm.room at h
      rw [hu, hr] at h
      cases h

set_option maxHeartbeats 1000000 in
theorem refServer_any (s : ByteArray) (w : World) (hs : s.size ≤ 140737488355328) :
    Calls Try.prog 31 #[.string s] w fun e w' => e = .returned (.string ⟨(Nm.server s.data.toList).toArray⟩) ∧ w' = w := by
  cases hur : (Nm.user s.data.toList || Nm.room s.data.toList) with
  | false =>
    have hsv : Nm.server s.data.toList = [] := by
      have h1 := Nm.server_is s.data.toList
      rw [hur] at h1
      cases e : Nm.server s.data.toList with
      | nil => rfl
      | cons a b => rw [e] at h1; simp at h1
    obtain ⟨hu, hr⟩ : Nm.user s.data.toList = false ∧ Nm.room s.data.toList = false := by
      revert hur
      cases Nm.user s.data.toList <;> cases Nm.room s.data.toList <;> simp
    have HU := nhide hu
    have HR := nhide hr
    have HS := nhide hsv
    clear hu hr hur hsv
    go_enter Try.func31, Try.ntmps31
    go_wp2_with fail
    refine (refUser_any s w hs).mono ?_
    rintro e w ⟨rfl, rfl⟩
    rw [HU.out]
    go_wp2_with fail
    refine (refRoom_any s w hs).mono ?_
    rintro e w ⟨rfl, rfl⟩
    rw [HR.out]
    go_wp2_with fail
    go_ret
    exact ⟨by rw [HS.out]; rfl, rfl⟩
  | true =>
    obtain ⟨k, hz, hk, hsv⟩ := server_cut s hur
    have hsl2 := nm_slice s k (by omega)
    have hwr : IntKind.i64.wrap ((k : Int) + 1) = (k : Int) + 1 := by rw [IntKind.wrap_i64]; omega
    have HZ := nhide hz
    have HSv := nhide hsv
    clear hz hsv
    cases hu : Nm.user s.data.toList with
    | true =>
      have HU := nhide hu
      clear hu hur
      go_enter Try.func31, Try.ntmps31
      go_wp2_with fail
      refine (refUser_any s w hs).mono ?_
      rintro e w ⟨rfl, rfl⟩
      rw [HU.out]
      go_wp2_with fail
      refine (refColon_any s w hs).mono ?_
      rintro e w ⟨rfl, rfl⟩
      rw [HZ.out]
      go_wp2_with fail
      go_ret
      exact ⟨by rw [HSv.out]; rfl, rfl⟩
    | false =>
      have hr : Nm.room s.data.toList = true := by rw [hu] at hur; simpa using hur
      have HU := nhide hu
      have HR := nhide hr
      clear hu hur hr
      go_enter Try.func31, Try.ntmps31
      go_wp2_with fail
      refine (refUser_any s w hs).mono ?_
      rintro e w ⟨rfl, rfl⟩
      rw [HU.out]
      go_wp2_with fail
      refine (refRoom_any s w hs).mono ?_
      rintro e w ⟨rfl, rfl⟩
      rw [HR.out]
      go_wp2_with fail
      refine (refColon_any s w hs).mono ?_
      rintro e w ⟨rfl, rfl⟩
      rw [HZ.out]
      go_wp2_with fail
      go_ret
      exact ⟨by rw [HSv.out]; rfl, rfl⟩
end Go.Proofs.Ytpfbiklbecdmiaa
