/-
  THE WALK of NamesOne.
-/
import Derived.Test.YtpfbiklbecdmiaaNLawB
set_option linter.unusedVariables false
set_option linter.unusedSimpArgs false
namespace Go.Proofs.Ytpfbiklbecdmiaa
open Go.RowKit Go.Shelf

set_option maxHeartbeats 1000000 in
theorem nmOne_any (s : ByteArray) (w : World) (hs : s.size ≤ 140737488355328) :
    Calls Try.prog 26 #[.string s] w fun e w' => e = .returned (.bool true) ∧ Below w.heap.size w w' := by
  go_enter Try.func26, Try.ntmps26
  go_wp2_with fail
  refine (user_any s w hs).mono ?_
  rintro e w1 ⟨rfl, b1⟩
  go_wp2_with fail
  refine (room_any s w1 hs).mono ?_
  rintro e w2 ⟨rfl, b2⟩
  go_wp2_with fail
  refine (server_any s w2 hs).mono ?_
  rintro e w3 ⟨rfl, b3⟩
  have b3' := nthen (nthen b1 b2) b3
  have h1 := Nm.not_both s.data.toList
  have h2 := Nm.server_is s.data.toList
  have h3 := Nm.server_host s.data.toList
  have h4 := Nm.host_none s.data.toList
  obtain ⟨SV, hSV⟩ : ∃ SV : ByteArray, SV = ⟨(Nm.server s.data.toList).toArray⟩ := ⟨_, rfl⟩
  rw [← hSV]
  have hsv : Nm.server s.data.toList = SV.data.toList := by rw [hSV]
  rw [hsv] at h2 h3
  rw [← Lib.toList_data] at h2 h3
  have H3 := nhide h3
  have H4 := nhide h4
  clear b1 b2 b3 hSV hsv h3 h4
  generalize Nm.user s.data.toList = u at *
  generalize Nm.room s.data.toList = r at *
  cases hur : (u || r) with
  | true =>
    have hse : SV.toList.isEmpty = false := by rw [hur] at h2; simpa using h2
    have hho : Nm.host SV.data.toList = true := by have := H3.out hse; rwa [Lib.toList_data] at this
    have hh : Nm.host s.data.toList = false := by
      cases hx : Nm.host s.data.toList with
      | false => rfl
      | true => have := H4.out hx; rw [hur] at this; cases this
    have HO := nhide hho
    have HH := nhide hh
    clear h2 hho hh
    have hcase : (u = true ∧ r = false) ∨ (u = false ∧ r = true) := by
      cases u <;> cases r <;> simp_all
    clear hur h1
    rcases hcase with ⟨rfl, rfl⟩ | ⟨rfl, rfl⟩
    · go_wp2_with fail
      refine (host_any SV w3).mono ?_
      rintro e w4 ⟨rfl, b4⟩
      rw [HO.out]
      go_wp2_with fail
      refine (host_any s w4).mono ?_
      rintro e w5 ⟨rfl, b5⟩
      rw [HH.out]
      go_wp2_with fail
      go_ret
      exact ⟨rfl, nthen (nthen b3' b4) b5⟩
    · go_wp2_with fail
      refine (host_any SV w3).mono ?_
      rintro e w4 ⟨rfl, b4⟩
      rw [HO.out]
      go_wp2_with fail
      refine (host_any s w4).mono ?_
      rintro e w5 ⟨rfl, b5⟩
      rw [HH.out]
      go_wp2_with fail
      go_ret
      exact ⟨rfl, nthen (nthen b3' b4) b5⟩
  | false =>
    have hse : SV.toList.isEmpty = true := by rw [hur] at h2; simpa using h2
    have hcase : u = false ∧ r = false := by
      cases u <;> cases r <;> simp_all
    obtain ⟨rfl, rfl⟩ := hcase
    clear h1 h2 hur
    go_wp2_with fail
    refine (host_any s w3).mono ?_
    rintro e w5 ⟨rfl, b5⟩
    cases Nm.host s.data.toList with
    | true =>
      go_wp2_with fail
      go_ret
      exact ⟨rfl, nthen b3' b5⟩
    | false =>
      go_wp2_with fail
      go_ret
      exact ⟨rfl, nthen b3' b5⟩

theorem name_len (zs : List Int) (len : Nat) : (Nm.name zs len).length ≤ 48 := by
  have := Nm.pick_len 14 Nm.nameTab (by decide) zs (min len 12)
  unfold Nm.name
  omega
theorem arr_size (l : List UInt8) : (⟨l.toArray⟩ : ByteArray).size = l.length := by
  rw [Lib.size_eq]

set_option maxHeartbeats 1000000 in
theorem namesOne_walk (a0 : ByteArray) (a1 : Option Addr) (len1 cap1 : Nat) (z1 : List Int) (w : World) (w0 : a0.size ≤ maxLen) (w1 : IsRow .u8 w a1 len1 cap1 z1) :
    Calls Try.prog 9 #[.string a0, .slice a1 len1 cap1] w fun e w' => e = .returned (.bool true) ∧ Below w.heap.size w w' := by
  have HB : Hid (Bys w a1 len1 z1) := w1.view
  clear w1 w0
  by_cases h100 : 100 < a0.size
  · go_enter Try.func9, Try.ntmps9
    go_wp2_with fail
    refine (nknown_any w).mono ?_
    rintro e w2 ⟨rfl, b2⟩
    go_wp2_with fail
    go_ret
    exact ⟨rfl, b2⟩
  · obtain ⟨X, hX⟩ : ∃ X : ByteArray, X = ⟨(Nm.name z1 len1).toArray⟩ := ⟨_, rfl⟩
    have hXs : X.size ≤ 48 := by rw [hX, arr_size]; exact name_len _ _
    have HX := nhide hX
    clear hX
    go_enter Try.func9, Try.ntmps9
    go_wp2_with fail
    refine (nknown_any w).mono ?_
    rintro e w2 ⟨rfl, b2⟩
    go_wp2_with fail
    refine (nmOne_any a0 w2 (by omega)).mono ?_
    rintro e w3 ⟨rfl, b3⟩
    have b3' := nthen b2 b3
    clear b2 b3
    go_wp2_with fail
    refine (name_row a1 len1 cap1 z1 w3 (HB.out.below b3')).mono ?_
    rintro e w4 ⟨rfl, b4⟩
    rw [← HX.out]
    have b4' := nthen b3' b4
    clear b3' b4
    go_wp2_with fail
    refine (nmOne_any X w4 (by omega)).mono ?_
    rintro e w5 ⟨rfl, b5⟩
    have b5' := nthen b4' b5
    clear b4' b5
    go_wp2_with fail
    refine (nmOne_any _ w5 (by rw [ByteArray.size_append]; show 3 + _ ≤ _; omega)).mono ?_
    rintro e w6 ⟨rfl, b6⟩
    have b6' := nthen b5' b6
    clear b5' b6
    go_wp2_with fail
    refine (name_row a1 len1 cap1 z1 w6 (HB.out.below b6')).mono ?_
    rintro e w7 ⟨rfl, b7⟩
    rw [← HX.out]
    have b7' := nthen b6' b7
    clear b6' b7
    go_wp2_with fail
    refine (nmOne_any _ w7 (by rw [ByteArray.size_append, ByteArray.size_append]; show 1 + _ + 2 ≤ _; omega)).mono ?_
    rintro e w8 ⟨rfl, b8⟩
    go_wp2_with fail
    go_ret
    exact ⟨rfl, nthen b7' b8⟩
end Go.Proofs.Ytpfbiklbecdmiaa
