/-
  THE WALK of NamesParts.
-/
import Derived.Test.YtpfbiklbecdmiaaNParted
set_option linter.unusedVariables false
set_option linter.unusedSimpArgs false
namespace Go.Proofs.Ytpfbiklbecdmiaa
open Go.RowKit Go.Shelf Go.Sort

theorem user_is (s : ByteArray) (w : World) (b : Bool) (hs : s.size ≤ 140737488355328) (hb : Nm.user s.data.toList = b) :
    Calls Try.prog 20 #[.string s] w fun e w' => e = .returned (.bool b) ∧ Below w.heap.size w w' := by rw [← hb]; exact user_any s w hs
theorem room_is (s : ByteArray) (w : World) (b : Bool) (hs : s.size ≤ 140737488355328) (hb : Nm.room s.data.toList = b) :
    Calls Try.prog 21 #[.string s] w fun e w' => e = .returned (.bool b) ∧ Below w.heap.size w w' := by rw [← hb]; exact room_any s w hs
theorem host_is (s : ByteArray) (w : World) (b : Bool) (hb : Nm.host s.data.toList = b) :
    Calls Try.prog 23 #[.string s] w fun e w' => e = .returned (.bool b) ∧ Below w.heap.size w w' := by rw [← hb]; exact host_any s w
theorem server_is' (s : ByteArray) (w : World) (X : ByteArray) (hs : s.size ≤ 140737488355328) (hb : Nm.server s.data.toList = X.data.toList) :
    Calls Try.prog 22 #[.string s] w fun e w' => e = .returned (.string X) ∧ Below w.heap.size w w' := by
  refine (server_any s w hs).mono ?_
  rintro e w1 ⟨rfl, b1⟩
  exact ⟨by rw [hb], b1⟩
theorem slice_one (M : ByteArray) (z : Nat) (h : z < M.size) (w : World) : (Instr.sliceAt 9 (.string M) (some (.int .i64 (z : Int))) (some (.int .i64 ((z : Int) + 1))) none).run Try.prog w = .ok (.string (M.extract z (z + 1))) w := by
  have hu : (Try.prog.underlying 9) = some .string := Try.underlying9
  have h1 : (z : Int) + 1 ≤ M.size := by omega
  have h2 : (0 : Int) ≤ (z : Int) + 1 := by omega
  have h3 : (z : Int) ≤ (z : Int) + 1 := by omega
  have h4 : ((z : Int) + 1).toNat = z + 1 := by omega
  simp [Instr.sliceAt, Instr.slice, run_underlying hu, Instr.sliceBounds, run_sliceBound, h1, h2, h3, h4]
theorem ext_one (M : ByteArray) (z : Nat) (h : z < M.size) (f : UInt8 → Bool) (hf : M.data.toList.all f = true) : (M.extract z (z + 1)).data.toList.all f = true ∧ (M.extract z (z + 1)).size = 1 := by
  refine ⟨?_, by rw [ByteArray.size_extract]; omega⟩
  rw [Lib.extract_data, List.all_eq_true]
  intro c hc
  exact List.all_eq_true.1 hf c (List.mem_of_mem_drop (List.mem_of_mem_take hc))
def locM : ByteArray := ⟨#[97, 98, 99, 95, 61, 47, 46, 45, 57]⟩
def hostM : ByteArray := ⟨#[97, 57, 46, 45, 122]⟩
theorem made_of (f : UInt8 → Bool) (X : ByteArray) (h : X.data.toList.all f = true) : Nm.made f X.data.toList = (decide (1 ≤ X.size) && decide (X.size ≤ 40)) := by
  rw [Nm.made, h, ← Lib.size_eq, Bool.and_true]
theorem ho_made (sg : UInt8) (L H : ByteArray) (hL : L.data.toList.all Nm.locB = true) (hH : H.data.toList.all Nm.hostB = true) (ok : Bool)
    (hok : ok = ((decide (1 ≤ L.size) && decide (L.size ≤ 40)) && (decide (1 ≤ H.size) && decide (H.size ≤ 40)))) :
    Nm.hostOf sg ((⟨#[sg]⟩ ++ L) ++ ⟨#[58]⟩ ++ H).data.toList = if ok then some H.data.toList else none := by
  rw [app_list, app_list, app_list]
  have e : (⟨#[sg]⟩ : ByteArray).data.toList ++ L.data.toList ++ (⟨#[58]⟩ : ByteArray).data.toList ++ H.data.toList = sg :: (L.data.toList ++ 58 :: H.data.toList) := by simp
  rw [e, Nm.hostOf_made sg _ _ (List.all_eq_true.1 hL), Nm.loc, Nm.host, made_of _ _ hL, made_of _ _ hH, ← hok]
theorem ho_other (sg c : UInt8) (L H : ByteArray) (h : ¬ c = sg) : Nm.hostOf sg ((⟨#[c]⟩ ++ L) ++ ⟨#[58]⟩ ++ H).data.toList = none := by
  rw [app_list, app_list, app_list]
  exact Nm.hostOf_other _ _ _ h

set_option maxRecDepth 100000 in
set_option maxHeartbeats 4000000 in
theorem namesParts_walk (a0 : Int) (a1 : Int) (a2 : Bool) (w0 : (Lit.int .u8 a0).wf = true) (w1 : (Lit.int .u8 a1).wf = true) (w : World) :
    Calls Try.prog 5 #[.int .u8 a0, .int .u8 a1, .bool a2] w fun e w' => e = .returned (.bool true) ∧ Below w.heap.size w w' := by
  obtain ⟨x0, x1⟩ := wf_u8 w0
  obtain ⟨y0, y1⟩ := wf_u8 w1
  obtain ⟨n, rfl⟩ := Int.eq_ofNat_of_zero_le x0
  obtain ⟨t, rfl⟩ := Int.eq_ofNat_of_zero_le y0
  clear w0 w1
  obtain ⟨m, hm⟩ : ∃ m, m = n % 50 := ⟨_, rfl⟩
  have hmi : (n : Int) % 50 = (m : Int) := by omega
  have hm50 : m < 50 := by omega
  obtain ⟨m2, hm2⟩ : ∃ m2, m2 = t % 50 := ⟨_, rfl⟩
  have hmi2 : (t : Int) % 50 = (m2 : Int) := by omega
  have hm250 : m2 < 50 := by omega
  have HM := nhide hm
  have HM2 := nhide hm2
  clear hm hm2
  go_enter Try.func5, Try.ntmps5
  go_wp2_with fail
  go_loop [7, 9] (fun s i => ∃ (k : Nat) (L : ByteArray), k ≤ m ∧ i = .int .i64 k ∧ s = .string L ∧ Hid (L.data.toList.all Nm.locB = true) ∧ L.size = k) (fun _ i => m - (intOf i).toNat)
  case atStart => exact ⟨0, ⟨#[]⟩, by omega, rfl, rfl, rfl, rfl⟩
  case round =>
    obtain ⟨k, L, hk, rfl, rfl, HL, hLs⟩ := hrel
    by_cases hlt : k < m
    · obtain ⟨z, hz⟩ : ∃ z, z = k % 9 := ⟨_, rfl⟩
      have hzi : (k : Int) % 9 = (z : Int) := by omega
      have hz9 : z < 9 := by omega
      have hsl : ∀ w, (Instr.sliceAt 9 (.string ⟨#[97, 98, 99, 95, 61, 47, 46, 45, 57]⟩) (some (.int .i64 (z : Int))) (some (.int .i64 ((z : Int) + 1))) none).run Try.prog w = .ok (.string (locM.extract z (z + 1))) w := fun w => slice_one locM z hz9 w
      obtain ⟨h1, h2⟩ := ext_one locM z hz9 Nm.locB (by decide)
      generalize locM.extract z (z + 1) = E at hsl h1 h2
      have HE := nhide h1
      have HZ := nhide hz
      clear h1 hz
      go_wp2_with fail
      go_round
      case rel =>
        refine ⟨k + 1, L ++ E, by omega, by go_num, rfl, ?_, ?_⟩
        · show _ = _
          rw [app_list, List.all_append, HL.out, HE.out]; rfl
        · rw [ByteArray.size_append, hLs, h2]
      case measure => simp [intOf]; omega
    · have hL49 : L.size ≤ 49 := by omega
      clear hk hLs HM
      go_wp2_with fail
      clear hlt hmi hm50
      go_loop [8, 10] (fun s i => ∃ (k : Nat) (H : ByteArray), k ≤ m2 ∧ i = .int .i64 k ∧ s = .string H ∧ Hid (H.data.toList.all Nm.hostB = true) ∧ H.size = k) (fun _ i => m2 - (intOf i).toNat)
      case atStart => exact ⟨0, ⟨#[]⟩, by omega, rfl, rfl, rfl, rfl⟩
      case round =>
        obtain ⟨k2, H, hk2, rfl, rfl, HH, hHs⟩ := hrel
        by_cases hlt2 : k2 < m2
        · obtain ⟨z, hz⟩ : ∃ z, z = k2 % 5 := ⟨_, rfl⟩
          have hzi : (k2 : Int) % 5 = (z : Int) := by omega
          have hz5 : z < 5 := by omega
          have hsl : ∀ w, (Instr.sliceAt 9 (.string ⟨#[97, 57, 46, 45, 122]⟩) (some (.int .i64 (z : Int))) (some (.int .i64 ((z : Int) + 1))) none).run Try.prog w = .ok (.string (hostM.extract z (z + 1))) w := fun w => slice_one hostM z hz5 w
          obtain ⟨h1, h2⟩ := ext_one hostM z hz5 Nm.hostB (by decide)
          generalize hostM.extract z (z + 1) = E at hsl h1 h2
          have HE := nhide h1
          have HZ := nhide hz
          clear h1 hz
          go_wp2_with fail
          go_round
          case rel =>
            refine ⟨k2 + 1, H ++ E, by omega, by go_num, rfl, ?_, ?_⟩
            · show _ = _
              rw [app_list, List.all_append, HH.out, HE.out]; rfl
            · rw [ByteArray.size_append, hHs, h2]
          case measure => simp [intOf]; omega
        · have hH49 : H.size ≤ 49 := by omega
          clear hk2 hHs HM2
          cases a2 with
          | false =>
            have HSz : Hid (((⟨#[64]⟩ ++ L) ++ ⟨#[58]⟩ ++ H).size ≤ 140737488355328) := by show _ ≤ _; rw [ByteArray.size_append, ByteArray.size_append, ByteArray.size_append]; show 1 + _ + 1 + _ ≤ _; omega
            by_cases hl0 : L.size = 0
            · by_cases hh0 : H.size = 0
              · have f1 : decide ((1 : Int) ≤ (L.size : Int)) = false := by first | exact decide_eq_true (by omega) | exact decide_eq_false (by omega)
                have f2 : decide ((L.size : Int) ≤ 40) = true := by first | exact decide_eq_true (by omega) | exact decide_eq_false (by omega)
                have f3 : decide ((1 : Int) ≤ (H.size : Int)) = false := by first | exact decide_eq_true (by omega) | exact decide_eq_false (by omega)
                have f4 : decide ((H.size : Int) ≤ 40) = true := by first | exact decide_eq_true (by omega) | exact decide_eq_false (by omega)
                have q1 : decide (1 ≤ L.size) = false := by first | exact decide_eq_true (by omega) | exact decide_eq_false (by omega)
                have q2 : decide (L.size ≤ 40) = true := by first | exact decide_eq_true (by omega) | exact decide_eq_false (by omega)
                have q3 : decide (1 ≤ H.size) = false := by first | exact decide_eq_true (by omega) | exact decide_eq_false (by omega)
                have q4 : decide (H.size ≤ 40) = true := by first | exact decide_eq_true (by omega) | exact decide_eq_false (by omega)
                have HO : Hid (Nm.hostOf 64 ((⟨#[64]⟩ ++ L) ++ ⟨#[58]⟩ ++ H).data.toList = none) := ho_made 64 L H HL.out HH.out false (by rw [q1, q2, q3, q4]; rfl)
                have HN : Hid (Nm.hostOf 33 ((⟨#[64]⟩ ++ L) ++ ⟨#[58]⟩ ++ H).data.toList = none) := ho_other _ _ _ _ (by decide)
                have HHo : Hid (Nm.host H.data.toList = false) := by show _ = _; rw [Nm.host, made_of _ _ HH.out, q3, q4]; rfl
                clear q1 q2 q3 q4
                try clear hh0
                try clear hl0
                go_wp2_with fail
                refine (nknown_any w).mono ?_
                rintro e w3 ⟨rfl, b3⟩
                go_wp2_with fail
                refine (user_is _ w3 false HSz.out (by rw [Nm.user, HO.out]; rfl)).mono ?_
                rintro e w4 ⟨rfl, b4⟩
                have b4' := nthen b3 b4
                go_wp2_with fail
                refine (room_is _ w4 false HSz.out (by rw [Nm.room, HN.out]; rfl)).mono ?_
                rintro e w5 ⟨rfl, b5⟩
                have b5' := nthen b4' b5
                go_wp2_with fail
                refine (server_is' _ w5 ⟨#[]⟩ HSz.out (by simp only [Nm.server, HO.out, HN.out]; try rfl)).mono ?_
                rintro e w6 ⟨rfl, b6⟩
                have b6' := nthen b5' b6
                go_wp2_with fail
                refine (host_is _ w6 false HHo.out).mono ?_
                rintro e w7 ⟨rfl, b7⟩
                have b7' := nthen b6' b7
                go_wp2_with fail
                go_ret
                exact ⟨rfl, b7'⟩
              · by_cases hh1 : 40 < H.size
                · have f1 : decide ((1 : Int) ≤ (L.size : Int)) = false := by first | exact decide_eq_true (by omega) | exact decide_eq_false (by omega)
                  have f2 : decide ((L.size : Int) ≤ 40) = true := by first | exact decide_eq_true (by omega) | exact decide_eq_false (by omega)
                  have f3 : decide ((1 : Int) ≤ (H.size : Int)) = true := by first | exact decide_eq_true (by omega) | exact decide_eq_false (by omega)
                  have f4 : decide ((H.size : Int) ≤ 40) = false := by first | exact decide_eq_true (by omega) | exact decide_eq_false (by omega)
                  have q1 : decide (1 ≤ L.size) = false := by first | exact decide_eq_true (by omega) | exact decide_eq_false (by omega)
                  have q2 : decide (L.size ≤ 40) = true := by first | exact decide_eq_true (by omega) | exact decide_eq_false (by omega)
                  have q3 : decide (1 ≤ H.size) = true := by first | exact decide_eq_true (by omega) | exact decide_eq_false (by omega)
                  have q4 : decide (H.size ≤ 40) = false := by first | exact decide_eq_true (by omega) | exact decide_eq_false (by omega)
                  have HO : Hid (Nm.hostOf 64 ((⟨#[64]⟩ ++ L) ++ ⟨#[58]⟩ ++ H).data.toList = none) := ho_made 64 L H HL.out HH.out false (by rw [q1, q2, q3, q4]; rfl)
                  have HN : Hid (Nm.hostOf 33 ((⟨#[64]⟩ ++ L) ++ ⟨#[58]⟩ ++ H).data.toList = none) := ho_other _ _ _ _ (by decide)
                  have HHo : Hid (Nm.host H.data.toList = false) := by show _ = _; rw [Nm.host, made_of _ _ HH.out, q3, q4]; rfl
                  clear q1 q2 q3 q4
                  try clear hh0
                  try clear hl0
                  go_wp2_with fail
                  refine (nknown_any w).mono ?_
                  rintro e w3 ⟨rfl, b3⟩
                  go_wp2_with fail
                  refine (user_is _ w3 false HSz.out (by rw [Nm.user, HO.out]; rfl)).mono ?_
                  rintro e w4 ⟨rfl, b4⟩
                  have b4' := nthen b3 b4
                  go_wp2_with fail
                  refine (room_is _ w4 false HSz.out (by rw [Nm.room, HN.out]; rfl)).mono ?_
                  rintro e w5 ⟨rfl, b5⟩
                  have b5' := nthen b4' b5
                  go_wp2_with fail
                  refine (server_is' _ w5 ⟨#[]⟩ HSz.out (by simp only [Nm.server, HO.out, HN.out]; try rfl)).mono ?_
                  rintro e w6 ⟨rfl, b6⟩
                  have b6' := nthen b5' b6
                  go_wp2_with fail
                  refine (host_is _ w6 false HHo.out).mono ?_
                  rintro e w7 ⟨rfl, b7⟩
                  have b7' := nthen b6' b7
                  go_wp2_with fail
                  go_ret
                  exact ⟨rfl, b7'⟩
                · have f1 : decide ((1 : Int) ≤ (L.size : Int)) = false := by first | exact decide_eq_true (by omega) | exact decide_eq_false (by omega)
                  have f2 : decide ((L.size : Int) ≤ 40) = true := by first | exact decide_eq_true (by omega) | exact decide_eq_false (by omega)
                  have f3 : decide ((1 : Int) ≤ (H.size : Int)) = true := by first | exact decide_eq_true (by omega) | exact decide_eq_false (by omega)
                  have f4 : decide ((H.size : Int) ≤ 40) = true := by first | exact decide_eq_true (by omega) | exact decide_eq_false (by omega)
                  have q1 : decide (1 ≤ L.size) = false := by first | exact decide_eq_true (by omega) | exact decide_eq_false (by omega)
                  have q2 : decide (L.size ≤ 40) = true := by first | exact decide_eq_true (by omega) | exact decide_eq_false (by omega)
                  have q3 : decide (1 ≤ H.size) = true := by first | exact decide_eq_true (by omega) | exact decide_eq_false (by omega)
                  have q4 : decide (H.size ≤ 40) = true := by first | exact decide_eq_true (by omega) | exact decide_eq_false (by omega)
                  have HO : Hid (Nm.hostOf 64 ((⟨#[64]⟩ ++ L) ++ ⟨#[58]⟩ ++ H).data.toList = none) := ho_made 64 L H HL.out HH.out false (by rw [q1, q2, q3, q4]; rfl)
                  have HN : Hid (Nm.hostOf 33 ((⟨#[64]⟩ ++ L) ++ ⟨#[58]⟩ ++ H).data.toList = none) := ho_other _ _ _ _ (by decide)
                  have HHo : Hid (Nm.host H.data.toList = true) := by show _ = _; rw [Nm.host, made_of _ _ HH.out, q3, q4]; rfl
                  clear q1 q2 q3 q4
                  try clear hh0
                  try clear hl0
                  go_wp2_with fail
                  refine (nknown_any w).mono ?_
                  rintro e w3 ⟨rfl, b3⟩
                  go_wp2_with fail
                  refine (user_is _ w3 false HSz.out (by rw [Nm.user, HO.out]; rfl)).mono ?_
                  rintro e w4 ⟨rfl, b4⟩
                  have b4' := nthen b3 b4
                  go_wp2_with fail
                  refine (room_is _ w4 false HSz.out (by rw [Nm.room, HN.out]; rfl)).mono ?_
                  rintro e w5 ⟨rfl, b5⟩
                  have b5' := nthen b4' b5
                  go_wp2_with fail
                  refine (server_is' _ w5 ⟨#[]⟩ HSz.out (by simp only [Nm.server, HO.out, HN.out]; try rfl)).mono ?_
                  rintro e w6 ⟨rfl, b6⟩
                  have b6' := nthen b5' b6
                  go_wp2_with fail
                  refine (host_is _ w6 true HHo.out).mono ?_
                  rintro e w7 ⟨rfl, b7⟩
                  have b7' := nthen b6' b7
                  go_wp2_with fail
                  go_ret
                  exact ⟨rfl, b7'⟩
            · by_cases hl1 : 40 < L.size
              · by_cases hh0 : H.size = 0
                · have f1 : decide ((1 : Int) ≤ (L.size : Int)) = true := by first | exact decide_eq_true (by omega) | exact decide_eq_false (by omega)
                  have f2 : decide ((L.size : Int) ≤ 40) = false := by first | exact decide_eq_true (by omega) | exact decide_eq_false (by omega)
                  have f3 : decide ((1 : Int) ≤ (H.size : Int)) = false := by first | exact decide_eq_true (by omega) | exact decide_eq_false (by omega)
                  have f4 : decide ((H.size : Int) ≤ 40) = true := by first | exact decide_eq_true (by omega) | exact decide_eq_false (by omega)
                  have q1 : decide (1 ≤ L.size) = true := by first | exact decide_eq_true (by omega) | exact decide_eq_false (by omega)
                  have q2 : decide (L.size ≤ 40) = false := by first | exact decide_eq_true (by omega) | exact decide_eq_false (by omega)
                  have q3 : decide (1 ≤ H.size) = false := by first | exact decide_eq_true (by omega) | exact decide_eq_false (by omega)
                  have q4 : decide (H.size ≤ 40) = true := by first | exact decide_eq_true (by omega) | exact decide_eq_false (by omega)
                  have HO : Hid (Nm.hostOf 64 ((⟨#[64]⟩ ++ L) ++ ⟨#[58]⟩ ++ H).data.toList = none) := ho_made 64 L H HL.out HH.out false (by rw [q1, q2, q3, q4]; rfl)
                  have HN : Hid (Nm.hostOf 33 ((⟨#[64]⟩ ++ L) ++ ⟨#[58]⟩ ++ H).data.toList = none) := ho_other _ _ _ _ (by decide)
                  have HHo : Hid (Nm.host H.data.toList = false) := by show _ = _; rw [Nm.host, made_of _ _ HH.out, q3, q4]; rfl
                  clear q1 q2 q3 q4
                  try clear hh0
                  try clear hl0
                  go_wp2_with fail
                  refine (nknown_any w).mono ?_
                  rintro e w3 ⟨rfl, b3⟩
                  go_wp2_with fail
                  refine (user_is _ w3 false HSz.out (by rw [Nm.user, HO.out]; rfl)).mono ?_
                  rintro e w4 ⟨rfl, b4⟩
                  have b4' := nthen b3 b4
                  go_wp2_with fail
                  refine (room_is _ w4 false HSz.out (by rw [Nm.room, HN.out]; rfl)).mono ?_
                  rintro e w5 ⟨rfl, b5⟩
                  have b5' := nthen b4' b5
                  go_wp2_with fail
                  refine (server_is' _ w5 ⟨#[]⟩ HSz.out (by simp only [Nm.server, HO.out, HN.out]; try rfl)).mono ?_
                  rintro e w6 ⟨rfl, b6⟩
                  have b6' := nthen b5' b6
                  go_wp2_with fail
                  refine (host_is _ w6 false HHo.out).mono ?_
                  rintro e w7 ⟨rfl, b7⟩
                  have b7' := nthen b6' b7
                  go_wp2_with fail
                  go_ret
                  exact ⟨rfl, b7'⟩
                · by_cases hh1 : 40 < H.size
                  · have f1 : decide ((1 : Int) ≤ (L.size : Int)) = true := by first | exact decide_eq_true (by omega) | exact decide_eq_false (by omega)
                    have f2 : decide ((L.size : Int) ≤ 40) = false := by first | exact decide_eq_true (by omega) | exact decide_eq_false (by omega)
                    have f3 : decide ((1 : Int) ≤ (H.size : Int)) = true := by first | exact decide_eq_true (by omega) | exact decide_eq_false (by omega)
                    have f4 : decide ((H.size : Int) ≤ 40) = false := by first | exact decide_eq_true (by omega) | exact decide_eq_false (by omega)
                    have q1 : decide (1 ≤ L.size) = true := by first | exact decide_eq_true (by omega) | exact decide_eq_false (by omega)
                    have q2 : decide (L.size ≤ 40) = false := by first | exact decide_eq_true (by omega) | exact decide_eq_false (by omega)
                    have q3 : decide (1 ≤ H.size) = true := by first | exact decide_eq_true (by omega) | exact decide_eq_false (by omega)
                    have q4 : decide (H.size ≤ 40) = false := by first | exact decide_eq_true (by omega) | exact decide_eq_false (by omega)
                    have HO : Hid (Nm.hostOf 64 ((⟨#[64]⟩ ++ L) ++ ⟨#[58]⟩ ++ H).data.toList = none) := ho_made 64 L H HL.out HH.out false (by rw [q1, q2, q3, q4]; rfl)
                    have HN : Hid (Nm.hostOf 33 ((⟨#[64]⟩ ++ L) ++ ⟨#[58]⟩ ++ H).data.toList = none) := ho_other _ _ _ _ (by decide)
                    have HHo : Hid (Nm.host H.data.toList = false) := by show _ = _; rw [Nm.host, made_of _ _ HH.out, q3, q4]; rfl
                    clear q1 q2 q3 q4
                    try clear hh0
                    try clear hl0
                    go_wp2_with fail
                    refine (nknown_any w).mono ?_
                    rintro e w3 ⟨rfl, b3⟩
                    go_wp2_with fail
                    refine (user_is _ w3 false HSz.out (by rw [Nm.user, HO.out]; rfl)).mono ?_
                    rintro e w4 ⟨rfl, b4⟩
                    have b4' := nthen b3 b4
                    go_wp2_with fail
                    refine (room_is _ w4 false HSz.out (by rw [Nm.room, HN.out]; rfl)).mono ?_
                    rintro e w5 ⟨rfl, b5⟩
                    have b5' := nthen b4' b5
                    go_wp2_with fail
                    refine (server_is' _ w5 ⟨#[]⟩ HSz.out (by simp only [Nm.server, HO.out, HN.out]; try rfl)).mono ?_
                    rintro e w6 ⟨rfl, b6⟩
                    have b6' := nthen b5' b6
                    go_wp2_with fail
                    refine (host_is _ w6 false HHo.out).mono ?_
                    rintro e w7 ⟨rfl, b7⟩
                    have b7' := nthen b6' b7
                    go_wp2_with fail
                    go_ret
                    exact ⟨rfl, b7'⟩
                  · have f1 : decide ((1 : Int) ≤ (L.size : Int)) = true := by first | exact decide_eq_true (by omega) | exact decide_eq_false (by omega)
                    have f2 : decide ((L.size : Int) ≤ 40) = false := by first | exact decide_eq_true (by omega) | exact decide_eq_false (by omega)
                    have f3 : decide ((1 : Int) ≤ (H.size : Int)) = true := by first | exact decide_eq_true (by omega) | exact decide_eq_false (by omega)
                    have f4 : decide ((H.size : Int) ≤ 40) = true := by first | exact decide_eq_true (by omega) | exact decide_eq_false (by omega)
                    have q1 : decide (1 ≤ L.size) = true := by first | exact decide_eq_true (by omega) | exact decide_eq_false (by omega)
                    have q2 : decide (L.size ≤ 40) = false := by first | exact decide_eq_true (by omega) | exact decide_eq_false (by omega)
                    have q3 : decide (1 ≤ H.size) = true := by first | exact decide_eq_true (by omega) | exact decide_eq_false (by omega)
                    have q4 : decide (H.size ≤ 40) = true := by first | exact decide_eq_true (by omega) | exact decide_eq_false (by omega)
                    have HO : Hid (Nm.hostOf 64 ((⟨#[64]⟩ ++ L) ++ ⟨#[58]⟩ ++ H).data.toList = none) := ho_made 64 L H HL.out HH.out false (by rw [q1, q2, q3, q4]; rfl)
                    have HN : Hid (Nm.hostOf 33 ((⟨#[64]⟩ ++ L) ++ ⟨#[58]⟩ ++ H).data.toList = none) := ho_other _ _ _ _ (by decide)
                    have HHo : Hid (Nm.host H.data.toList = true) := by show _ = _; rw [Nm.host, made_of _ _ HH.out, q3, q4]; rfl
                    clear q1 q2 q3 q4
                    try clear hh0
                    try clear hl0
                    go_wp2_with fail
                    refine (nknown_any w).mono ?_
                    rintro e w3 ⟨rfl, b3⟩
                    go_wp2_with fail
                    refine (user_is _ w3 false HSz.out (by rw [Nm.user, HO.out]; rfl)).mono ?_
                    rintro e w4 ⟨rfl, b4⟩
                    have b4' := nthen b3 b4
                    go_wp2_with fail
                    refine (room_is _ w4 false HSz.out (by rw [Nm.room, HN.out]; rfl)).mono ?_
                    rintro e w5 ⟨rfl, b5⟩
                    have b5' := nthen b4' b5
                    go_wp2_with fail
                    refine (server_is' _ w5 ⟨#[]⟩ HSz.out (by simp only [Nm.server, HO.out, HN.out]; try rfl)).mono ?_
                    rintro e w6 ⟨rfl, b6⟩
                    have b6' := nthen b5' b6
                    go_wp2_with fail
                    refine (host_is _ w6 true HHo.out).mono ?_
                    rintro e w7 ⟨rfl, b7⟩
                    have b7' := nthen b6' b7
                    go_wp2_with fail
                    go_ret
                    exact ⟨rfl, b7'⟩
              · by_cases hh0 : H.size = 0
                · have f1 : decide ((1 : Int) ≤ (L.size : Int)) = true := by first | exact decide_eq_true (by omega) | exact decide_eq_false (by omega)
                  have f2 : decide ((L.size : Int) ≤ 40) = true := by first | exact decide_eq_true (by omega) | exact decide_eq_false (by omega)
                  have f3 : decide ((1 : Int) ≤ (H.size : Int)) = false := by first | exact decide_eq_true (by omega) | exact decide_eq_false (by omega)
                  have f4 : decide ((H.size : Int) ≤ 40) = true := by first | exact decide_eq_true (by omega) | exact decide_eq_false (by omega)
                  have q1 : decide (1 ≤ L.size) = true := by first | exact decide_eq_true (by omega) | exact decide_eq_false (by omega)
                  have q2 : decide (L.size ≤ 40) = true := by first | exact decide_eq_true (by omega) | exact decide_eq_false (by omega)
                  have q3 : decide (1 ≤ H.size) = false := by first | exact decide_eq_true (by omega) | exact decide_eq_false (by omega)
                  have q4 : decide (H.size ≤ 40) = true := by first | exact decide_eq_true (by omega) | exact decide_eq_false (by omega)
                  have HO : Hid (Nm.hostOf 64 ((⟨#[64]⟩ ++ L) ++ ⟨#[58]⟩ ++ H).data.toList = none) := ho_made 64 L H HL.out HH.out false (by rw [q1, q2, q3, q4]; rfl)
                  have HN : Hid (Nm.hostOf 33 ((⟨#[64]⟩ ++ L) ++ ⟨#[58]⟩ ++ H).data.toList = none) := ho_other _ _ _ _ (by decide)
                  have HHo : Hid (Nm.host H.data.toList = false) := by show _ = _; rw [Nm.host, made_of _ _ HH.out, q3, q4]; rfl
                  clear q1 q2 q3 q4
                  try clear hh0
                  try clear hl0
                  go_wp2_with fail
                  refine (nknown_any w).mono ?_
                  rintro e w3 ⟨rfl, b3⟩
                  go_wp2_with fail
                  refine (user_is _ w3 false HSz.out (by rw [Nm.user, HO.out]; rfl)).mono ?_
                  rintro e w4 ⟨rfl, b4⟩
                  have b4' := nthen b3 b4
                  go_wp2_with fail
                  refine (room_is _ w4 false HSz.out (by rw [Nm.room, HN.out]; rfl)).mono ?_
                  rintro e w5 ⟨rfl, b5⟩
                  have b5' := nthen b4' b5
                  go_wp2_with fail
                  refine (server_is' _ w5 ⟨#[]⟩ HSz.out (by simp only [Nm.server, HO.out, HN.out]; try rfl)).mono ?_
                  rintro e w6 ⟨rfl, b6⟩
                  have b6' := nthen b5' b6
                  go_wp2_with fail
                  refine (host_is _ w6 false HHo.out).mono ?_
                  rintro e w7 ⟨rfl, b7⟩
                  have b7' := nthen b6' b7
                  go_wp2_with fail
                  go_ret
                  exact ⟨rfl, b7'⟩
                · by_cases hh1 : 40 < H.size
                  · have f1 : decide ((1 : Int) ≤ (L.size : Int)) = true := by first | exact decide_eq_true (by omega) | exact decide_eq_false (by omega)
                    have f2 : decide ((L.size : Int) ≤ 40) = true := by first | exact decide_eq_true (by omega) | exact decide_eq_false (by omega)
                    have f3 : decide ((1 : Int) ≤ (H.size : Int)) = true := by first | exact decide_eq_true (by omega) | exact decide_eq_false (by omega)
                    have f4 : decide ((H.size : Int) ≤ 40) = false := by first | exact decide_eq_true (by omega) | exact decide_eq_false (by omega)
                    have q1 : decide (1 ≤ L.size) = true := by first | exact decide_eq_true (by omega) | exact decide_eq_false (by omega)
                    have q2 : decide (L.size ≤ 40) = true := by first | exact decide_eq_true (by omega) | exact decide_eq_false (by omega)
                    have q3 : decide (1 ≤ H.size) = true := by first | exact decide_eq_true (by omega) | exact decide_eq_false (by omega)
                    have q4 : decide (H.size ≤ 40) = false := by first | exact decide_eq_true (by omega) | exact decide_eq_false (by omega)
                    have HO : Hid (Nm.hostOf 64 ((⟨#[64]⟩ ++ L) ++ ⟨#[58]⟩ ++ H).data.toList = none) := ho_made 64 L H HL.out HH.out false (by rw [q1, q2, q3, q4]; rfl)
                    have HN : Hid (Nm.hostOf 33 ((⟨#[64]⟩ ++ L) ++ ⟨#[58]⟩ ++ H).data.toList = none) := ho_other _ _ _ _ (by decide)
                    have HHo : Hid (Nm.host H.data.toList = false) := by show _ = _; rw [Nm.host, made_of _ _ HH.out, q3, q4]; rfl
                    clear q1 q2 q3 q4
                    try clear hh0
                    try clear hl0
                    go_wp2_with fail
                    refine (nknown_any w).mono ?_
                    rintro e w3 ⟨rfl, b3⟩
                    go_wp2_with fail
                    refine (user_is _ w3 false HSz.out (by rw [Nm.user, HO.out]; rfl)).mono ?_
                    rintro e w4 ⟨rfl, b4⟩
                    have b4' := nthen b3 b4
                    go_wp2_with fail
                    refine (room_is _ w4 false HSz.out (by rw [Nm.room, HN.out]; rfl)).mono ?_
                    rintro e w5 ⟨rfl, b5⟩
                    have b5' := nthen b4' b5
                    go_wp2_with fail
                    refine (server_is' _ w5 ⟨#[]⟩ HSz.out (by simp only [Nm.server, HO.out, HN.out]; try rfl)).mono ?_
                    rintro e w6 ⟨rfl, b6⟩
                    have b6' := nthen b5' b6
                    go_wp2_with fail
                    refine (host_is _ w6 false HHo.out).mono ?_
                    rintro e w7 ⟨rfl, b7⟩
                    have b7' := nthen b6' b7
                    go_wp2_with fail
                    go_ret
                    exact ⟨rfl, b7'⟩
                  · have f1 : decide ((1 : Int) ≤ (L.size : Int)) = true := by first | exact decide_eq_true (by omega) | exact decide_eq_false (by omega)
                    have f2 : decide ((L.size : Int) ≤ 40) = true := by first | exact decide_eq_true (by omega) | exact decide_eq_false (by omega)
                    have f3 : decide ((1 : Int) ≤ (H.size : Int)) = true := by first | exact decide_eq_true (by omega) | exact decide_eq_false (by omega)
                    have f4 : decide ((H.size : Int) ≤ 40) = true := by first | exact decide_eq_true (by omega) | exact decide_eq_false (by omega)
                    have q1 : decide (1 ≤ L.size) = true := by first | exact decide_eq_true (by omega) | exact decide_eq_false (by omega)
                    have q2 : decide (L.size ≤ 40) = true := by first | exact decide_eq_true (by omega) | exact decide_eq_false (by omega)
                    have q3 : decide (1 ≤ H.size) = true := by first | exact decide_eq_true (by omega) | exact decide_eq_false (by omega)
                    have q4 : decide (H.size ≤ 40) = true := by first | exact decide_eq_true (by omega) | exact decide_eq_false (by omega)
                    have HO : Hid (Nm.hostOf 64 ((⟨#[64]⟩ ++ L) ++ ⟨#[58]⟩ ++ H).data.toList = some H.data.toList) := ho_made 64 L H HL.out HH.out true (by rw [q1, q2, q3, q4]; rfl)
                    have HN : Hid (Nm.hostOf 33 ((⟨#[64]⟩ ++ L) ++ ⟨#[58]⟩ ++ H).data.toList = none) := ho_other _ _ _ _ (by decide)
                    have HHo : Hid (Nm.host H.data.toList = true) := by show _ = _; rw [Nm.host, made_of _ _ HH.out, q3, q4]; rfl
                    clear q1 q2 q3 q4
                    try clear hh0
                    try clear hl0
                    go_wp2_with fail
                    refine (nknown_any w).mono ?_
                    rintro e w3 ⟨rfl, b3⟩
                    go_wp2_with fail
                    refine (user_is _ w3 true HSz.out (by rw [Nm.user, HO.out]; rfl)).mono ?_
                    rintro e w4 ⟨rfl, b4⟩
                    have b4' := nthen b3 b4
                    go_wp2_with fail
                    refine (room_is _ w4 false HSz.out (by rw [Nm.room, HN.out]; rfl)).mono ?_
                    rintro e w5 ⟨rfl, b5⟩
                    have b5' := nthen b4' b5
                    go_wp2_with fail
                    refine (server_is' _ w5 H HSz.out (by simp only [Nm.server, HO.out, HN.out]; try rfl)).mono ?_
                    rintro e w6 ⟨rfl, b6⟩
                    have b6' := nthen b5' b6
                    go_wp2_with fail
                    refine (host_is _ w6 true HHo.out).mono ?_
                    rintro e w7 ⟨rfl, b7⟩
                    have b7' := nthen b6' b7
                    go_wp2_with fail
                    go_ret
                    exact ⟨rfl, b7'⟩
          | true =>
            have HSz : Hid (((⟨#[33]⟩ ++ L) ++ ⟨#[58]⟩ ++ H).size ≤ 140737488355328) := by show _ ≤ _; rw [ByteArray.size_append, ByteArray.size_append, ByteArray.size_append]; show 1 + _ + 1 + _ ≤ _; omega
            by_cases hl0 : L.size = 0
            · by_cases hh0 : H.size = 0
              · have f1 : decide ((1 : Int) ≤ (L.size : Int)) = false := by first | exact decide_eq_true (by omega) | exact decide_eq_false (by omega)
                have f2 : decide ((L.size : Int) ≤ 40) = true := by first | exact decide_eq_true (by omega) | exact decide_eq_false (by omega)
                have f3 : decide ((1 : Int) ≤ (H.size : Int)) = false := by first | exact decide_eq_true (by omega) | exact decide_eq_false (by omega)
                have f4 : decide ((H.size : Int) ≤ 40) = true := by first | exact decide_eq_true (by omega) | exact decide_eq_false (by omega)
                have q1 : decide (1 ≤ L.size) = false := by first | exact decide_eq_true (by omega) | exact decide_eq_false (by omega)
                have q2 : decide (L.size ≤ 40) = true := by first | exact decide_eq_true (by omega) | exact decide_eq_false (by omega)
                have q3 : decide (1 ≤ H.size) = false := by first | exact decide_eq_true (by omega) | exact decide_eq_false (by omega)
                have q4 : decide (H.size ≤ 40) = true := by first | exact decide_eq_true (by omega) | exact decide_eq_false (by omega)
                have HO : Hid (Nm.hostOf 33 ((⟨#[33]⟩ ++ L) ++ ⟨#[58]⟩ ++ H).data.toList = none) := ho_made 33 L H HL.out HH.out false (by rw [q1, q2, q3, q4]; rfl)
                have HN : Hid (Nm.hostOf 64 ((⟨#[33]⟩ ++ L) ++ ⟨#[58]⟩ ++ H).data.toList = none) := ho_other _ _ _ _ (by decide)
                have HHo : Hid (Nm.host H.data.toList = false) := by show _ = _; rw [Nm.host, made_of _ _ HH.out, q3, q4]; rfl
                clear q1 q2 q3 q4
                try clear hh0
                try clear hl0
                go_wp2_with fail
                refine (nknown_any w).mono ?_
                rintro e w3 ⟨rfl, b3⟩
                go_wp2_with fail
                refine (user_is _ w3 false HSz.out (by rw [Nm.user, HN.out]; rfl)).mono ?_
                rintro e w4 ⟨rfl, b4⟩
                have b4' := nthen b3 b4
                go_wp2_with fail
                refine (room_is _ w4 false HSz.out (by rw [Nm.room, HO.out]; rfl)).mono ?_
                rintro e w5 ⟨rfl, b5⟩
                have b5' := nthen b4' b5
                go_wp2_with fail
                refine (server_is' _ w5 ⟨#[]⟩ HSz.out (by simp only [Nm.server, HN.out, HO.out]; try rfl)).mono ?_
                rintro e w6 ⟨rfl, b6⟩
                have b6' := nthen b5' b6
                go_wp2_with fail
                refine (host_is _ w6 false HHo.out).mono ?_
                rintro e w7 ⟨rfl, b7⟩
                have b7' := nthen b6' b7
                go_wp2_with fail
                go_ret
                exact ⟨rfl, b7'⟩
              · by_cases hh1 : 40 < H.size
                · have f1 : decide ((1 : Int) ≤ (L.size : Int)) = false := by first | exact decide_eq_true (by omega) | exact decide_eq_false (by omega)
                  have f2 : decide ((L.size : Int) ≤ 40) = true := by first | exact decide_eq_true (by omega) | exact decide_eq_false (by omega)
                  have f3 : decide ((1 : Int) ≤ (H.size : Int)) = true := by first | exact decide_eq_true (by omega) | exact decide_eq_false (by omega)
                  have f4 : decide ((H.size : Int) ≤ 40) = false := by first | exact decide_eq_true (by omega) | exact decide_eq_false (by omega)
                  have q1 : decide (1 ≤ L.size) = false := by first | exact decide_eq_true (by omega) | exact decide_eq_false (by omega)
                  have q2 : decide (L.size ≤ 40) = true := by first | exact decide_eq_true (by omega) | exact decide_eq_false (by omega)
                  have q3 : decide (1 ≤ H.size) = true := by first | exact decide_eq_true (by omega) | exact decide_eq_false (by omega)
                  have q4 : decide (H.size ≤ 40) = false := by first | exact decide_eq_true (by omega) | exact decide_eq_false (by omega)
                  have HO : Hid (Nm.hostOf 33 ((⟨#[33]⟩ ++ L) ++ ⟨#[58]⟩ ++ H).data.toList = none) := ho_made 33 L H HL.out HH.out false (by rw [q1, q2, q3, q4]; rfl)
                  have HN : Hid (Nm.hostOf 64 ((⟨#[33]⟩ ++ L) ++ ⟨#[58]⟩ ++ H).data.toList = none) := ho_other _ _ _ _ (by decide)
                  have HHo : Hid (Nm.host H.data.toList = false) := by show _ = _; rw [Nm.host, made_of _ _ HH.out, q3, q4]; rfl
                  clear q1 q2 q3 q4
                  try clear hh0
                  try clear hl0
                  go_wp2_with fail
                  refine (nknown_any w).mono ?_
                  rintro e w3 ⟨rfl, b3⟩
                  go_wp2_with fail
                  refine (user_is _ w3 false HSz.out (by rw [Nm.user, HN.out]; rfl)).mono ?_
                  rintro e w4 ⟨rfl, b4⟩
                  have b4' := nthen b3 b4
                  go_wp2_with fail
                  refine (room_is _ w4 false HSz.out (by rw [Nm.room, HO.out]; rfl)).mono ?_
                  rintro e w5 ⟨rfl, b5⟩
                  have b5' := nthen b4' b5
                  go_wp2_with fail
                  refine (server_is' _ w5 ⟨#[]⟩ HSz.out (by simp only [Nm.server, HN.out, HO.out]; try rfl)).mono ?_
                  rintro e w6 ⟨rfl, b6⟩
                  have b6' := nthen b5' b6
                  go_wp2_with fail
                  refine (host_is _ w6 false HHo.out).mono ?_
                  rintro e w7 ⟨rfl, b7⟩
                  have b7' := nthen b6' b7
                  go_wp2_with fail
                  go_ret
                  exact ⟨rfl, b7'⟩
                · have f1 : decide ((1 : Int) ≤ (L.size : Int)) = false := by first | exact decide_eq_true (by omega) | exact decide_eq_false (by omega)
                  have f2 : decide ((L.size : Int) ≤ 40) = true := by first | exact decide_eq_true (by omega) | exact decide_eq_false (by omega)
                  have f3 : decide ((1 : Int) ≤ (H.size : Int)) = true := by first | exact decide_eq_true (by omega) | exact decide_eq_false (by omega)
                  have f4 : decide ((H.size : Int) ≤ 40) = true := by first | exact decide_eq_true (by omega) | exact decide_eq_false (by omega)
                  have q1 : decide (1 ≤ L.size) = false := by first | exact decide_eq_true (by omega) | exact decide_eq_false (by omega)
                  have q2 : decide (L.size ≤ 40) = true := by first | exact decide_eq_true (by omega) | exact decide_eq_false (by omega)
                  have q3 : decide (1 ≤ H.size) = true := by first | exact decide_eq_true (by omega) | exact decide_eq_false (by omega)
                  have q4 : decide (H.size ≤ 40) = true := by first | exact decide_eq_true (by omega) | exact decide_eq_false (by omega)
                  have HO : Hid (Nm.hostOf 33 ((⟨#[33]⟩ ++ L) ++ ⟨#[58]⟩ ++ H).data.toList = none) := ho_made 33 L H HL.out HH.out false (by rw [q1, q2, q3, q4]; rfl)
                  have HN : Hid (Nm.hostOf 64 ((⟨#[33]⟩ ++ L) ++ ⟨#[58]⟩ ++ H).data.toList = none) := ho_other _ _ _ _ (by decide)
                  have HHo : Hid (Nm.host H.data.toList = true) := by show _ = _; rw [Nm.host, made_of _ _ HH.out, q3, q4]; rfl
                  clear q1 q2 q3 q4
                  try clear hh0
                  try clear hl0
                  go_wp2_with fail
                  refine (nknown_any w).mono ?_
                  rintro e w3 ⟨rfl, b3⟩
                  go_wp2_with fail
                  refine (user_is _ w3 false HSz.out (by rw [Nm.user, HN.out]; rfl)).mono ?_
                  rintro e w4 ⟨rfl, b4⟩
                  have b4' := nthen b3 b4
                  go_wp2_with fail
                  refine (room_is _ w4 false HSz.out (by rw [Nm.room, HO.out]; rfl)).mono ?_
                  rintro e w5 ⟨rfl, b5⟩
                  have b5' := nthen b4' b5
                  go_wp2_with fail
                  refine (server_is' _ w5 ⟨#[]⟩ HSz.out (by simp only [Nm.server, HN.out, HO.out]; try rfl)).mono ?_
                  rintro e w6 ⟨rfl, b6⟩
                  have b6' := nthen b5' b6
                  go_wp2_with fail
                  refine (host_is _ w6 true HHo.out).mono ?_
                  rintro e w7 ⟨rfl, b7⟩
                  have b7' := nthen b6' b7
                  go_wp2_with fail
                  go_ret
                  exact ⟨rfl, b7'⟩
            · by_cases hl1 : 40 < L.size
              · by_cases hh0 : H.size = 0
                · have f1 : decide ((1 : Int) ≤ (L.size : Int)) = true := by first | exact decide_eq_true (by omega) | exact decide_eq_false (by omega)
                  have f2 : decide ((L.size : Int) ≤ 40) = false := by first | exact decide_eq_true (by omega) | exact decide_eq_false (by omega)
                  have f3 : decide ((1 : Int) ≤ (H.size : Int)) = false := by first | exact decide_eq_true (by omega) | exact decide_eq_false (by omega)
                  have f4 : decide ((H.size : Int) ≤ 40) = true := by first | exact decide_eq_true (by omega) | exact decide_eq_false (by omega)
                  have q1 : decide (1 ≤ L.size) = true := by first | exact decide_eq_true (by omega) | exact decide_eq_false (by omega)
                  have q2 : decide (L.size ≤ 40) = false := by first | exact decide_eq_true (by omega) | exact decide_eq_false (by omega)
                  have q3 : decide (1 ≤ H.size) = false := by first | exact decide_eq_true (by omega) | exact decide_eq_false (by omega)
                  have q4 : decide (H.size ≤ 40) = true := by first | exact decide_eq_true (by omega) | exact decide_eq_false (by omega)
                  have HO : Hid (Nm.hostOf 33 ((⟨#[33]⟩ ++ L) ++ ⟨#[58]⟩ ++ H).data.toList = none) := ho_made 33 L H HL.out HH.out false (by rw [q1, q2, q3, q4]; rfl)
                  have HN : Hid (Nm.hostOf 64 ((⟨#[33]⟩ ++ L) ++ ⟨#[58]⟩ ++ H).data.toList = none) := ho_other _ _ _ _ (by decide)
                  have HHo : Hid (Nm.host H.data.toList = false) := by show _ = _; rw [Nm.host, made_of _ _ HH.out, q3, q4]; rfl
                  clear q1 q2 q3 q4
                  try clear hh0
                  try clear hl0
                  go_wp2_with fail
                  refine (nknown_any w).mono ?_
                  rintro e w3 ⟨rfl, b3⟩
                  go_wp2_with fail
                  refine (user_is _ w3 false HSz.out (by rw [Nm.user, HN.out]; rfl)).mono ?_
                  rintro e w4 ⟨rfl, b4⟩
                  have b4' := nthen b3 b4
                  go_wp2_with fail
                  refine (room_is _ w4 false HSz.out (by rw [Nm.room, HO.out]; rfl)).mono ?_
                  rintro e w5 ⟨rfl, b5⟩
                  have b5' := nthen b4' b5
                  go_wp2_with fail
                  refine (server_is' _ w5 ⟨#[]⟩ HSz.out (by simp only [Nm.server, HN.out, HO.out]; try rfl)).mono ?_
                  rintro e w6 ⟨rfl, b6⟩
                  have b6' := nthen b5' b6
                  go_wp2_with fail
                  refine (host_is _ w6 false HHo.out).mono ?_
                  rintro e w7 ⟨rfl, b7⟩
                  have b7' := nthen b6' b7
                  go_wp2_with fail
                  go_ret
                  exact ⟨rfl, b7'⟩
                · by_cases hh1 : 40 < H.size
                  · have f1 : decide ((1 : Int) ≤ (L.size : Int)) = true := by first | exact decide_eq_true (by omega) | exact decide_eq_false (by omega)
                    have f2 : decide ((L.size : Int) ≤ 40) = false := by first | exact decide_eq_true (by omega) | exact decide_eq_false (by omega)
                    have f3 : decide ((1 : Int) ≤ (H.size : Int)) = true := by first | exact decide_eq_true (by omega) | exact decide_eq_false (by omega)
                    have f4 : decide ((H.size : Int) ≤ 40) = false := by first | exact decide_eq_true (by omega) | exact decide_eq_false (by omega)
                    have q1 : decide (1 ≤ L.size) = true := by first | exact decide_eq_true (by omega) | exact decide_eq_false (by omega)
                    have q2 : decide (L.size ≤ 40) = false := by first | exact decide_eq_true (by omega) | exact decide_eq_false (by omega)
                    have q3 : decide (1 ≤ H.size) = true := by first | exact decide_eq_true (by omega) | exact decide_eq_false (by omega)
                    have q4 : decide (H.size ≤ 40) = false := by first | exact decide_eq_true (by omega) | exact decide_eq_false (by omega)
                    have HO : Hid (Nm.hostOf 33 ((⟨#[33]⟩ ++ L) ++ ⟨#[58]⟩ ++ H).data.toList = none) := ho_made 33 L H HL.out HH.out false (by rw [q1, q2, q3, q4]; rfl)
                    have HN : Hid (Nm.hostOf 64 ((⟨#[33]⟩ ++ L) ++ ⟨#[58]⟩ ++ H).data.toList = none) := ho_other _ _ _ _ (by decide)
                    have HHo : Hid (Nm.host H.data.toList = false) := by show _ = _; rw [Nm.host, made_of _ _ HH.out, q3, q4]; rfl
                    clear q1 q2 q3 q4
                    try clear hh0
                    try clear hl0
                    go_wp2_with fail
                    refine (nknown_any w).mono ?_
                    rintro e w3 ⟨rfl, b3⟩
                    go_wp2_with fail
                    refine (user_is _ w3 false HSz.out (by rw [Nm.user, HN.out]; rfl)).mono ?_
                    rintro e w4 ⟨rfl, b4⟩
                    have b4' := nthen b3 b4
                    go_wp2_with fail
                    refine (room_is _ w4 false HSz.out (by rw [Nm.room, HO.out]; rfl)).mono ?_
                    rintro e w5 ⟨rfl, b5⟩
                    have b5' := nthen b4' b5
                    go_wp2_with fail
                    refine (server_is' _ w5 ⟨#[]⟩ HSz.out (by simp only [Nm.server, HN.out, HO.out]; try rfl)).mono ?_
                    rintro e w6 ⟨rfl, b6⟩
                    have b6' := nthen b5' b6
                    go_wp2_with fail
                    refine (host_is _ w6 false HHo.out).mono ?_
                    rintro e w7 ⟨rfl, b7⟩
                    have b7' := nthen b6' b7
                    go_wp2_with fail
                    go_ret
                    exact ⟨rfl, b7'⟩
                  · have f1 : decide ((1 : Int) ≤ (L.size : Int)) = true := by first | exact decide_eq_true (by omega) | exact decide_eq_false (by omega)
                    have f2 : decide ((L.size : Int) ≤ 40) = false := by first | exact decide_eq_true (by omega) | exact decide_eq_false (by omega)
                    have f3 : decide ((1 : Int) ≤ (H.size : Int)) = true := by first | exact decide_eq_true (by omega) | exact decide_eq_false (by omega)
                    have f4 : decide ((H.size : Int) ≤ 40) = true := by first | exact decide_eq_true (by omega) | exact decide_eq_false (by omega)
                    have q1 : decide (1 ≤ L.size) = true := by first | exact decide_eq_true (by omega) | exact decide_eq_false (by omega)
                    have q2 : decide (L.size ≤ 40) = false := by first | exact decide_eq_true (by omega) | exact decide_eq_false (by omega)
                    have q3 : decide (1 ≤ H.size) = true := by first | exact decide_eq_true (by omega) | exact decide_eq_false (by omega)
                    have q4 : decide (H.size ≤ 40) = true := by first | exact decide_eq_true (by omega) | exact decide_eq_false (by omega)
                    have HO : Hid (Nm.hostOf 33 ((⟨#[33]⟩ ++ L) ++ ⟨#[58]⟩ ++ H).data.toList = none) := ho_made 33 L H HL.out HH.out false (by rw [q1, q2, q3, q4]; rfl)
                    have HN : Hid (Nm.hostOf 64 ((⟨#[33]⟩ ++ L) ++ ⟨#[58]⟩ ++ H).data.toList = none) := ho_other _ _ _ _ (by decide)
                    have HHo : Hid (Nm.host H.data.toList = true) := by show _ = _; rw [Nm.host, made_of _ _ HH.out, q3, q4]; rfl
                    clear q1 q2 q3 q4
                    try clear hh0
                    try clear hl0
                    go_wp2_with fail
                    refine (nknown_any w).mono ?_
                    rintro e w3 ⟨rfl, b3⟩
                    go_wp2_with fail
                    refine (user_is _ w3 false HSz.out (by rw [Nm.user, HN.out]; rfl)).mono ?_
                    rintro e w4 ⟨rfl, b4⟩
                    have b4' := nthen b3 b4
                    go_wp2_with fail
                    refine (room_is _ w4 false HSz.out (by rw [Nm.room, HO.out]; rfl)).mono ?_
                    rintro e w5 ⟨rfl, b5⟩
                    have b5' := nthen b4' b5
                    go_wp2_with fail
                    refine (server_is' _ w5 ⟨#[]⟩ HSz.out (by simp only [Nm.server, HN.out, HO.out]; try rfl)).mono ?_
                    rintro e w6 ⟨rfl, b6⟩
                    have b6' := nthen b5' b6
                    go_wp2_with fail
                    refine (host_is _ w6 true HHo.out).mono ?_
                    rintro e w7 ⟨rfl, b7⟩
                    have b7' := nthen b6' b7
                    go_wp2_with fail
                    go_ret
                    exact ⟨rfl, b7'⟩
              · by_cases hh0 : H.size = 0
                · have f1 : decide ((1 : Int) ≤ (L.size : Int)) = true := by first | exact decide_eq_true (by omega) | exact decide_eq_false (by omega)
                  have f2 : decide ((L.size : Int) ≤ 40) = true := by first | exact decide_eq_true (by omega) | exact decide_eq_false (by omega)
                  have f3 : decide ((1 : Int) ≤ (H.size : Int)) = false := by first | exact decide_eq_true (by omega) | exact decide_eq_false (by omega)
                  have f4 : decide ((H.size : Int) ≤ 40) = true := by first | exact decide_eq_true (by omega) | exact decide_eq_false (by omega)
                  have q1 : decide (1 ≤ L.size) = true := by first | exact decide_eq_true (by omega) | exact decide_eq_false (by omega)
                  have q2 : decide (L.size ≤ 40) = true := by first | exact decide_eq_true (by omega) | exact decide_eq_false (by omega)
                  have q3 : decide (1 ≤ H.size) = false := by first | exact decide_eq_true (by omega) | exact decide_eq_false (by omega)
                  have q4 : decide (H.size ≤ 40) = true := by first | exact decide_eq_true (by omega) | exact decide_eq_false (by omega)
                  have HO : Hid (Nm.hostOf 33 ((⟨#[33]⟩ ++ L) ++ ⟨#[58]⟩ ++ H).data.toList = none) := ho_made 33 L H HL.out HH.out false (by rw [q1, q2, q3, q4]; rfl)
                  have HN : Hid (Nm.hostOf 64 ((⟨#[33]⟩ ++ L) ++ ⟨#[58]⟩ ++ H).data.toList = none) := ho_other _ _ _ _ (by decide)
                  have HHo : Hid (Nm.host H.data.toList = false) := by show _ = _; rw [Nm.host, made_of _ _ HH.out, q3, q4]; rfl
                  clear q1 q2 q3 q4
                  try clear hh0
                  try clear hl0
                  go_wp2_with fail
                  refine (nknown_any w).mono ?_
                  rintro e w3 ⟨rfl, b3⟩
                  go_wp2_with fail
                  refine (user_is _ w3 false HSz.out (by rw [Nm.user, HN.out]; rfl)).mono ?_
                  rintro e w4 ⟨rfl, b4⟩
                  have b4' := nthen b3 b4
                  go_wp2_with fail
                  refine (room_is _ w4 false HSz.out (by rw [Nm.room, HO.out]; rfl)).mono ?_
                  rintro e w5 ⟨rfl, b5⟩
                  have b5' := nthen b4' b5
                  go_wp2_with fail
                  refine (server_is' _ w5 ⟨#[]⟩ HSz.out (by simp only [Nm.server, HN.out, HO.out]; try rfl)).mono ?_
                  rintro e w6 ⟨rfl, b6⟩
                  have b6' := nthen b5' b6
                  go_wp2_with fail
                  refine (host_is _ w6 false HHo.out).mono ?_
                  rintro e w7 ⟨rfl, b7⟩
                  have b7' := nthen b6' b7
                  go_wp2_with fail
                  go_ret
                  exact ⟨rfl, b7'⟩
                · by_cases hh1 : 40 < H.size
                  · have f1 : decide ((1 : Int) ≤ (L.size : Int)) = true := by first | exact decide_eq_true (by omega) | exact decide_eq_false (by omega)
                    have f2 : decide ((L.size : Int) ≤ 40) = true := by first | exact decide_eq_true (by omega) | exact decide_eq_false (by omega)
                    have f3 : decide ((1 : Int) ≤ (H.size : Int)) = true := by first | exact decide_eq_true (by omega) | exact decide_eq_false (by omega)
                    have f4 : decide ((H.size : Int) ≤ 40) = false := by first | exact decide_eq_true (by omega) | exact decide_eq_false (by omega)
                    have q1 : decide (1 ≤ L.size) = true := by first | exact decide_eq_true (by omega) | exact decide_eq_false (by omega)
                    have q2 : decide (L.size ≤ 40) = true := by first | exact decide_eq_true (by omega) | exact decide_eq_false (by omega)
                    have q3 : decide (1 ≤ H.size) = true := by first | exact decide_eq_true (by omega) | exact decide_eq_false (by omega)
                    have q4 : decide (H.size ≤ 40) = false := by first | exact decide_eq_true (by omega) | exact decide_eq_false (by omega)
                    have HO : Hid (Nm.hostOf 33 ((⟨#[33]⟩ ++ L) ++ ⟨#[58]⟩ ++ H).data.toList = none) := ho_made 33 L H HL.out HH.out false (by rw [q1, q2, q3, q4]; rfl)
                    have HN : Hid (Nm.hostOf 64 ((⟨#[33]⟩ ++ L) ++ ⟨#[58]⟩ ++ H).data.toList = none) := ho_other _ _ _ _ (by decide)
                    have HHo : Hid (Nm.host H.data.toList = false) := by show _ = _; rw [Nm.host, made_of _ _ HH.out, q3, q4]; rfl
                    clear q1 q2 q3 q4
                    try clear hh0
                    try clear hl0
                    go_wp2_with fail
                    refine (nknown_any w).mono ?_
                    rintro e w3 ⟨rfl, b3⟩
                    go_wp2_with fail
                    refine (user_is _ w3 false HSz.out (by rw [Nm.user, HN.out]; rfl)).mono ?_
                    rintro e w4 ⟨rfl, b4⟩
                    have b4' := nthen b3 b4
                    go_wp2_with fail
                    refine (room_is _ w4 false HSz.out (by rw [Nm.room, HO.out]; rfl)).mono ?_
                    rintro e w5 ⟨rfl, b5⟩
                    have b5' := nthen b4' b5
                    go_wp2_with fail
                    refine (server_is' _ w5 ⟨#[]⟩ HSz.out (by simp only [Nm.server, HN.out, HO.out]; try rfl)).mono ?_
                    rintro e w6 ⟨rfl, b6⟩
                    have b6' := nthen b5' b6
                    go_wp2_with fail
                    refine (host_is _ w6 false HHo.out).mono ?_
                    rintro e w7 ⟨rfl, b7⟩
                    have b7' := nthen b6' b7
                    go_wp2_with fail
                    go_ret
                    exact ⟨rfl, b7'⟩
                  · have f1 : decide ((1 : Int) ≤ (L.size : Int)) = true := by first | exact decide_eq_true (by omega) | exact decide_eq_false (by omega)
                    have f2 : decide ((L.size : Int) ≤ 40) = true := by first | exact decide_eq_true (by omega) | exact decide_eq_false (by omega)
                    have f3 : decide ((1 : Int) ≤ (H.size : Int)) = true := by first | exact decide_eq_true (by omega) | exact decide_eq_false (by omega)
                    have f4 : decide ((H.size : Int) ≤ 40) = true := by first | exact decide_eq_true (by omega) | exact decide_eq_false (by omega)
                    have q1 : decide (1 ≤ L.size) = true := by first | exact decide_eq_true (by omega) | exact decide_eq_false (by omega)
                    have q2 : decide (L.size ≤ 40) = true := by first | exact decide_eq_true (by omega) | exact decide_eq_false (by omega)
                    have q3 : decide (1 ≤ H.size) = true := by first | exact decide_eq_true (by omega) | exact decide_eq_false (by omega)
                    have q4 : decide (H.size ≤ 40) = true := by first | exact decide_eq_true (by omega) | exact decide_eq_false (by omega)
                    have HO : Hid (Nm.hostOf 33 ((⟨#[33]⟩ ++ L) ++ ⟨#[58]⟩ ++ H).data.toList = some H.data.toList) := ho_made 33 L H HL.out HH.out true (by rw [q1, q2, q3, q4]; rfl)
                    have HN : Hid (Nm.hostOf 64 ((⟨#[33]⟩ ++ L) ++ ⟨#[58]⟩ ++ H).data.toList = none) := ho_other _ _ _ _ (by decide)
                    have HHo : Hid (Nm.host H.data.toList = true) := by show _ = _; rw [Nm.host, made_of _ _ HH.out, q3, q4]; rfl
                    clear q1 q2 q3 q4
                    try clear hh0
                    try clear hl0
                    go_wp2_with fail
                    refine (nknown_any w).mono ?_
                    rintro e w3 ⟨rfl, b3⟩
                    go_wp2_with fail
                    refine (user_is _ w3 false HSz.out (by rw [Nm.user, HN.out]; rfl)).mono ?_
                    rintro e w4 ⟨rfl, b4⟩
                    have b4' := nthen b3 b4
                    go_wp2_with fail
                    refine (room_is _ w4 true HSz.out (by rw [Nm.room, HO.out]; rfl)).mono ?_
                    rintro e w5 ⟨rfl, b5⟩
                    have b5' := nthen b4' b5
                    go_wp2_with fail
                    refine (server_is' _ w5 H HSz.out (by simp only [Nm.server, HN.out, HO.out]; try rfl)).mono ?_
                    rintro e w6 ⟨rfl, b6⟩
                    have b6' := nthen b5' b6
                    go_wp2_with fail
                    refine (host_is _ w6 true HHo.out).mono ?_
                    rintro e w7 ⟨rfl, b7⟩
                    have b7' := nthen b6' b7
                    go_wp2_with fail
                    go_ret
                    exact ⟨rfl, b7'⟩
end Go.Proofs.Ytpfbiklbecdmiaa
