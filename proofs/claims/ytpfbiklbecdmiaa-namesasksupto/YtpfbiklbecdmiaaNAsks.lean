/-
  THE WALK of NamesAsks.
-/
import Derived.Test.YtpfbiklbecdmiaaNRefL
import Derived.Test.YtpfbiklbecdmiaaNLetL
import Derived.Test.YtpfbiklbecdmiaaWPart
import Derived.Test.YtpfbiklbecdmiaaVAsksB
import Derived.Lib.QuietBelow
import Derived.BigRegion
set_option linter.unusedVariables false
set_option linter.unusedSimpArgs false
namespace Go.Proofs.Ytpfbiklbecdmiaa
open Go.RowKit Go.Shelf Go.Sort

set_option maxHeartbeats 1000000 in
theorem nasks_any (s : ByteArray) (w : World) (hs : s.size ≤ 140737488355328) :
    Calls Try.prog 13 #[.string s] w fun e w' => e = .returned (.bool true) ∧ Below w.heap.size w w' := by
  obtain ⟨u, hu⟩ : ∃ u, Nm.user s.data.toList = u := ⟨_, rfl⟩
  obtain ⟨m, hm⟩ : ∃ m, Nm.room s.data.toList = m := ⟨_, rfl⟩
  obtain ⟨h, hh⟩ : ∃ h, Nm.host s.data.toList = h := ⟨_, rfl⟩
  obtain ⟨V, hV⟩ : ∃ V : ByteArray, (⟨(Nm.server s.data.toList).toArray⟩ : ByteArray) = V := ⟨_, rfl⟩
  have HU := nhide hu
  have HM := nhide hm
  have HH := nhide hh
  have HV := nhide hV
  clear hu hm hh hV
  go_enter Try.func13, Try.ntmps13
  go_wp2_with fail
  refine (user_any s w hs).mono ?_
  rintro e w1 ⟨rfl, b1⟩
  rw [HU.out]
  go_wp2_with fail
  refine (refUser_any s w1 hs).mono ?_
  rintro e w1 ⟨rfl, rfl⟩
  rw [HU.out]
  go_wp2_with fail
  refine (room_any s w1 hs).mono ?_
  rintro e w2 ⟨rfl, b2⟩
  rw [HM.out]
  have b2' := bthen b1 b2
  clear b1 b2
  go_wp2_with fail
  refine (refRoom_any s w2 hs).mono ?_
  rintro e w2 ⟨rfl, rfl⟩
  rw [HM.out]
  go_wp2_with fail
  refine (host_any s w2).mono ?_
  rintro e w3 ⟨rfl, b3⟩
  rw [HH.out]
  have b3' := bthen b2' b3
  clear b2' b3
  go_wp2_with fail
  refine (refHost_any s w3 hs).mono ?_
  rintro e w3 ⟨rfl, rfl⟩
  rw [HH.out]
  go_wp2_with fail
  refine (server_any s w3 hs).mono ?_
  rintro e w4 ⟨rfl, b4⟩
  rw [HV.out]
  have b4' := bthen b3' b4
  clear b3' b4
  go_wp2_with fail
  refine (refServer_any s w4 hs).mono ?_
  rintro e w4 ⟨rfl, rfl⟩
  rw [HV.out]
  go_wp2_with fail
  go_ret
  exact ⟨rfl, b4'⟩

theorem globs_any (P S : ByteArray) (w : World) (hP : P.size ≤ 140737488355328) (hS : S.size ≤ 4294967295) :
    Calls Try.prog 14 #[.string P, .string S] w fun e w' => e = .returned (.bool true) ∧ Below w.heap.size w w' := by
  obtain ⟨b, hb⟩ : ∃ b, Nm.glob P.data.toList S.data.toList = b := ⟨_, rfl⟩
  have HB := nhide hb
  clear hb
  go_enter Try.func14, Try.ntmps14
  go_wp2_with fail
  refine (glob_is P S w b hP (by omega) HB.out).mono ?_
  rintro e w1 ⟨rfl, b1⟩
  go_wp2_with fail
  refine (refGlob_any P S w1 hP hS).mono ?_
  rintro e w2 ⟨rfl, b2⟩
  rw [HB.out]
  go_wp2_with fail
  go_ret
  exact ⟨rfl, bthen b1 b2⟩

set_option maxRecDepth 100000 in
set_option maxHeartbeats 1000000 in
theorem letlaw_any (v : Value) (x : V) (S : Nat → Prop) (host : ByteArray) (w : World) (hI : Is w S v x) (hwt : V.wt x ≤ 1000000) (hh : host.size ≤ 4294967295) :
    Calls Try.prog 16 #[v, .string host] w fun e w' => e = .returned (.bool true) ∧ Below w.heap.size w w' := by
  obtain ⟨kv, lv, rfl, h2, h8, _⟩ := id hI.open
  obtain ⟨a1, c1, rfl, _⟩ := id h2
  obtain ⟨a2, c2, c, rfl, _⟩ := id h8
  obtain ⟨b, hb⟩ : ∃ b, letB x host = b := ⟨_, rfl⟩
  have HB := nhide hb
  have HI := nhide hI
  have b1 : Below w.heap.size w (w.alloc (.cells #[.int .i64 x.kind, .int .i64 x.num, .string x.text, .slice a1 x.keys.length c1, .slice a2 x.list.length c2] 25)) := below_alloc _ _
  have hbx := box5_new w (.int .i64 x.kind) (.int .i64 x.num) (.string x.text) (.slice a1 x.keys.length c1) (.slice a2 x.list.length c2) 25
  clear hb hI h2 h8
  go_enter Try.func16, Try.ntmps16
  go_wp2_with fail
  generalize w.alloc (.cells #[.int .i64 x.kind, .int .i64 x.num, .string x.text, .slice a1 x.keys.length c1, .slice a2 x.list.length c2] 25) = W1 at b1 hbx ⊢
  have HI1 := nhide (HI.out.below b1)
  obtain ⟨x0, x1, x2, x3, x4⟩ := hbx
  have k0 := cell_regrown x0
  have k1 := cell_regrown x1
  have k2 := cell_regrown x2
  have k3 := cell_regrown x3
  have k4 := cell_regrown x4
  have cA : ∀ d os, Calls Try.prog 24 #[.agg #[.int .i64 x.kind, .int .i64 x.num, .string x.text, .slice a1 x.keys.length c1, .slice a2 x.list.length c2], .string host] (grow (redrawn W1 d) os) fun e w'' => e = .returned (.bool b) ∧ ∃ p : Regrown, w'' = grow (redrawn W1 p.d) p.os := fun d os => Calls.regrown_of (by have h := let_any _ x S host (grow (redrawn W1 d) os) (HI1.out.below (below_regrown W1 d os)) (by omega) (by omega); rwa [HB.out] at h)
  have cB : ∀ d os, Calls Try.prog 33 #[.agg #[.int .i64 x.kind, .int .i64 x.num, .string x.text, .slice a1 x.keys.length c1, .slice a2 x.list.length c2], .string host] (grow (redrawn W1 d) os) fun e w'' => e = .returned (.bool b) ∧ ∃ p : Regrown, w'' = grow (redrawn W1 p.d) p.os := fun d os => Calls.regrown_of (by have h := refLet_any _ x S host (grow (redrawn W1 d) os) (HI1.out.below (below_regrown W1 d os)) hwt hh; rwa [HB.out] at h)
  refine wp_region_quiet_below (by kernel_rfl) (by kernel_rfl) ?_
  repeat (go_big_quiet_step (first | exact cA _ _ | exact cB _ _))
  refine wpQuiet_nil ?_
  intro _ hw'
  obtain ⟨⟨dq, osq⟩, rfl⟩ := hw'
  have b2 := below_regrown W1 dq osq
  generalize grow (redrawn W1 dq) osq = w2 at *
  clear k0 k1 k2 k3 k4 cA cB
  go_wp2_with fail
  go_ret
  exact ⟨rfl, bthen b1 b2⟩

theorem wt_list2 (z0 z1 : List Int) (k k' : Nat) (hk : k ≤ 4) (hk' : k' ≤ 4) : V.wt (listV (pats z0 k) (pats z1 k')) ≤ 1000000 := by
  have h1 := wtL_strs (pats z0 k) (pats_size z0 k)
  have h2 := wtL_strs (pats z1 k') (pats_size z1 k')
  rw [pats_length] at h1 h2
  have e1 : V.wt (V.texts (pats z0 k)) = 1 + V.wtL ((pats z0 k).map V.str) := by unfold V.texts; rw [V.wt_mk]; show 1 + 0 + 0 + _ = _; omega
  have e2 : V.wt (V.texts (pats z1 k')) = 1 + V.wtL ((pats z1 k').map V.str) := by unfold V.texts; rw [V.wt_mk]; show 1 + 0 + 0 + _ = _; omega
  have e3 : V.wtK [allowB, denyB] ≤ 100 := by decide
  unfold listV
  rw [V.wt_mk, V.wtL_cons, V.wtL_cons, V.wtL_nil, e1, e2]
  show 1 + 0 + _ + _ ≤ _
  omega

set_option maxRecDepth 100000 in
set_option maxHeartbeats 1000000 in
theorem namesAsks_walk (s t : ByteArray) (v : Value) (X : V) (a0 : Option Addr) (len0 cap0 : Nat) (z0 : List Int) (a1 : Option Addr) (len1 cap1 : Nat) (z1 : List Int) (a2 : Option Addr) (len2 cap2 : Nat) (z2 : List Int) (w : World) (hs : s.size ≤ 1048576) (ht : t.size ≤ 1048576) (hX : Is w (fun _ => True) v X) (hwt : V.wt X ≤ 1048576) (w0 : IsRow .u8 w a0 len0 cap0 z0) (w1 : IsRow .u8 w a1 len1 cap1 z1) (w2 : IsRow .u8 w a2 len2 cap2 z2) :
    Calls Try.prog 3 #[.string s, .string t, v, .slice a0 len0 cap0, .slice a1 len1 cap1, .slice a2 len2 cap2] w fun e w' => e = .returned (.bool true) ∧ Below w.heap.size w w' := by
  obtain ⟨hc0, _⟩ := isRow_cap w0
  obtain ⟨hc1, _⟩ := isRow_cap w1
  have H0 : Hid (Bys w a0 len0 z0) := w0.view
  have H1 : Hid (Bys w a1 len1 z1) := w1.view
  have H2 : Hid (Bys w a2 len2 z2) := w2.view
  have HR0 := nhide w0
  clear w0 w1 w2
  obtain ⟨kv, lv, rfl, h2, h8, _⟩ := id hX.open
  obtain ⟨p1, c1, rfl, _⟩ := id h2
  obtain ⟨p2, c2, c, rfl, _⟩ := id h8
  have HX := nhide hX
  have b1 : Below w.heap.size w (w.alloc (.cells #[.int .i64 X.kind, .int .i64 X.num, .string X.text, .slice p1 X.keys.length c1, .slice p2 X.list.length c2] 25)) := below_alloc _ _
  have hbx := box5_new w (.int .i64 X.kind) (.int .i64 X.num) (.string X.text) (.slice p1 X.keys.length c1) (.slice p2 X.list.length c2) 25
  clear hX h2 h8
  by_cases h200 : 200 < s.size + t.size
  · have hd : decide ((200 : Int) < (s.size : Int) + (t.size : Int)) = true := by simp; omega
    go_enter Try.func3, Try.ntmps3
    go_wp2_with fail
    refine (nknown_any _).mono ?_
    rintro e u2 ⟨rfl, b2⟩
    go_wp2_with fail
    go_ret
    exact ⟨rfl, bthen b1 b2⟩
  · have hd : decide ((200 : Int) < (s.size : Int) + (t.size : Int)) = false := by simp; omega
    obtain ⟨wg, hwg⟩ : ∃ wg : Nat, wg = min (V.wt X) 1001 := ⟨_, rfl⟩
    have HWG := nhide hwg
    by_cases hw200 : 200 < wg
    · have hd2 : decide ((200 : Int) < (wg : Int)) = true := by simp; omega
      clear hwg
      go_enter Try.func3, Try.ntmps3
      go_wp2_with fail
      generalize w.alloc (.cells #[.int .i64 X.kind, .int .i64 X.num, .string X.text, .slice p1 X.keys.length c1, .slice p2 X.list.length c2] 25) = W1 at b1 hbx ⊢
      refine (weight_any (HX.out.below b1) (by omega) wg HWG.out).mono ?_
      rintro e u2 ⟨rfl, b2⟩
      go_wp2_with fail
      refine (nknown_any _).mono ?_
      rintro e u3 ⟨rfl, b3⟩
      go_wp2_with fail
      go_ret
      exact ⟨rfl, bthen (bthen b1 b2) b3⟩
    · have hd2 : decide ((200 : Int) < (wg : Int)) = false := by simp; omega
      have hwx : V.wt X ≤ 200 := by omega
      clear hwg
      obtain ⟨Y, hY⟩ : ∃ Y : ByteArray, Y = ⟨(Nm.name z0 len0).toArray⟩ := ⟨_, rfl⟩
      have hYs : Y.size ≤ 48 := by rw [hY, arr_size]; exact name_len _ _
      obtain ⟨P0, hP0⟩ : ∃ Y : ByteArray, Y = ⟨(Nm.pat z0 len0).toArray⟩ := ⟨_, rfl⟩
      have hP0s : P0.size ≤ 48 := by rw [hP0, arr_size]; exact npat_len _ _
      obtain ⟨P1, hP1⟩ : ∃ Y : ByteArray, Y = ⟨(Nm.pat z1 len1).toArray⟩ := ⟨_, rfl⟩
      have hP1s : P1.size ≤ 48 := by rw [hP1, arr_size]; exact npat_len _ _
      obtain ⟨P2, hP2⟩ : ∃ Y : ByteArray, Y = ⟨(Nm.pat z2 len2).toArray⟩ := ⟨_, rfl⟩
      have hP2s : P2.size ≤ 48 := by rw [hP2, arr_size]; exact npat_len _ _
      have HY := nhide hY
      have HP0 := nhide hP0
      have HP1 := nhide hP1
      have HP2 := nhide hP2
      clear hY hP0 hP1 hP2
      go_enter Try.func3, Try.ntmps3
      go_wp2_with fail
      generalize w.alloc (.cells #[.int .i64 X.kind, .int .i64 X.num, .string X.text, .slice p1 X.keys.length c1, .slice p2 X.list.length c2] 25) = W1 at b1 hbx ⊢
      have HBX := nhide hbx
      clear hbx
      refine (weight_any (HX.out.below b1) (by omega) wg HWG.out).mono ?_
      rintro e u2 ⟨rfl, b2⟩
      have HBX2 := nhide (HBX.out.keep b2)
      have cB2 := bthen b1 b2
      clear b1 b2 HBX
      go_wp2_with fail
      refine (nknown_any _).mono ?_
      rintro e u3 ⟨rfl, b3⟩
      have HBX3 := nhide (HBX2.out.keep b3)
      have cB3 := bthen cB2 b3
      clear b3 HBX2 cB2
      go_wp2_with fail
      refine (name_row a0 len0 cap0 z0 u3 (H0.out.below cB3)).mono ?_
      rintro e u4 ⟨rfl, b4⟩
      rw [← HY.out]
      have HBX4 := nhide (HBX3.out.keep b4)
      have cB4 := bthen cB3 b4
      clear b4 HBX3 cB3
      go_wp2_with fail
      refine (nasks_any s u4 (by omega)).mono ?_
      rintro e u5 ⟨rfl, b5⟩
      have HBX5 := nhide (HBX4.out.keep b5)
      have cB5 := bthen cB4 b5
      clear b5 HBX4 cB4
      go_wp2_with fail
      refine (nasks_any Y u5 (by omega)).mono ?_
      rintro e u6 ⟨rfl, b6⟩
      have HBX6 := nhide (HBX5.out.keep b6)
      have cB6 := bthen cB5 b6
      clear b6 HBX5 cB5
      go_wp2_with fail
      refine (nasks_any _ u6 (by rw [ByteArray.size_append]; show 3 + _ ≤ _; omega)).mono ?_
      rintro e u7 ⟨rfl, b7⟩
      have HBX7 := nhide (HBX6.out.keep b7)
      have cB7 := bthen cB6 b7
      clear b7 HBX6 cB6
      go_wp2_with fail
      refine (nasks_any _ u7 (by rw [ByteArray.size_append, ByteArray.size_append]; show 1 + _ + 2 ≤ _; omega)).mono ?_
      rintro e u8 ⟨rfl, b8⟩
      have HBX8 := nhide (HBX7.out.keep b8)
      have cB8 := bthen cB7 b8
      clear b8 HBX7 cB7
      go_wp2_with fail
      refine (globs_any s t u8 (by omega) (by omega)).mono ?_
      rintro e u9 ⟨rfl, b9⟩
      have HBX9 := nhide (HBX8.out.keep b9)
      have cB9 := bthen cB8 b9
      clear b9 HBX8 cB8
      go_wp2_with fail
      refine (pat_row a0 len0 cap0 z0 u9 (H0.out.below cB9)).mono ?_
      rintro e u10 ⟨rfl, b10⟩
      rw [← HP0.out]
      have HBX10 := nhide (HBX9.out.keep b10)
      have cB10 := bthen cB9 b10
      clear b10 HBX9 cB9
      go_wp2_with fail
      refine (pat_row a1 len1 cap1 z1 u10 (H1.out.below cB10)).mono ?_
      rintro e u11 ⟨rfl, b11⟩
      rw [← HP1.out]
      have HBX11 := nhide (HBX10.out.keep b11)
      have cB11 := bthen cB10 b11
      clear b11 HBX10 cB10
      go_wp2_with fail
      refine (globs_any P0 P1 u11 (by omega) (by omega)).mono ?_
      rintro e u12 ⟨rfl, b12⟩
      have HBX12 := nhide (HBX11.out.keep b12)
      have cB12 := bthen cB11 b12
      clear b12 HBX11 cB11
      go_wp2_with fail
      refine (pat_row a0 len0 cap0 z0 u12 (H0.out.below cB12)).mono ?_
      rintro e u13 ⟨rfl, b13⟩
      rw [← HP0.out]
      have HBX13 := nhide (HBX12.out.keep b13)
      have cB13 := bthen cB12 b13
      clear b13 HBX12 cB12
      go_wp2_with fail
      refine (globs_any P0 s u13 (by omega) (by omega)).mono ?_
      rintro e u14 ⟨rfl, b14⟩
      have HBX14 := nhide (HBX13.out.keep b14)
      have cB14 := bthen cB13 b14
      clear b14 HBX13 cB13
      obtain ⟨x0, x1, x2, x3, x4⟩ := id HBX14.out
      go_wp2_with fail
      refine (letlaw_any _ X (fun _ => True) s u14 (HX.out.below cB14) (by omega) (by omega)).mono ?_
      rintro e u15 ⟨rfl, b15⟩
      have cB15 := bthen cB14 b15
      clear b15 HBX14 cB14 x0 x1 x2 x3 x4
      go_wp2_with fail
      refine (list_any a0 len0 cap0 z0 a1 len1 cap1 z1 u15 (H0.out.below cB15) hc0 (H1.out.below cB15) hc1).mono ?_
      rintro e u16 ⟨k, n, tt, q1, n1, d1, q2, n2, d2, rfl, hI, b16⟩
      have HI := nhide hI
      have cB16 := bthen cB15 b16
      clear b16 cB15 hI
      go_wp2_with fail
      refine (pat_row a2 len2 cap2 z2 u16 (H2.out.below cB16)).mono ?_
      rintro e u17 ⟨rfl, b17⟩
      rw [← HP2.out]
      have HI2 := nhide (HI.out.below b17)
      have cB17 := bthen cB16 b17
      clear b17 HI cB16
      go_wp2_with fail
      refine (letlaw_any _ _ (fun _ => True) P2 u17 HI2.out (wt_list2 z0 z1 _ _ (by omega) (by omega)) (by omega)).mono ?_
      rintro e u18 ⟨rfl, b18⟩
      have cB18 := bthen cB17 b18
      clear b18 HI2 cB17
      go_wp2_with fail
      refine (part_any a0 len0 cap0 z0 3 u18 (isRow_keep HR0.out cB18) (by omega) (by omega)).mono ?_
      rintro e u19 ⟨k3, n3, t3, q13, n13, d13, q23, n23, d23, rfl, hI3, b19⟩
      have HI3 := nhide hI3
      have cB19 := bthen cB18 b19
      clear b19 cB18 hI3
      go_wp2_with fail
      refine (letlaw_any _ _ _ t u19 HI3.out (by have := V.wt_part z0 len0 3; omega) (by omega)).mono ?_
      rintro e u20 ⟨rfl, b20⟩
      go_wp2_with fail
      go_ret
      exact ⟨rfl, bthen cB19 b20⟩
end Go.Proofs.Ytpfbiklbecdmiaa
