/-
  THE WALKS of the document's step, Sum, Frame.
-/
import Derived.Test.YtgfjpbiioaahhaaFFrame
set_option linter.unusedVariables false
set_option linter.unusedSimpArgs false
set_option maxRecDepth 100000
namespace Go.Proofs.Ytgfjpbiioaahhaa
open Go.RowKit Fr

theorem bs_append (a b : ByteArray) : bs (a ++ b) = bs a ++ bs b := by
  show (a ++ b).data.toList = _
  rw [ByteArray.data_append, Array.toList_append]

set_option maxHeartbeats 1000000 in
theorem rstep_any (w : World) (s : Nat) (c : UInt8) (hs : s < 4294967296) : Calls Try.prog 22 #[u32v s, .int .u8 (c.toNat : Int)] w fun e w' => e = .returned (u32v (Fr.step s c)) ∧ w' = w := by
  have hc := c.toNat_lt
  have hx := xor32 (a := s) (b := c.toNat) hs (by omega)
  have hwr : IntKind.u32.wrap (c.toNat : Int) = (c.toNat : Int) := by rw [IntKind.wrap_u32]; omega
  have hmod : (c.toNat : Int) % 4294967296 = (c.toNat : Int) := by omega
  obtain ⟨x0, hx0⟩ : ∃ x, x = s ^^^ c.toNat := ⟨_, rfl⟩
  have hxl : x0 < 4294967296 := by rw [hx0]; exact xor_lt hs (by omega)
  obtain ⟨V, hV⟩ : ∃ V, V = Fr.step s c := ⟨_, rfl⟩
  rw [← hV]
  have HV : Hid (V = hvN 8 x0) := by show V = _; rw [hV, hx0]; rfl
  rw [← hx0] at hx
  clear hV hx0
  go_enter Try.func22, Try.ntmps22
  go_wp2_with fail
  go_loopw [0, 5] (fun a i wr => ∃ k x : Nat, k ≤ 8 ∧ i = .int .i64 k ∧ a = u32v x ∧ Hid (x = hvN k x0) ∧ x < 4294967296 ∧ wr = w) (fun a i _ => 8 - (intOf i).toNat)
  case atStart => exact ⟨0, x0, by omega, rfl, rfl, rfl, hxl, rfl⟩
  case round =>
    clear hx hxl hwr hmod
    obtain ⟨k, x, hk, rfl, rfl, HX, hxl, rfl⟩ := hrel
    by_cases hlt : k < 8
    · obtain ⟨h, hh⟩ : ∃ h, h = x / 2 := ⟨_, rfl⟩
      have hdiv : (x : Int) / 2 = (h : Int) := by omega
      have hxr : bits .xor .u32 (h : Int) 2197175160 = ((h ^^^ P : Nat) : Int) := xor32 (b := P) (by omega) (by decide)
      have HN : Hid (hvN (k + 1) x0 = hv x) := by show hvN (k + 1) x0 = _; rw [hvN_succ, HX.out]
      have HH := hide hh
      clear hh
      rcases Nat.mod_two_eq_zero_or_one x with h0 | h0
      · have hm : (x : Int) % 2 = 0 := by omega
        have HE : Hid (hv x = h) := by show hv x = _; unfold hv; rw [if_neg (by omega)]; exact HH.out.symm
        clear h0
        go_wp2_with fail
        go_roundw
        case rel => exact ⟨k + 1, h, by omega, by go_num, rfl, by show h = _; rw [HN.out, HE.out], by omega, trivial⟩
        case measure => simp [intOf]; omega
      · have hm : (x : Int) % 2 = 1 := by omega
        have HE : Hid (hv x = h ^^^ P) := by show hv x = _; unfold hv; rw [if_pos h0, ← HH.out]
        clear h0
        go_wp2_with fail
        go_roundw
        case rel => exact ⟨k + 1, h ^^^ P, by omega, by go_num, rfl, by show h ^^^ P = _; rw [HN.out, HE.out], xor_lt (by omega) (by decide), trivial⟩
        case measure => simp [intOf]; omega
    · have hk8 : k = 8 := by omega
      subst hk8
      have HF : Hid (V = x) := by show V = x; rw [HV.out, HX.out]
      clear HV HX hlt hk
      go_wp2_with fail
      go_ret
      exact ⟨by rw [HF.out]; rfl, rfl⟩

set_option maxHeartbeats 1000000 in
theorem rsum_any (w : World) (S : ByteArray) (hsz : S.size ≤ 1152921504606846976) : Calls Try.prog 13 #[.string S] w fun e w' => e = .returned (u32v (sum (bs S))) ∧ w' = w := by
  obtain ⟨V, hV⟩ : ∃ V, V = sum (bs S) := ⟨_, rfl⟩
  rw [← hV]
  have HV := hide hV
  clear hV
  go_enter Try.func13, Try.ntmps13
  go_wp2_with fail
  go_loopw [3, 4] (fun a i wr => ∃ k x : Nat, k ≤ S.size ∧ i = .int .i64 k ∧ a = u32v x ∧ Hid (x = run M ((bs S).take k)) ∧ x < 4294967296 ∧ wr = w) (fun a i _ => S.size - (intOf i).toNat)
  case atStart => exact ⟨0, M, by omega, rfl, rfl, rfl, M_lt, rfl⟩
  case round =>
    obtain ⟨k, x, hk, rfl, rfl, HX, hxl, rfl⟩ := hrel
    by_cases hlt : k < S.size
    · have HN : Hid (run M ((bs S).take (k + 1)) = Fr.step x S[k]) := by
        show run M ((bs S).take (k + 1)) = _
        rw [run_take _ (by rw [bs_length]; exact hlt), ← HX.out, bs_at S k hlt]
      go_wp2_with (go_at_call 22; refine (rstep_any _ x (S[k]'hlt) hxl).mono ?_; rintro e w2 ⟨rfl, rfl⟩)
      go_roundw
      case rel => exact ⟨k + 1, Fr.step x S[k], by omega, by go_num, rfl, HN.out.symm, step_lt _ hxl, trivial⟩
      case measure => simp [intOf]; omega
    · have hke : k = S.size := by omega
      have hx32 : bits .xor .u32 IntKind.u32.max (x : Int) = ((M ^^^ x : Nat) : Int) := xor32 (a := M) (b := x) M_lt hxl
      have HF : Hid (V = M ^^^ x) := by
        show V = _
        rw [HV.out, HX.out, List.take_of_length_le (by rw [bs_length]; omega)]
        rfl
      clear HX HV hke
      go_wp2_with fail
      go_ret
      exact ⟨by rw [HF.out]; rfl, rfl⟩

theorem rfour_is (w : World) (n : Nat) (F : ByteArray) (hF : F = strOf (four n)) (hn : n < 4294967296) : Calls Try.prog 19 #[u32v n] w fun e w' => e = .returned (.string F) ∧ Below w.heap.size w w' := by
  subst hF
  exact rfour_any w n hn
theorem rsum_is (w : World) (S : ByteArray) (q : Nat) (hq : q = sum (bs S)) (hsz : S.size ≤ 1152921504606846976) : Calls Try.prog 13 #[.string S] w fun e w' => e = .returned (u32v q) ∧ w' = w := by
  subst hq
  exact rsum_any w S hsz

set_option maxHeartbeats 1000000 in
theorem rframe_any (w : World) (s : ByteArray) (hs : s.size ≤ 1152921504606846976) : Calls Try.prog 11 #[.string s] w fun e w' => e = .returned (.string (strOf (fr (bs s)))) ∧ Below w.heap.size w w' := by
  obtain ⟨V, hV⟩ : ∃ V, V = strOf (fr (bs s)) := ⟨_, rfl⟩
  rw [← hV]
  by_cases hm : s.size ≤ 131072
  · have hn : s.size < 4294967296 := by omega
    have hwr : IntKind.u32.wrap (s.size : Int) = (s.size : Int) := by rw [IntKind.wrap_u32]; omega
    have HV : Hid (V = strOf (four s.size ++ (four (sum (four s.size ++ bs s)) ++ bs s))) := by
      show V = _
      rw [hV]
      unfold fr
      rw [if_neg (by rw [bs_length]; unfold most; omega), bs_length]
    clear hV
    obtain ⟨F1, hF1⟩ : ∃ F, F = strOf (four s.size) := ⟨_, rfl⟩
    have hz1 : F1.size = 4 := by rw [hF1]; rfl
    have hb1 : bs F1 = four s.size := by rw [hF1]
    obtain ⟨T, hT⟩ : ∃ T, T = F1 ++ s := ⟨_, rfl⟩
    have hTb : bs T = four s.size ++ bs s := by rw [hT, bs_append, hb1]
    have hz : T.size ≤ 1152921504606846976 := by rw [← bs_length, hTb, List.length_append, four_length, bs_length]; omega
    have HTs := hide hz
    have HT := hide hT
    have hsl := sum_lt (bs T)
    obtain ⟨q, hq⟩ : ∃ q, q = sum (bs T) := ⟨_, rfl⟩
    obtain ⟨F2, hF2⟩ : ∃ F, F = strOf (four q) := ⟨_, rfl⟩
    have hz2 : F2.size = 4 := by rw [hF2]; rfl
    have HE : Hid (V = F1 ++ F2 ++ s) := by
      refine HV.out.trans ?_
      apply str_ext
      rw [bs_append, bs_append, bs_strOf, hF2, bs_strOf, hq, hTb, hb1, List.append_assoc]
    rw [← hq] at hsl
    have HF1 := hide hF1
    have HF2 := hide hF2
    have HQ := hide hq
    clear hF1 hb1 hT hTb hq hF2 HV hz
    go_enter Try.func11, Try.ntmps11
    go_wp2_with (go_at_call 19; refine (rfour_is _ _ F1 HF1.out hn).mono ?_; rintro e w1 ⟨rfl, b1⟩)
    rw [← HT.out]
    refine (rsum_is _ T q HQ.out HTs.out).mono ?_
    rintro e w2 ⟨rfl, rfl⟩
    go_wp2_with fail
    refine (rfour_is _ _ F2 HF2.out hsl).mono ?_
    rintro e w3 ⟨rfl, b3⟩
    go_wp2_with fail
    go_ret
    refine ⟨?_, bthen b1 b3⟩
    rw [HE.out]
    rfl
  · have HV : Hid (V = strOf []) := by
      show V = _
      rw [hV]
      unfold fr
      rw [if_pos (by rw [bs_length]; unfold most; omega)]
    clear hV
    go_enter Try.func11, Try.ntmps11
    go_wp2
    go_ret
    exact ⟨by rw [HV.out]; rfl, Below.refl _ _⟩
end Go.Proofs.Ytgfjpbiioaahhaa
