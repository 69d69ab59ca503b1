/-
  THE WALKS of together, piece and Equal (layer 5).
-/
import Derived.Test.YtfcbooagedjkfaaDoorSMath
import Derived.Test.YtfcbooagedjkfaaDoorDApp
import Derived.Test.YtfcbooagedjkfaaDoorDTailsM
set_option linter.unusedVariables false
set_option linter.unusedSimpArgs false
namespace Go.Proofs.YtfcbooagedjkfaaDoor
open Go.RowKit

theorem or32 (i : Nat) (x y : Int) (hx₀ : 0 ≤ x) (hx : x % 2 ^ i = 0) (hx₁ : x < 4294967296) (hy₀ : 0 ≤ y) (hy : y < 2 ^ i) (hy₁ : y < 4294967296) : bits .or .u32 x y = x + y :=
  bits_join .u32 32 (by decide) wraps_u32 i x y hx₀ hx (by simpa using hx₁) hy₀ hy (by simpa using hy₁)
theorem xor_nat8 (a b : Nat) (ha : a < 256) (hb : b < 256) : bits .xor .u8 (a : Int) (b : Int) = ((a ^^^ b : Nat) : Int) := by
  have h : a ^^^ b < 256 := Nat.xor_lt_two_pow (n := 8) ha hb
  have ha' : a % 256 = a := Nat.mod_eq_of_lt ha
  have hb' : b % 256 = b := Nat.mod_eq_of_lt hb
  have e : bits .xor .u8 (a : Int) (b : Int) = IntKind.u8.wrap ((a ^^^ b : Nat) : Int) := by
    simp only [bits, BitVec.ofInt_natCast, BitVec.toNat_xor, BitVec.toNat_ofNat]
    show IntKind.u8.wrap (((a % 256) ^^^ (b % 256) : Nat) : Int) = _
    rw [ha', hb']
  rw [e, IntKind.wrap_u8]
  omega
theorem xor8 {x y : Int} (hx0 : 0 ≤ x) (hx1 : x ≤ 255) (hy0 : 0 ≤ y) (hy1 : y ≤ 255) : 0 ≤ bits .xor .u8 x y ∧ bits .xor .u8 x y ≤ 255 ∧ (bits .xor .u8 x y = 0 ↔ x = y) := by
  obtain ⟨a, rfl⟩ := Int.eq_ofNat_of_zero_le hx0
  obtain ⟨b, rfl⟩ := Int.eq_ofNat_of_zero_le hy0
  have h : a ^^^ b < 256 := Nat.xor_lt_two_pow (n := 8) (by omega) (by omega)
  rw [xor_nat8 a b (by omega) (by omega)]
  have h0 : a ^^^ b = 0 ↔ a = b := by
    constructor
    · intro e
      have := congrArg (a ^^^ ·) e
      simp only [← Nat.xor_assoc, Nat.xor_self, Nat.zero_xor, Nat.xor_zero] at this
      exact this.symm
    · rintro rfl
      exact Nat.xor_self a
  omega
theorem or8 {x y : Int} (hx0 : 0 ≤ x) (hx1 : x ≤ 255) (hy0 : 0 ≤ y) (hy1 : y ≤ 255) : 0 ≤ bits .or .u8 x y ∧ bits .or .u8 x y ≤ 255 ∧ (bits .or .u8 x y = 0 ↔ x = 0 ∧ y = 0) := by
  obtain ⟨a, rfl⟩ := Int.eq_ofNat_of_zero_le hx0
  obtain ⟨b, rfl⟩ := Int.eq_ofNat_of_zero_le hy0
  have h : a ||| b < 256 := Nat.or_lt_two_pow (n := 8) (by omega) (by omega)
  rw [(bits_nat .u8 8 (by decide) wraps_u8 a b (by omega) (by omega)).2]
  have h0 : a ||| b = 0 ↔ a = 0 ∧ b = 0 := Nat.or_eq_zero_iff
  omega

theorem tog_take (w : Nat) : ∀ (l : List Int) (i k : Nat), k < l.length → Sl.tog w (l.take (k + 1)) i = Sl.tog w (l.take k) i + l[k]?.getD 0 * 2 ^ (24 - w * (i + k + 1))
  | [], i, k, h => by simp at h
  | x :: l, i, 0, h => by simp [Sl.tog]
  | x :: l, i, k + 1, h => by
    have := tog_take w l (i + 1) k (by simpa using h)
    simp only [List.take_succ_cons, Sl.tog, this, List.getElem?_cons_succ]
    rw [show i + 1 + k + 1 = i + (k + 1) + 1 by omega]
    omega

set_option maxHeartbeats 1000000 in
theorem together8 (bs : List Int) (a : Option Addr) (len cap : Nat) (w : World) (hB : IsB w a len cap bs) (hl : len ≤ 3) :
    Calls Tryd.prog 30 #[.slice a len cap, .int .i64 8] w fun e w' => e = .returned (.int .u32 (Sl.tog 8 bs 0)) ∧ w' = w := by
  have HB := hide hB
  clear hB
  go_enter Tryd.func30, Tryd.ntmps30
  go_wp2_with fail
  go_loop [5, 10] (fun s i => ∃ (k : Nat) (x : Int), k ≤ len ∧ i = .int .i64 k ∧ s = .int .u32 x ∧ Hid (x = Sl.tog 8 (bs.take k) 0 ∧ 0 ≤ x ∧ x < 16777216 ∧ x % 2 ^ (24 - 8 * k) = 0)) (fun _ i => len - (intOf i).toNat)
  case atStart => exact ⟨0, 0, by omega, rfl, rfl, by simp [Sl.tog], by omega, by omega, by decide⟩
  case round =>
    obtain ⟨k, x, hk, rfl, rfl, HX⟩ := hrel
    by_cases hlt : k < len
    · obtain ⟨h1, h2, h3, h4, h5⟩ := HB.out
      rcases h5 with ⟨_, h5⟩ | ⟨y, rfl, h6⟩
      · omega
      · obtain ⟨b, o, rfl, hR⟩ := h6 (by omega)
        have hc := hR k (by omega)
        have h8 := h4 k
        have ht := tog_take 8 bs 0 k (by omega)
        obtain ⟨v, hv⟩ : ∃ v, v = bs[k]?.getD 0 := ⟨_, rfl⟩
        rw [← hv] at hc h8 ht
        have HT := hide ht
        clear hv h1 h4 h6 hR ht
        have hkn : k = 0 ∨ k = 1 ∨ k = 2 := by omega
        rcases hkn with rfl | rfl | rfl
        · simp only [Nat.add_zero] at hc
          go_wp2_with fail
          go_round
          case rel =>
            obtain ⟨e1, e2, e3, e4⟩ := HX.out
            have e4' : x % 16777216 = 0 := by simpa using e4
            have e0 : bits .or .u32 x (v * 65536) = x + v * 65536 := or32 24 _ _ (by omega) (by simpa using e4) (by omega) (by omega) (by simp; omega) (by omega)
            refine ⟨1, x + v * 65536, by omega, rfl, ?_, ?_, by omega, by omega, ?_⟩
            · first | rw [e0] | (rw [← e0]; simp)
            · rw [HT.out, ← e1]
              simp
            · first | (simp; done) | (simp; omega)
          case measure => simp [intOf]; omega
        · go_wp2_with fail
          go_round
          case rel =>
            obtain ⟨e1, e2, e3, e4⟩ := HX.out
            have e4' : x % 65536 = 0 := by simpa using e4
            have e0 : bits .or .u32 x (v * 256) = x + v * 256 := or32 16 _ _ (by omega) (by simpa using e4) (by omega) (by omega) (by simp; omega) (by omega)
            refine ⟨2, x + v * 256, by omega, rfl, ?_, ?_, by omega, by omega, ?_⟩
            · first | rw [e0] | (rw [← e0]; simp)
            · rw [HT.out, ← e1]
              simp
            · first | (simp; done) | (simp; omega)
          case measure => simp [intOf]; omega
        · go_wp2_with fail
          go_round
          case rel =>
            obtain ⟨e1, e2, e3, e4⟩ := HX.out
            have e4' : x % 256 = 0 := by simpa using e4
            have e0 : bits .or .u32 x (v * 1) = x + v * 1 := or32 8 _ _ (by omega) (by simpa using e4) (by omega) (by omega) (by simp; omega) (by omega)
            refine ⟨3, x + v * 1, by omega, rfl, ?_, ?_, by omega, by omega, ?_⟩
            · first | rw [e0] | (rw [← e0]; simp)
            · rw [HT.out, ← e1]
              simp
            · first | (simp; done) | (simp; omega)
          case measure => simp [intOf]; omega
    · go_wp2_with fail
      go_ret
      obtain ⟨e1, e2, e3, e4⟩ := HX.out
      rw [List.take_of_length_le (by rw [HB.out.1]; omega)] at e1
      rw [e1]
      exact ⟨rfl, rfl⟩

set_option maxHeartbeats 1000000 in
theorem together6 (bs : List Int) (a : Option Addr) (len cap : Nat) (w : World) (hB : IsB w a len cap bs) (hl : len ≤ 4) (hs : ∀ i : Nat, bs[i]?.getD 0 < 64) :
    Calls Tryd.prog 30 #[.slice a len cap, .int .i64 6] w fun e w' => e = .returned (.int .u32 (Sl.tog 6 bs 0)) ∧ w' = w := by
  have HB := hide hB
  clear hB
  go_enter Tryd.func30, Tryd.ntmps30
  go_wp2_with fail
  go_loop [5, 10] (fun s i => ∃ (k : Nat) (x : Int), k ≤ len ∧ i = .int .i64 k ∧ s = .int .u32 x ∧ Hid (x = Sl.tog 6 (bs.take k) 0 ∧ 0 ≤ x ∧ x < 16777216 ∧ x % 2 ^ (24 - 6 * k) = 0)) (fun _ i => len - (intOf i).toNat)
  case atStart => exact ⟨0, 0, by omega, rfl, rfl, by simp [Sl.tog], by omega, by omega, by decide⟩
  case round =>
    obtain ⟨k, x, hk, rfl, rfl, HX⟩ := hrel
    by_cases hlt : k < len
    · obtain ⟨h1, h2, h3, h4, h5⟩ := HB.out
      rcases h5 with ⟨_, h5⟩ | ⟨y, rfl, h6⟩
      · omega
      · obtain ⟨b, o, rfl, hR⟩ := h6 (by omega)
        have hc := hR k (by omega)
        have h8 := h4 k
        have h7 := hs k
        have ht := tog_take 6 bs 0 k (by omega)
        obtain ⟨v, hv⟩ : ∃ v, v = bs[k]?.getD 0 := ⟨_, rfl⟩
        rw [← hv] at hc h8 ht h7
        have HT := hide ht
        clear hv h1 h4 h6 hR ht
        have hkn : k = 0 ∨ k = 1 ∨ k = 2 ∨ k = 3 := by omega
        rcases hkn with rfl | rfl | rfl | rfl
        · simp only [Nat.add_zero] at hc
          go_wp2_with fail
          go_round
          case rel =>
            obtain ⟨e1, e2, e3, e4⟩ := HX.out
            have e4' : x % 16777216 = 0 := by simpa using e4
            have e0 : bits .or .u32 x (v * 262144) = x + v * 262144 := or32 24 _ _ (by omega) (by simpa using e4) (by omega) (by omega) (by simp; omega) (by omega)
            refine ⟨1, x + v * 262144, by omega, rfl, ?_, ?_, by omega, by omega, ?_⟩
            · first | rw [e0] | (rw [← e0]; simp)
            · rw [HT.out, ← e1]
              simp
            · first | (simp; done) | (simp; omega)
          case measure => simp [intOf]; omega
        · go_wp2_with fail
          go_round
          case rel =>
            obtain ⟨e1, e2, e3, e4⟩ := HX.out
            have e4' : x % 262144 = 0 := by simpa using e4
            have e0 : bits .or .u32 x (v * 4096) = x + v * 4096 := or32 18 _ _ (by omega) (by simpa using e4) (by omega) (by omega) (by simp; omega) (by omega)
            refine ⟨2, x + v * 4096, by omega, rfl, ?_, ?_, by omega, by omega, ?_⟩
            · first | rw [e0] | (rw [← e0]; simp)
            · rw [HT.out, ← e1]
              simp
            · first | (simp; done) | (simp; omega)
          case measure => simp [intOf]; omega
        · go_wp2_with fail
          go_round
          case rel =>
            obtain ⟨e1, e2, e3, e4⟩ := HX.out
            have e4' : x % 4096 = 0 := by simpa using e4
            have e0 : bits .or .u32 x (v * 64) = x + v * 64 := or32 12 _ _ (by omega) (by simpa using e4) (by omega) (by omega) (by simp; omega) (by omega)
            refine ⟨3, x + v * 64, by omega, rfl, ?_, ?_, by omega, by omega, ?_⟩
            · first | rw [e0] | (rw [← e0]; simp)
            · rw [HT.out, ← e1]
              simp
            · first | (simp; done) | (simp; omega)
          case measure => simp [intOf]; omega
        · go_wp2_with fail
          go_round
          case rel =>
            obtain ⟨e1, e2, e3, e4⟩ := HX.out
            have e4' : x % 64 = 0 := by simpa using e4
            have e0 : bits .or .u32 x (v * 1) = x + v * 1 := or32 6 _ _ (by omega) (by simpa using e4) (by omega) (by omega) (by simp; omega) (by omega)
            refine ⟨4, x + v * 1, by omega, rfl, ?_, ?_, by omega, by omega, ?_⟩
            · first | rw [e0] | (rw [← e0]; simp)
            · rw [HT.out, ← e1]
              simp
            · first | (simp; done) | (simp; omega)
          case measure => simp [intOf]; omega
    · go_wp2_with fail
      go_ret
      obtain ⟨e1, e2, e3, e4⟩ := HX.out
      rw [List.take_of_length_le (by rw [HB.out.1]; omega)] at e1
      rw [e1]
      exact ⟨rfl, rfl⟩

theorem ret_u32 {a b : Int} (h : a = b) : Ending.returned (.int .u32 a) = .returned (.int .u32 b) := by rw [h]
set_option maxHeartbeats 1000000 in
theorem piece6 (x : Int) (i : Nat) (w : World) (h0 : 0 ≤ x) (h1 : x < 16777216) (hi : i < 4) :
    Calls Tryd.prog 32 #[.int .u32 x, .int .i64 i, .int .i64 6] w fun e w' => e = .returned (.int .u32 (Sl.piece x i 6)) ∧ ∃ n, w' = w.drewN n := by
  have hin : i = 0 ∨ i = 1 ∨ i = 2 ∨ i = 3 := by omega
  rcases hin with rfl | rfl | rfl | rfl
  · go_enter Tryd.func32, Tryd.ntmps32
    go_wp2_with fail
    go_quiet (fail)
    go_wp2_with fail
    go_ret
    refine ⟨ret_u32 ?_, _, rfl⟩
    simp [Sl.piece]
  · go_enter Tryd.func32, Tryd.ntmps32
    go_wp2_with fail
    go_quiet (fail)
    go_wp2_with fail
    go_ret
    refine ⟨ret_u32 ?_, _, rfl⟩
    simp [Sl.piece]
  · go_enter Tryd.func32, Tryd.ntmps32
    go_wp2_with fail
    go_quiet (fail)
    go_wp2_with fail
    go_ret
    refine ⟨ret_u32 ?_, _, rfl⟩
    simp [Sl.piece]
  · go_enter Tryd.func32, Tryd.ntmps32
    go_wp2_with fail
    go_quiet (fail)
    go_wp2_with fail
    go_ret
    refine ⟨ret_u32 ?_, _, rfl⟩
    simp [Sl.piece]
set_option maxHeartbeats 1000000 in
theorem piece8 (x : Int) (i : Nat) (w : World) (h0 : 0 ≤ x) (h1 : x < 16777216) (hi : i < 3) :
    Calls Tryd.prog 32 #[.int .u32 x, .int .i64 i, .int .i64 8] w fun e w' => e = .returned (.int .u32 (Sl.piece x i 8)) ∧ ∃ n, w' = w.drewN n := by
  have hin : i = 0 ∨ i = 1 ∨ i = 2 := by omega
  rcases hin with rfl | rfl | rfl
  · go_enter Tryd.func32, Tryd.ntmps32
    go_wp2_with fail
    go_quiet (fail)
    go_wp2_with fail
    go_ret
    refine ⟨ret_u32 ?_, _, rfl⟩
    simp [Sl.piece]
  · go_enter Tryd.func32, Tryd.ntmps32
    go_wp2_with fail
    go_quiet (fail)
    go_wp2_with fail
    go_ret
    refine ⟨ret_u32 ?_, _, rfl⟩
    simp [Sl.piece]
  · go_enter Tryd.func32, Tryd.ntmps32
    go_wp2_with fail
    go_quiet (fail)
    go_wp2_with fail
    go_ret
    refine ⟨ret_u32 ?_, _, rfl⟩
    simp [Sl.piece]

set_option maxHeartbeats 1000000 in
theorem sealEqual_any (bs bs' : List Int) (a a' : Option Addr) (len cap len' cap' : Nat) (w : World) (hB : IsB w a len cap bs) (hB' : IsB w a' len' cap' bs') :
    Calls Tryd.prog 15 #[.slice a len cap, .slice a' len' cap'] w fun e w' => e = .returned (.bool (decide (bs = bs'))) ∧ ∃ n, w' = w.drewN n := by
  have HB := hide hB
  have HB2 := hide hB'
  have hlc := hB.2.1
  have hcx := hB.2.2.1
  have hlc' := hB'.2.1
  have hcx' := hB'.2.2.1
  clear hB hB'
  by_cases hll : len = len'
  · subst hll
    go_enter Tryd.func15, Tryd.ntmps15
    go_wp2_with fail
    go_loopw [5, 14] (fun d i wr => ∃ (k : Nat) (x : Int), k ≤ len ∧ i = .int .i64 k ∧ d = .int .u8 x ∧ Hid (0 ≤ x ∧ x ≤ 255 ∧ (x = 0 ↔ bs.take k = bs'.take k)) ∧ ∃ n, wr = w.drewN n) (fun _ i _ => len - (intOf i).toNat)
    case atStart => exact ⟨0, 0, by omega, rfl, rfl, ⟨by omega, by omega, by simp⟩, 0, rfl⟩
    case round =>
      obtain ⟨k, x, hk, rfl, rfl, HX, nd, rfl⟩ := hrel
      by_cases hlt : k < len
      · obtain ⟨l1, _, _, p1, ⟨_, z1⟩ | ⟨x1, rfl, r1⟩⟩ := HB.out
        · omega
        obtain ⟨l2, _, _, p2, ⟨_, z2⟩ | ⟨x2, rfl, r2⟩⟩ := HB2.out
        · omega
        obtain ⟨b1, o1, rfl, q1⟩ := r1 (by omega)
        obtain ⟨b2, o2, rfl, q2⟩ := r2 (by omega)
        have c1 := q1 k (by omega)
        have c2 := q2 k (by omega)
        have g1 := p1 k
        have g2 := p2 k
        obtain ⟨v, hv⟩ : ∃ v, v = bs[k]?.getD 0 := ⟨_, rfl⟩
        obtain ⟨u, hu⟩ : ∃ u, u = bs'[k]?.getD 0 := ⟨_, rfl⟩
        rw [← hv] at c1 g1
        rw [← hu] at c2 g2
        have HV := hide hv
        have HU := hide hu
        clear hv hu q1 q2 r1 r2 l1 l2 p1 p2
        go_wp2_with fail
        go_quiet (fail)
        go_wp2_with fail
        go_roundw
        case rel =>
          obtain ⟨e0, e1, e2⟩ := HX.out
          obtain ⟨y0, y1, y2⟩ := xor8 g1.1 g1.2 g2.1 g2.2
          obtain ⟨z0, z1, z2⟩ := or8 e0 e1 y0 y1
          refine ⟨k + 1, _, by omega, by go_num, rfl, ⟨z0, z1, ?_⟩, _, rfl⟩
          rw [z2, e2, y2]
          have t1 : bs.take (k + 1) = bs.take k ++ [v] := by
            rw [List.take_succ_eq_append_getElem (by rw [HB.out.1]; exact hlt), HV.out, List.getElem?_eq_getElem (by rw [HB.out.1]; exact hlt)]
            rfl
          have t2 : bs'.take (k + 1) = bs'.take k ++ [u] := by
            rw [List.take_succ_eq_append_getElem (by rw [HB2.out.1]; exact hlt), HU.out, List.getElem?_eq_getElem (by rw [HB2.out.1]; exact hlt)]
            rfl
          rw [t1, t2]
          constructor
          · rintro ⟨h, h'⟩
            rw [h, h']
          · intro h
            have := List.append_inj' h rfl
            exact ⟨this.1, by simpa using this.2⟩
        case measure => simp [intOf]; omega
      · go_wp2_with fail
        go_ret
        obtain ⟨e0, e1, e2⟩ := HX.out
        rw [List.take_of_length_le (by rw [HB.out.1]; omega), List.take_of_length_le (by rw [HB2.out.1]; omega)] at e2
        have e3 : (x == 0) = decide (bs = bs') := by
          rw [Bool.eq_iff_iff]
          simp [e2]
        refine ⟨?_, _, rfl⟩
        rw [← e3]
        rfl
  · have hne : ¬ bs = bs' := fun e => hll (by rw [← HB.out.1, ← HB2.out.1, e])
    go_enter Tryd.func15, Tryd.ntmps15
    go_wp2_with fail
    go_ret
    exact ⟨by simp [hne], 0, rfl⟩
end Go.Proofs.YtfcbooagedjkfaaDoor
