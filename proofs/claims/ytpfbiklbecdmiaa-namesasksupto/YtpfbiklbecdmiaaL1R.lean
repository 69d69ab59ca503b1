/-
  What this seat takes of an earlier layer's contracts.
-/
import Derived.Test.YtpfbiklbecdmiaaL1
import Derived.Laws.BytesArg
import Derived.BigRegion
set_option linter.unusedVariables false
set_option linter.unusedSimpArgs false
namespace Go.Proofs.Ytpfbiklbecdmiaa
open Go.RowKit

namespace Gm
def S1 (l : List UInt8) : Prop := nth l 0 < 128
end Gm

namespace Gm
def S2 (l : List UInt8) : Prop := nth l 0 / 32 = 6 ∧ 1 < l.length ∧ nth l 1 / 64 = 2 ∧ 128 ≤ nth l 0 % 32 * 64 + nth l 1 % 64
end Gm

namespace Gm
def c3 (l : List UInt8) : Nat := nth l 0 % 16 * 4096 + nth l 1 % 64 * 64 + nth l 2 % 64
end Gm

namespace Gm
def S3 (l : List UInt8) : Prop := nth l 0 / 16 = 14 ∧ 2 < l.length ∧ nth l 1 / 64 = 2 ∧ nth l 2 / 64 = 2 ∧ 2048 ≤ c3 l ∧ (c3 l < 55296 ∨ 57344 ≤ c3 l)
end Gm

namespace Gm
def c4 (l : List UInt8) : Nat := nth l 0 % 8 * 262144 + nth l 1 % 64 * 4096 + nth l 2 % 64 * 64 + nth l 3 % 64
end Gm

namespace Gm
def S4 (l : List UInt8) : Prop := nth l 0 / 8 = 30 ∧ 3 < l.length ∧ nth l 1 / 64 = 2 ∧ nth l 2 / 64 = 2 ∧ nth l 3 / 64 = 2 ∧ 65536 ≤ c4 l ∧ c4 l ≤ 1114111
end Gm

namespace Gm
theorem dec_S2 {l : List UInt8} (h : S2 l) : dec l = (nth l 0 % 32 * 64 + nth l 1 % 64, 2) := by
  obtain ⟨h0, h1, h2, h3⟩ := h
  unfold dec Lib.decodeN
  rw [if_neg (by omega), if_pos ⟨h0, h1, h2⟩, if_pos (by omega)]
end Gm

namespace Gm
theorem dec_S3 {l : List UInt8} (h : S3 l) : dec l = (c3 l, 3) := by
  obtain ⟨h0, h1, h2, h3, h4, h5⟩ := h
  have l0 := nth_lt l 0
  unfold c3 at *
  unfold dec Lib.decodeN
  rw [if_neg (by omega), if_neg (by omega), if_pos ⟨h0, ⟨by omega, h2⟩, h1, h3⟩, if_pos ⟨by omega, by omega⟩]
end Gm

namespace Gm
theorem dec_S4 {l : List UInt8} (h : S4 l) : dec l = (c4 l, 4) := by
  obtain ⟨h0, h1, h2, h3, h4, h5, h6⟩ := h
  have l0 := nth_lt l 0
  unfold c4 at *
  unfold dec Lib.decodeN
  rw [if_neg (by omega), if_neg (by omega), if_neg (by omega), if_pos ⟨h0, ⟨by omega, h2⟩, ⟨by omega, h3⟩, h1, h4⟩, if_pos ⟨by omega, by omega⟩]
end Gm

namespace Gm
theorem dec_cases (l : List UInt8) (hb : bad l = false) : S1 l ∨ S2 l ∨ S3 l ∨ S4 l := by
  have hb' : ¬ dec l = (65533, 1) := by simpa [bad] using hb
  unfold dec Lib.decodeN at hb'
  unfold S1 S2 S3 S4 c3 c4
  by_cases g1 : nth l 0 < 128
  · left; exact g1
  · rw [if_neg g1] at hb'
    by_cases g2 : nth l 0 / 32 = 6 ∧ (1 < l.length ∧ nth l 1 / 64 = 2)
    · rw [if_pos g2] at hb'
      split at hb'
      · right; left; omega
      · exact absurd rfl hb'
    · rw [if_neg g2] at hb'
      split at hb'
      · split at hb'
        · right; right; left; omega
        · exact absurd rfl hb'
      · split at hb'
        · split at hb'
          · right; right; right; omega
          · exact absurd rfl hb'
        · exact absurd rfl hb'
end Gm

namespace Gm
theorem bad_of_dec {l : List UInt8} {r w : Nat} (h : dec l = (r, w)) (hw : w ≠ 1 ∨ r ≠ 65533) : bad l = false := by
  unfold bad
  rw [h]
  simp
  omega
end Gm

namespace Gm
theorem bad_S1 {l : List UInt8} (h : S1 l) : bad l = false := bad_of_dec (dec_ascii l h) (by unfold S1 at h; omega)
end Gm

namespace Gm
theorem bad_S2 {l : List UInt8} (h : S2 l) : bad l = false := bad_of_dec (dec_S2 h) (by omega)
end Gm

namespace Gm
theorem bad_S3 {l : List UInt8} (h : S3 l) : bad l = false := bad_of_dec (dec_S3 h) (by omega)
end Gm

namespace Gm
theorem bad_S4 {l : List UInt8} (h : S4 l) : bad l = false := bad_of_dec (dec_S4 h) (by omega)
end Gm

theorem ret_bool {a b : Bool} (h : a = b) : Ending.returned (.bool a) = .returned (.bool b) := by rw [h]

theorem data_append (a b : ByteArray) : (a ++ b).data.toList = a.data.toList ++ b.data.toList := by
  rw [ByteArray.data_append]; simp

theorem bthen {w a b : World} (h : Below w.heap.size w a) (k : Below a.heap.size a b) : Below w.heap.size w b := h.trans (k.mono h.size)

namespace Gm
def moreZ (c : Nat) : Int := if c < 128 then 0 else if 194 ≤ c ∧ c ≤ 223 then 1 else if 224 ≤ c ∧ c ≤ 239 then 2 else if 240 ≤ c ∧ c ≤ 244 then 3 else -1
end Gm

namespace Gm
def one (l : List UInt8) : Nat := if l = [] then 0 else if bad l then 0 else (dec l).2
end Gm

namespace Gm
def rac (l : List UInt8) (q : Nat) : Nat → Nat
  | 0 => nth l 0 % q
  | k + 1 => 64 * rac l q k + nth l (k + 1) % 64
end Gm

namespace Gm
theorem bad_of_not {l : List UInt8} (h1 : ¬ S1 l) (h2 : ¬ S2 l) (h3 : ¬ S3 l) (h4 : ¬ S4 l) : bad l = true := by
  cases hb : bad l with
  | true => rfl
  | false =>
    rcases dec_cases l hb with h | h | h | h
    · exact absurd h h1
    · exact absurd h h2
    · exact absurd h h3
    · exact absurd h h4
end Gm

namespace Gm
theorem one_zero {l : List UInt8} (h1 : ¬ S1 l) (h2 : ¬ S2 l) (h3 : ¬ S3 l) (h4 : ¬ S4 l) : one l = 0 := by
  unfold one
  rw [bad_of_not h1 h2 h3 h4]
  simp
end Gm

namespace Gm
theorem one_S1 {l : List UInt8} (hl : l ≠ []) (h : S1 l) : one l = 1 := by
  unfold one; rw [if_neg hl, bad_S1 h, dec_ascii l h]; rfl
end Gm

namespace Gm
theorem one_S2 {l : List UInt8} (hl : l ≠ []) (h : S2 l) : one l = 2 := by
  unfold one; rw [if_neg hl, bad_S2 h, dec_S2 h]; rfl
end Gm

namespace Gm
theorem one_S3 {l : List UInt8} (hl : l ≠ []) (h : S3 l) : one l = 3 := by
  unfold one; rw [if_neg hl, bad_S3 h, dec_S3 h]; rfl
end Gm

namespace Gm
theorem one_S4 {l : List UInt8} (hl : l ≠ []) (h : S4 l) : one l = 4 := by
  unfold one; rw [if_neg hl, bad_S4 h, dec_S4 h]; rfl
end Gm

namespace Gm
theorem rac_le (l : List UInt8) (q k : Nat) (hq : 0 < q) (hq2 : q ≤ 32) (hk : k ≤ 3) : rac l q k ≤ 8388607 := by
  have h0 : nth l 0 % q < q := Nat.mod_lt _ hq
  have : k = 0 ∨ k = 1 ∨ k = 2 ∨ k = 3 := by omega
  rcases this with rfl | rfl | rfl | rfl <;> simp only [rac] <;> omega
end Gm

namespace Gm
theorem one_nocont {l : List UInt8} {m : Nat} (hm : moreZ (nth l 0) = m) (j : Nat) (h1 : 1 ≤ j) (h2 : j ≤ m) (hj : nth l j / 64 ≠ 2) : one l = 0 := by
  unfold moreZ at hm
  have hl0 := nth_lt l 0
  have hm3 : m ≤ 3 := by
    repeat' split at hm
    all_goals omega
  have hb : 194 ≤ nth l 0 ∧ nth l 0 ≤ 244 ∧ (m = 1 → nth l 0 ≤ 223) ∧ (m = 2 → 224 ≤ nth l 0 ∧ nth l 0 ≤ 239) ∧ (m = 3 → 240 ≤ nth l 0) := by
    repeat' split at hm
    all_goals omega
  have hjj : j = 1 ∨ j = 2 ∨ j = 3 := by omega
  apply one_zero
  · unfold S1; omega
  · unfold S2; rcases hjj with rfl | rfl | rfl <;> omega
  · unfold S3; rcases hjj with rfl | rfl | rfl <;> omega
  · unfold S4; rcases hjj with rfl | rfl | rfl <;> omega
end Gm

namespace Gm
theorem one_neg_zero {l : List UInt8} (hm : moreZ (nth l 0) = -1) : one l = 0 := by
  unfold moreZ at hm
  have hl0 := nth_lt l 0
  have hl1 := nth_lt l 1
  have hb : 128 ≤ nth l 0 ∧ (nth l 0 < 194 ∨ 244 < nth l 0) := by
    repeat' split at hm
    all_goals omega
  apply one_zero
  · unfold S1; omega
  · unfold S2; omega
  · unfold S3; omega
  · unfold S4 c4; omega
end Gm

namespace Gm
theorem one_cut_zero {l : List UInt8} {m : Nat} (hm : moreZ (nth l 0) = m) (hl : l.length ≤ m) (h0 : 0 < l.length) : one l = 0 := by
  unfold moreZ at hm
  have hl0 := nth_lt l 0
  have hb : (m = 1 ∧ 194 ≤ nth l 0 ∧ nth l 0 ≤ 223) ∨ (m = 2 ∧ 224 ≤ nth l 0 ∧ nth l 0 ≤ 239) ∨ (m = 3 ∧ 240 ≤ nth l 0 ∧ nth l 0 ≤ 244) := by
    repeat' split at hm
    all_goals omega
  apply one_zero
  · unfold S1; omega
  · unfold S2; omega
  · unfold S3; omega
  · unfold S4; omega
end Gm

theorem more_any (c : Nat) (w : World) (hc : c < 256) :
    Calls Try.prog 66 #[.int .u8 c] w fun e w' => e = .returned (.int .i64 (Gm.moreZ c)) ∧ w' = w := by
  unfold Gm.moreZ
  by_cases h1 : c < 128
  · rw [if_pos h1]
    have g1 : (c : Int) < 128 := by omega
    go_enter Try.func66, Try.ntmps66
    go_wp2
    go_ret
    exact ⟨rfl, rfl⟩
  · rw [if_neg h1]
    have g1 : ¬ (c : Int) < 128 := by omega
    by_cases h2 : c < 194
    · rw [if_neg (by omega), if_neg (by omega), if_neg (by omega)]
      have d2 : decide (194 ≤ (c : Int)) = false := by simp; omega
      have d3 : decide (224 ≤ (c : Int)) = false := by simp; omega
      have d4 : decide (240 ≤ (c : Int)) = false := by simp; omega
      go_enter Try.func66, Try.ntmps66
      go_wp2
      go_ret
      exact ⟨rfl, rfl⟩
    · have d2 : 194 ≤ (c : Int) := by omega
      by_cases h3 : c ≤ 223
      · rw [if_pos ⟨by omega, h3⟩]
        have d3 : (c : Int) ≤ 223 := by omega
        go_enter Try.func66, Try.ntmps66
        go_wp2
        go_ret
        exact ⟨rfl, rfl⟩
      · rw [if_neg (by omega)]
        have d3 : ¬ (c : Int) ≤ 223 := by omega
        have d4 : 224 ≤ (c : Int) := by omega
        by_cases h4 : c ≤ 239
        · rw [if_pos ⟨by omega, h4⟩]
          have d5 : (c : Int) ≤ 239 := by omega
          go_enter Try.func66, Try.ntmps66
          go_wp2
          go_ret
          exact ⟨rfl, rfl⟩
        · rw [if_neg (by omega)]
          have d5 : ¬ (c : Int) ≤ 239 := by omega
          have d6 : 240 ≤ (c : Int) := by omega
          by_cases h5 : c ≤ 244
          · rw [if_pos ⟨by omega, h5⟩]
            have d7 : (c : Int) ≤ 244 := by omega
            go_enter Try.func66, Try.ntmps66
            go_wp2
            go_ret
            exact ⟨rfl, rfl⟩
          · rw [if_neg (by omega)]
            have d7 : ¬ (c : Int) ≤ 244 := by omega
            go_enter Try.func66, Try.ntmps66
            go_wp2
            go_ret
            exact ⟨rfl, rfl⟩

theorem more_is (c : Nat) (z : Int) (w : World) (hc : c < 256) (h : Gm.moreZ c = z) :
    Calls Try.prog 66 #[.int .u8 c] w fun e w' => e = .returned (.int .i64 z) ∧ w' = w := by
  subst h; exact more_any c w hc

theorem one_empty (s : ByteArray) (w : World) (h : s.toList.isEmpty = true) :
    Calls Try.prog 57 #[.string s] w fun e w' => e = .returned (.int .i64 0) ∧ Below w.heap.size w w' := by
  go_enter Try.func57, Try.ntmps57
  go_wp2
  go_ret
  exact ⟨rfl, Below.refl _ _⟩

theorem one_neg (s : ByteArray) (w : World) (hp : 0 < s.size) (h : s.toList.isEmpty = false) (hm : Gm.moreZ (s[0]'hp).toNat = -1) :
    Calls Try.prog 57 #[.string s] w fun e w' => e = .returned (.int .i64 0) ∧ Below w.heap.size w w' := by
  have HM : Hid _ := hm
  clear hm
  have hlt : (s[0]'hp).toNat < 256 := (s[0]'hp).toNat_lt
  go_enter Try.func57, Try.ntmps57
  go_wp2_with fail
  refine (more_is _ (-1) _ hlt HM.out).mono ?_
  rintro e w ⟨rfl, rfl⟩
  go_wp2
  go_ret
  exact ⟨rfl, Below.refl _ _⟩

theorem one_cut (s : ByteArray) (m : Nat) (w : World) (hp : 0 < s.size) (h : s.toList.isEmpty = false) (hm : Gm.moreZ (s[0]'hp).toNat = m) (hs : s.size ≤ m) (hm3 : m ≤ 3) :
    Calls Try.prog 57 #[.string s] w fun e w' => e = .returned (.int .i64 0) ∧ Below w.heap.size w w' := by
  have HM : Hid _ := hm
  clear hm
  have hlt : (s[0]'hp).toNat < 256 := (s[0]'hp).toNat_lt
  have hge : (s.size : Int) ≤ m := by omega
  have hnn : ¬ (m : Int) < 0 := by omega
  go_enter Try.func57, Try.ntmps57
  go_wp2_with fail
  refine (more_is _ m _ hlt HM.out).mono ?_
  rintro e w ⟨rfl, rfl⟩
  go_wp2_with fail
  refine (more_is _ m _ hlt HM.out).mono ?_
  rintro e w ⟨rfl, rfl⟩
  go_wp2
  go_ret
  exact ⟨rfl, Below.refl _ _⟩

theorem one_ascii (s : ByteArray) (w : World) (hp : 0 < s.size) (hs : s.size ≤ maxLen) (h : s.toList.isEmpty = false) (hm : Gm.moreZ (s[0]'hp).toNat = 0) (ha : (s[0]'hp).toNat < 128) :
    Calls Try.prog 57 #[.string s] w fun e w' => e = .returned (.int .i64 1) ∧ Below w.heap.size w w' := by
  unfold maxLen at hs
  have HM : Hid _ := hm
  clear hm
  have hlt : (s[0]'hp).toNat < 256 := (s[0]'hp).toNat_lt
  have hem : ¬ s = ByteArray.empty := by
    intro e
    rw [e] at hp
    simp at hp
  go_enter Try.func57, Try.ntmps57
  go_wp2_with fail
  refine (more_is _ 0 _ hlt HM.out).mono ?_
  rintro e w ⟨rfl, rfl⟩
  go_wp2_with fail
  refine (more_is _ 0 _ hlt HM.out).mono ?_
  rintro e w ⟨rfl, rfl⟩
  go_wp2_with fail
  refine (more_is _ 0 _ hlt HM.out).mono ?_
  rintro e w ⟨rfl, rfl⟩
  go_wp2
  go_loop [4, 5] (fun r i => r = .int .i64 (s[0]'hp).toNat ∧ i = .int .i64 1) (fun _ _ => 0)
  case atStart => exact ⟨rfl, rfl⟩
  case round =>
    obtain ⟨rfl, rfl⟩ := hrel
    go_wp2
    go_ret
    exact ⟨rfl, (Below.refl _ _).alloc (Nat.le_refl _) _⟩

set_option maxHeartbeats 1000000 in
theorem one_m1 (s : ByteArray) (w : World) (hp : 0 < s.size) (hs : s.size ≤ maxLen) (h : s.toList.isEmpty = false) (hm : Gm.moreZ (s[0]'hp).toNat = 1) (hl : 1 < s.size) (hb1 : 194 ≤ (s[0]'hp).toNat) (hb2 : (s[0]'hp).toNat ≤ 223) :
    Calls Try.prog 57 #[.string s] w fun e w' => e = .returned (.int .i64 (Gm.one s.data.toList)) ∧ Below w.heap.size w w' := by
  unfold maxLen at hs
  have hn0 := nth_of s 0 hp
  have hne : s.data.toList ≠ [] := by
    intro e
    rw [Lib.size_eq, e] at hp
    simp at hp
  have HM : Hid _ := hm
  have hge : ¬ (s.size : Int) ≤ 1 := by omega
  have hlt : (s[0]'hp).toNat < 256 := by omega
  have HN0 : Hid _ := hn0
  have hr0 : (((s[0]'hp).toNat : Int) % 32) = ((Gm.rac s.data.toList 32 0 : Nat) : Int) := by
    simp only [Gm.rac]; rw [hn0]; omega
  have HR0 : Hid _ := hr0
  clear hm hn0 hr0
  go_enter Try.func57, Try.ntmps57
  go_wp2_with fail
  refine (more_is _ 1 _ hlt HM.out).mono ?_
  rintro e w ⟨rfl, rfl⟩
  go_wp2_with fail
  refine (more_is _ 1 _ hlt HM.out).mono ?_
  rintro e w ⟨rfl, rfl⟩
  go_wp2_with fail
  refine (more_is _ 1 _ hlt HM.out).mono ?_
  rintro e w ⟨rfl, rfl⟩
  go_wp2
  go_loop [4, 5] (fun r i => ∃ k n : Nat, n = k + 1 ∧ k ≤ 1 ∧ i = .int .i64 n ∧ r = .int .i64 (Gm.rac s.data.toList 32 k) ∧ ∀ j, 1 ≤ j → j ≤ k → Gm.nth s.data.toList j / 64 = 2) (fun _ i => 3 - (intOf i).toNat)
  case atStart => exact ⟨0, 1, rfl, by omega, rfl, by rw [← HR0.out], fun j h1 h2 => by omega⟩
  case round =>
    obtain ⟨k, n, hkn, hk, rfl, rfl, hkk⟩ := hrel
    have hrl := Gm.rac_le s.data.toList 32 k (by omega) (by omega) (by omega)
    have HK : Hid _ := hkk
    clear hkk
    by_cases hkm : k < 1
    · have hle : (n : Int) ≤ 1 := by omega
      have hks : n < s.size := by omega
      have hnk := nth_of s n hks
      have hbl : (s[n]'hks).toNat < 256 := (s[n]'hks).toNat_lt
      have HKN : Hid _ := hkn
      have hn1 : 1 ≤ n := by omega
      have hnm : n ≤ 1 := by omega
      clear hkn
      have HNK : Hid _ := hnk
      clear hnk
      generalize hR : Gm.rac s.data.toList 32 k = R at *
      have HR : Hid _ := hR
      clear hR
      by_cases hc1 : (s[n]'hks).toNat < 128
      · have hc1' : ((s[n]'hks).toNat : Int) < 128 := by omega
        go_wp2
        go_ret
        have hz := Gm.one_nocont (l := s.data.toList) (m := 1) (by rw [HN0.out]; exact HM.out) n hn1 hnm (by rw [HNK.out]; omega)
        rw [hz]
        exact ⟨rfl, Below.refl _ _⟩
      · have hc1' : ¬ ((s[n]'hks).toNat : Int) < 128 := by omega
        by_cases hc2 : 191 < (s[n]'hks).toNat
        · have hc2' : 191 < ((s[n]'hks).toNat : Int) := by omega
          go_wp2
          go_ret
          have hz := Gm.one_nocont (l := s.data.toList) (m := 1) (by rw [HN0.out]; exact HM.out) n hn1 hnm (by rw [HNK.out]; omega)
          rw [hz]
          exact ⟨rfl, Below.refl _ _⟩
        · have hc2' : ¬ 191 < ((s[n]'hks).toNat : Int) := by omega
          go_wp2
          go_round
          case rel =>
            have hkn := HKN.out
            refine ⟨k + 1, n + 1, by omega, by omega, by go_num, ?_, ?_⟩
            · simp only [Gm.rac]
              rw [HR.out, ← hkn, HNK.out]
              go_num
            · intro j h1 h2
              by_cases hj : j = n
              · subst hj; rw [HNK.out]; omega
              · exact HK.out j h1 (by omega)
          case measure => simp [intOf]; omega
    · have hle : ¬ (n : Int) ≤ 1 := by omega
      have hkm' : k = 1 := by omega
      subst hkm'
      subst hkn
      have k1 := HK.out 1 (by omega) (by omega)
      have hc0 : Gm.rac s.data.toList 32 1 = 64 * (Gm.nth s.data.toList 0 % 32) + Gm.nth s.data.toList 1 % 64 := rfl
      have l0 := Gm.nth_lt s.data.toList 0
      have hn0 := HN0.out
      have hlen : 1 < s.data.toList.length := by rw [← Lib.size_eq]; exact hl
      generalize hR : Gm.rac s.data.toList 32 1 = R at *
      have HR : Hid (R = 64 * (Gm.nth s.data.toList 0 % 32) + Gm.nth s.data.toList 1 % 64) := hc0
      have hcs : (128 ≤ R ∧ R < 55296) := by omega
      have HN1 : Hid _ := hn0
      have HLN : Hid _ := hlen
      have K1 : Hid _ := k1
      clear hR hc0 hn0 hlen k1
      rcases hcs with ⟨g1, g2⟩
      · have t1 : ¬ (R : Int) < 128 := by omega
        have t2 : decide (55296 ≤ (R : Int)) = false := by simp; omega
        have t4 : ¬ 1114111 < (R : Int) := by omega
        go_wp2
        go_ret
        have RR := HR.out
        have hn0 := HN1.out
        have hlen := HLN.out
        have k1 := K1.out
        have hz : Gm.one s.data.toList = 2 := Gm.one_S2 hne (by unfold Gm.S2; omega)
        rw [hz]
        exact ⟨rfl, (Below.refl _ _).alloc (Nat.le_refl _) _⟩

set_option maxHeartbeats 1000000 in
theorem one_m2 (s : ByteArray) (w : World) (hp : 0 < s.size) (hs : s.size ≤ maxLen) (h : s.toList.isEmpty = false) (hm : Gm.moreZ (s[0]'hp).toNat = 2) (hl : 2 < s.size) (hb1 : 224 ≤ (s[0]'hp).toNat) (hb2 : (s[0]'hp).toNat ≤ 239) :
    Calls Try.prog 57 #[.string s] w fun e w' => e = .returned (.int .i64 (Gm.one s.data.toList)) ∧ Below w.heap.size w w' := by
  unfold maxLen at hs
  have hn0 := nth_of s 0 hp
  have hne : s.data.toList ≠ [] := by
    intro e
    rw [Lib.size_eq, e] at hp
    simp at hp
  have HM : Hid _ := hm
  have hge : ¬ (s.size : Int) ≤ 2 := by omega
  have hlt : (s[0]'hp).toNat < 256 := by omega
  have HN0 : Hid _ := hn0
  have hr0 : (((s[0]'hp).toNat : Int) % 16) = ((Gm.rac s.data.toList 16 0 : Nat) : Int) := by
    simp only [Gm.rac]; rw [hn0]; omega
  have HR0 : Hid _ := hr0
  clear hm hn0 hr0
  go_enter Try.func57, Try.ntmps57
  go_wp2_with fail
  refine (more_is _ 2 _ hlt HM.out).mono ?_
  rintro e w ⟨rfl, rfl⟩
  go_wp2_with fail
  refine (more_is _ 2 _ hlt HM.out).mono ?_
  rintro e w ⟨rfl, rfl⟩
  go_wp2_with fail
  refine (more_is _ 2 _ hlt HM.out).mono ?_
  rintro e w ⟨rfl, rfl⟩
  go_wp2
  go_loop [4, 5] (fun r i => ∃ k n : Nat, n = k + 1 ∧ k ≤ 2 ∧ i = .int .i64 n ∧ r = .int .i64 (Gm.rac s.data.toList 16 k) ∧ ∀ j, 1 ≤ j → j ≤ k → Gm.nth s.data.toList j / 64 = 2) (fun _ i => 4 - (intOf i).toNat)
  case atStart => exact ⟨0, 1, rfl, by omega, rfl, by rw [← HR0.out], fun j h1 h2 => by omega⟩
  case round =>
    obtain ⟨k, n, hkn, hk, rfl, rfl, hkk⟩ := hrel
    have hrl := Gm.rac_le s.data.toList 16 k (by omega) (by omega) (by omega)
    have HK : Hid _ := hkk
    clear hkk
    by_cases hkm : k < 2
    · have hle : (n : Int) ≤ 2 := by omega
      have hks : n < s.size := by omega
      have hnk := nth_of s n hks
      have hbl : (s[n]'hks).toNat < 256 := (s[n]'hks).toNat_lt
      have HKN : Hid _ := hkn
      have hn1 : 1 ≤ n := by omega
      have hnm : n ≤ 2 := by omega
      clear hkn
      have HNK : Hid _ := hnk
      clear hnk
      generalize hR : Gm.rac s.data.toList 16 k = R at *
      have HR : Hid _ := hR
      clear hR
      by_cases hc1 : (s[n]'hks).toNat < 128
      · have hc1' : ((s[n]'hks).toNat : Int) < 128 := by omega
        go_wp2
        go_ret
        have hz := Gm.one_nocont (l := s.data.toList) (m := 2) (by rw [HN0.out]; exact HM.out) n hn1 hnm (by rw [HNK.out]; omega)
        rw [hz]
        exact ⟨rfl, Below.refl _ _⟩
      · have hc1' : ¬ ((s[n]'hks).toNat : Int) < 128 := by omega
        by_cases hc2 : 191 < (s[n]'hks).toNat
        · have hc2' : 191 < ((s[n]'hks).toNat : Int) := by omega
          go_wp2
          go_ret
          have hz := Gm.one_nocont (l := s.data.toList) (m := 2) (by rw [HN0.out]; exact HM.out) n hn1 hnm (by rw [HNK.out]; omega)
          rw [hz]
          exact ⟨rfl, Below.refl _ _⟩
        · have hc2' : ¬ 191 < ((s[n]'hks).toNat : Int) := by omega
          go_wp2
          go_round
          case rel =>
            have hkn := HKN.out
            refine ⟨k + 1, n + 1, by omega, by omega, by go_num, ?_, ?_⟩
            · simp only [Gm.rac]
              rw [HR.out, ← hkn, HNK.out]
              go_num
            · intro j h1 h2
              by_cases hj : j = n
              · subst hj; rw [HNK.out]; omega
              · exact HK.out j h1 (by omega)
          case measure => simp [intOf]; omega
    · have hle : ¬ (n : Int) ≤ 2 := by omega
      have hkm' : k = 2 := by omega
      subst hkm'
      subst hkn
      have k1 := HK.out 1 (by omega) (by omega)
      have k2 := HK.out 2 (by omega) (by omega)
      have hc0 : Gm.rac s.data.toList 16 2 = 64 * (64 * (Gm.nth s.data.toList 0 % 16) + Gm.nth s.data.toList 1 % 64) + Gm.nth s.data.toList 2 % 64 := rfl
      have l0 := Gm.nth_lt s.data.toList 0
      have hn0 := HN0.out
      have hlen : 2 < s.data.toList.length := by rw [← Lib.size_eq]; exact hl
      generalize hR : Gm.rac s.data.toList 16 2 = R at *
      have HR : Hid (R = 64 * (64 * (Gm.nth s.data.toList 0 % 16) + Gm.nth s.data.toList 1 % 64) + Gm.nth s.data.toList 2 % 64) := hc0
      have hcs : R < 2048 ∨ (2048 ≤ R ∧ 55296 ≤ R ∧ R ≤ 57343) ∨ (2048 ≤ R ∧ R < 55296) ∨ (2048 ≤ R ∧ 57343 < R ∧ R ≤ 1114111) := by omega
      have HN1 : Hid _ := hn0
      have HLN : Hid _ := hlen
      have K1 : Hid _ := k1
      have K2 : Hid _ := k2
      clear hR hc0 hn0 hlen k1 k2
      rcases hcs with g | ⟨g1, g2, g3⟩ | ⟨g1, g2⟩ | ⟨g1, g2, g3⟩
      · have t1 : (R : Int) < 2048 := by omega
        go_wp2
        go_ret
        have RR := HR.out
        have hn0 := HN1.out
        have hlen := HLN.out
        have k1 := K1.out
        have k2 := K2.out
        have hz : Gm.one s.data.toList = 0 := by
          apply Gm.one_zero
          · unfold Gm.S1; omega
          · unfold Gm.S2; omega
          · unfold Gm.S3 Gm.c3; omega
          · unfold Gm.S4 Gm.c4; omega
        rw [hz]
        exact ⟨rfl, (Below.refl _ _).alloc (Nat.le_refl _) _⟩
      · have t1 : ¬ (R : Int) < 2048 := by omega
        have t2 : 55296 ≤ (R : Int) := by omega
        have t3 : (R : Int) ≤ 57343 := by omega
        go_wp2
        go_ret
        have RR := HR.out
        have hn0 := HN1.out
        have hlen := HLN.out
        have k1 := K1.out
        have k2 := K2.out
        have hz : Gm.one s.data.toList = 0 := by
          apply Gm.one_zero
          · unfold Gm.S1; omega
          · unfold Gm.S2; omega
          · unfold Gm.S3 Gm.c3; omega
          · unfold Gm.S4 Gm.c4; omega
        rw [hz]
        exact ⟨rfl, (Below.refl _ _).alloc (Nat.le_refl _) _⟩
      · have t1 : ¬ (R : Int) < 2048 := by omega
        have t2 : decide (55296 ≤ (R : Int)) = false := by simp; omega
        have t4 : ¬ 1114111 < (R : Int) := by omega
        go_wp2
        go_ret
        have RR := HR.out
        have hn0 := HN1.out
        have hlen := HLN.out
        have k1 := K1.out
        have k2 := K2.out
        have hz : Gm.one s.data.toList = 3 := Gm.one_S3 hne (by unfold Gm.S3 Gm.c3; omega)
        rw [hz]
        exact ⟨rfl, (Below.refl _ _).alloc (Nat.le_refl _) _⟩
      · have t1 : ¬ (R : Int) < 2048 := by omega
        have t2 : 55296 ≤ (R : Int) := by omega
        have t3 : ¬ (R : Int) ≤ 57343 := by omega
        have t4 : ¬ 1114111 < (R : Int) := by omega
        go_wp2
        go_ret
        have RR := HR.out
        have hn0 := HN1.out
        have hlen := HLN.out
        have k1 := K1.out
        have k2 := K2.out
        have hz : Gm.one s.data.toList = 3 := Gm.one_S3 hne (by unfold Gm.S3 Gm.c3; omega)
        rw [hz]
        exact ⟨rfl, (Below.refl _ _).alloc (Nat.le_refl _) _⟩

set_option maxHeartbeats 1000000 in
theorem one_m3 (s : ByteArray) (w : World) (hp : 0 < s.size) (hs : s.size ≤ maxLen) (h : s.toList.isEmpty = false) (hm : Gm.moreZ (s[0]'hp).toNat = 3) (hl : 3 < s.size) (hb1 : 240 ≤ (s[0]'hp).toNat) (hb2 : (s[0]'hp).toNat ≤ 244) :
    Calls Try.prog 57 #[.string s] w fun e w' => e = .returned (.int .i64 (Gm.one s.data.toList)) ∧ Below w.heap.size w w' := by
  unfold maxLen at hs
  have hn0 := nth_of s 0 hp
  have hne : s.data.toList ≠ [] := by
    intro e
    rw [Lib.size_eq, e] at hp
    simp at hp
  have HM : Hid _ := hm
  have hge : ¬ (s.size : Int) ≤ 3 := by omega
  have hlt : (s[0]'hp).toNat < 256 := by omega
  have HN0 : Hid _ := hn0
  have hr0 : (((s[0]'hp).toNat : Int) % 8) = ((Gm.rac s.data.toList 8 0 : Nat) : Int) := by
    simp only [Gm.rac]; rw [hn0]; omega
  have HR0 : Hid _ := hr0
  clear hm hn0 hr0
  go_enter Try.func57, Try.ntmps57
  go_wp2_with fail
  refine (more_is _ 3 _ hlt HM.out).mono ?_
  rintro e w ⟨rfl, rfl⟩
  go_wp2_with fail
  refine (more_is _ 3 _ hlt HM.out).mono ?_
  rintro e w ⟨rfl, rfl⟩
  go_wp2_with fail
  refine (more_is _ 3 _ hlt HM.out).mono ?_
  rintro e w ⟨rfl, rfl⟩
  go_wp2
  go_loop [4, 5] (fun r i => ∃ k n : Nat, n = k + 1 ∧ k ≤ 3 ∧ i = .int .i64 n ∧ r = .int .i64 (Gm.rac s.data.toList 8 k) ∧ ∀ j, 1 ≤ j → j ≤ k → Gm.nth s.data.toList j / 64 = 2) (fun _ i => 5 - (intOf i).toNat)
  case atStart => exact ⟨0, 1, rfl, by omega, rfl, by rw [← HR0.out], fun j h1 h2 => by omega⟩
  case round =>
    obtain ⟨k, n, hkn, hk, rfl, rfl, hkk⟩ := hrel
    have hrl := Gm.rac_le s.data.toList 8 k (by omega) (by omega) (by omega)
    have HK : Hid _ := hkk
    clear hkk
    by_cases hkm : k < 3
    · have hle : (n : Int) ≤ 3 := by omega
      have hks : n < s.size := by omega
      have hnk := nth_of s n hks
      have hbl : (s[n]'hks).toNat < 256 := (s[n]'hks).toNat_lt
      have HKN : Hid _ := hkn
      have hn1 : 1 ≤ n := by omega
      have hnm : n ≤ 3 := by omega
      clear hkn
      have HNK : Hid _ := hnk
      clear hnk
      generalize hR : Gm.rac s.data.toList 8 k = R at *
      have HR : Hid _ := hR
      clear hR
      by_cases hc1 : (s[n]'hks).toNat < 128
      · have hc1' : ((s[n]'hks).toNat : Int) < 128 := by omega
        go_wp2
        go_ret
        have hz := Gm.one_nocont (l := s.data.toList) (m := 3) (by rw [HN0.out]; exact HM.out) n hn1 hnm (by rw [HNK.out]; omega)
        rw [hz]
        exact ⟨rfl, Below.refl _ _⟩
      · have hc1' : ¬ ((s[n]'hks).toNat : Int) < 128 := by omega
        by_cases hc2 : 191 < (s[n]'hks).toNat
        · have hc2' : 191 < ((s[n]'hks).toNat : Int) := by omega
          go_wp2
          go_ret
          have hz := Gm.one_nocont (l := s.data.toList) (m := 3) (by rw [HN0.out]; exact HM.out) n hn1 hnm (by rw [HNK.out]; omega)
          rw [hz]
          exact ⟨rfl, Below.refl _ _⟩
        · have hc2' : ¬ 191 < ((s[n]'hks).toNat : Int) := by omega
          go_wp2
          go_round
          case rel =>
            have hkn := HKN.out
            refine ⟨k + 1, n + 1, by omega, by omega, by go_num, ?_, ?_⟩
            · simp only [Gm.rac]
              rw [HR.out, ← hkn, HNK.out]
              go_num
            · intro j h1 h2
              by_cases hj : j = n
              · subst hj; rw [HNK.out]; omega
              · exact HK.out j h1 (by omega)
          case measure => simp [intOf]; omega
    · have hle : ¬ (n : Int) ≤ 3 := by omega
      have hkm' : k = 3 := by omega
      subst hkm'
      subst hkn
      have k1 := HK.out 1 (by omega) (by omega)
      have k2 := HK.out 2 (by omega) (by omega)
      have k3 := HK.out 3 (by omega) (by omega)
      have hc0 : Gm.rac s.data.toList 8 3 = 64 * (64 * (64 * (Gm.nth s.data.toList 0 % 8) + Gm.nth s.data.toList 1 % 64) + Gm.nth s.data.toList 2 % 64) + Gm.nth s.data.toList 3 % 64 := rfl
      have l0 := Gm.nth_lt s.data.toList 0
      have hn0 := HN0.out
      have hlen : 3 < s.data.toList.length := by rw [← Lib.size_eq]; exact hl
      generalize hR : Gm.rac s.data.toList 8 3 = R at *
      have HR : Hid (R = 64 * (64 * (64 * (Gm.nth s.data.toList 0 % 8) + Gm.nth s.data.toList 1 % 64) + Gm.nth s.data.toList 2 % 64) + Gm.nth s.data.toList 3 % 64) := hc0
      have hcs : R < 65536 ∨ (65536 ≤ R ∧ 1114111 < R) ∨ (65536 ≤ R ∧ 57343 < R ∧ R ≤ 1114111) := by omega
      have HN1 : Hid _ := hn0
      have HLN : Hid _ := hlen
      have K1 : Hid _ := k1
      have K2 : Hid _ := k2
      have K3 : Hid _ := k3
      clear hR hc0 hn0 hlen k1 k2 k3
      rcases hcs with g | ⟨g1, g2⟩ | ⟨g1, g2, g3⟩
      · have t1 : (R : Int) < 65536 := by omega
        go_wp2
        go_ret
        have RR := HR.out
        have hn0 := HN1.out
        have hlen := HLN.out
        have k1 := K1.out
        have k2 := K2.out
        have k3 := K3.out
        have hz : Gm.one s.data.toList = 0 := by
          apply Gm.one_zero
          · unfold Gm.S1; omega
          · unfold Gm.S2; omega
          · unfold Gm.S3 Gm.c3; omega
          · unfold Gm.S4 Gm.c4; omega
        rw [hz]
        exact ⟨rfl, (Below.refl _ _).alloc (Nat.le_refl _) _⟩
      · have t1 : ¬ (R : Int) < 65536 := by omega
        have t2 : 55296 ≤ (R : Int) := by omega
        have t3 : ¬ (R : Int) ≤ 57343 := by omega
        have t4 : 1114111 < (R : Int) := by omega
        go_wp2
        go_ret
        have RR := HR.out
        have hn0 := HN1.out
        have hlen := HLN.out
        have k1 := K1.out
        have k2 := K2.out
        have k3 := K3.out
        have hz : Gm.one s.data.toList = 0 := by
          apply Gm.one_zero
          · unfold Gm.S1; omega
          · unfold Gm.S2; omega
          · unfold Gm.S3 Gm.c3; omega
          · unfold Gm.S4 Gm.c4; omega
        rw [hz]
        exact ⟨rfl, (Below.refl _ _).alloc (Nat.le_refl _) _⟩
      · have t1 : ¬ (R : Int) < 65536 := by omega
        have t2 : 55296 ≤ (R : Int) := by omega
        have t3 : ¬ (R : Int) ≤ 57343 := by omega
        have t4 : ¬ 1114111 < (R : Int) := by omega
        go_wp2
        go_ret
        have RR := HR.out
        have hn0 := HN1.out
        have hlen := HLN.out
        have k1 := K1.out
        have k2 := K2.out
        have k3 := K3.out
        have hz : Gm.one s.data.toList = 4 := Gm.one_S4 hne (by unfold Gm.S4 Gm.c4; omega)
        rw [hz]
        exact ⟨rfl, (Below.refl _ _).alloc (Nat.le_refl _) _⟩

theorem one_any (s : ByteArray) (w : World) (hs : s.size ≤ maxLen) :
    Calls Try.prog 57 #[.string s] w fun e w' => e = .returned (.int .i64 (Gm.one s.data.toList)) ∧ Below w.heap.size w w' := by
  by_cases hp : 0 < s.size
  · have hn0 := nth_of s 0 hp
    have hb := (s[0]'hp).toNat_lt
    have hne : s.data.toList ≠ [] := by
      intro e
      rw [Lib.size_eq, e] at hp
      simp at hp
    have h : s.toList.isEmpty = false := by
      rw [Lib.toList_data]
      cases hx : s.data.toList with
      | nil => exact absurd hx hne
      | cons _ _ => rfl
    have hlen := Lib.size_eq s
    by_cases c0 : (s[0]'hp).toNat < 128
    · have e : Gm.one s.data.toList = 1 := Gm.one_S1 hne (by unfold Gm.S1; omega)
      rw [e]
      exact one_ascii s w hp hs h (by unfold Gm.moreZ; rw [if_pos c0]) c0
    · by_cases c1 : 194 ≤ (s[0]'hp).toNat ∧ (s[0]'hp).toNat ≤ 223
      · have hm : Gm.moreZ (s[0]'hp).toNat = 1 := by unfold Gm.moreZ; rw [if_neg c0, if_pos c1]
        by_cases hl : 1 < s.size
        · exact one_m1 s w hp hs h hm hl c1.1 c1.2
        · rw [Gm.one_cut_zero (m := 1) (by rw [hn0]; exact hm) (by omega) (by omega)]
          exact one_cut s 1 w hp h hm (by omega) (by omega)
      · by_cases c2 : 224 ≤ (s[0]'hp).toNat ∧ (s[0]'hp).toNat ≤ 239
        · have hm : Gm.moreZ (s[0]'hp).toNat = 2 := by unfold Gm.moreZ; rw [if_neg c0, if_neg c1, if_pos c2]
          by_cases hl : 2 < s.size
          · exact one_m2 s w hp hs h hm hl c2.1 c2.2
          · rw [Gm.one_cut_zero (m := 2) (by rw [hn0]; exact hm) (by omega) (by omega)]
            exact one_cut s 2 w hp h hm (by omega) (by omega)
        · by_cases c3 : 240 ≤ (s[0]'hp).toNat ∧ (s[0]'hp).toNat ≤ 244
          · have hm : Gm.moreZ (s[0]'hp).toNat = 3 := by unfold Gm.moreZ; rw [if_neg c0, if_neg c1, if_neg c2, if_pos c3]
            by_cases hl : 3 < s.size
            · exact one_m3 s w hp hs h hm hl c3.1 c3.2
            · rw [Gm.one_cut_zero (m := 3) (by rw [hn0]; exact hm) (by omega) (by omega)]
              exact one_cut s 3 w hp h hm (by omega) (by omega)
          · have hm : Gm.moreZ (s[0]'hp).toNat = -1 := by unfold Gm.moreZ; rw [if_neg c0, if_neg c1, if_neg c2, if_neg c3]
            rw [Gm.one_neg_zero (by rw [hn0]; exact hm)]
            exact one_neg s w hp h hm
  · have he : s.data.toList = [] := by
      apply List.length_eq_zero_iff.1
      rw [← Lib.size_eq]
      omega
    have e : Gm.one s.data.toList = 0 := by rw [he]; rfl
    rw [e]
    exact one_empty s w (by rw [Lib.toList_data, he]; rfl)

theorem one_is (s : ByteArray) (n : Nat) (w : World) (hs : s.size ≤ maxLen) (h : Gm.one s.data.toList = n) :
    Calls Try.prog 57 #[.string s] w fun e w' => e = .returned (.int .i64 n) ∧ Below w.heap.size w w' := by
  subst h; exact one_any s w hs

theorem one_bad {l : List UInt8} (h : l ≠ []) (hb : Gm.bad l = true) : Gm.one l = 0 := by
  unfold Gm.one; rw [if_neg h, hb]; rfl

theorem one_good {l : List UInt8} (h : l ≠ []) (hb : Gm.bad l = false) : Gm.one l = (Gm.dec l).2 := by
  unfold Gm.one; rw [if_neg h, hb]; rfl

set_option maxHeartbeats 1000000 in
theorem refCheck_any (s : ByteArray) (w : World) (hs : s.size ≤ maxLen) :
    Calls Try.prog 46 #[.string s] w fun e w' => e = .returned (.int .i64 (Gm.checkZ s.data.toList)) ∧ Below w.heap.size w w' := by
  have hs' := hs
  unfold maxLen at hs
  go_enter Try.func46, Try.ntmps46
  go_wp2
  go_loopw [3] (fun at' wr => ∃ (pos : Nat), at' = .int .i64 pos ∧ pos ≤ s.size ∧ Below w.heap.size w wr ∧ (Gm.check (s.data.toList.drop pos)).map (fun n => n + pos) = Gm.check s.data.toList) (fun at' _ => s.size - (intOf at').toNat)
  case atStart => exact ⟨0, rfl, by omega, Below.refl _ _, by simp⟩
  case round =>
    obtain ⟨pos, rfl, hps, hbel, hc⟩ := hrel
    have HC : Hid _ := hc
    clear hc
    by_cases hp : pos < s.size
    · have hp' : (pos : Int) < s.size := by omega
      have hne := drop_ne s pos hp
      have hce := Gm.check_eq _ hne
      have hw := Gm.dec_w (s.data.toList.drop pos)
      have hwl := Gm.dec_w_len _ hne
      rw [List.length_drop, ← Lib.size_eq] at hwl
      have hes : (s.extract pos s.size).size ≤ maxLen := by unfold maxLen; simp [ByteArray.size_extract]; omega
      have hed := toList_drop_end s pos
      have HE : Hid _ := hce
      cases hb : Gm.bad (s.data.toList.drop pos) with
      | true =>
        have HB : Hid _ := hb
        have HO : Hid (Gm.one (s.extract pos s.size).data.toList = 0) := by rw [hed]; exact one_bad hne hb
        clear hb hce hed
        go_wp2_with fail
        refine (one_is _ 0 _ hes HO.out).mono ?_
        rintro e W1 ⟨rfl, b1⟩
        go_wp2
        go_ret
        refine ⟨ret_int ?_, bthen hbel b1⟩
        have h1 := HC.out
        rw [HE.out, HB.out] at h1
        have h2 := checkZ_some h1.symm
        rw [h2]
        simp
      | false =>
        have HB : Hid _ := hb
        have HO : Hid (Gm.one (s.extract pos s.size).data.toList = (Gm.dec (s.data.toList.drop pos)).2) := by rw [hed]; exact one_good hne hb
        clear hb hce hed
        generalize hwd : (Gm.dec (s.data.toList.drop pos)).2 = wd at *
        have HWD : Hid _ := hwd
        clear hwd
        have hw0 : ((wd : Int) == 0) = false := by simp; omega
        go_wp2_with fail
        refine (one_is _ wd _ hes HO.out).mono ?_
        rintro e W1 ⟨rfl, b1⟩
        go_wp2
        go_roundw
        case rel =>
          refine ⟨pos + wd, by go_num, by omega, bthen hbel b1, ?_⟩
          have h1 := HC.out
          rw [HE.out, HB.out, drop_drop'] at h1
          rw [← h1]
          simp only [Bool.false_eq_true, if_false, Option.map_map]
          congr 1
          funext n
          simp only [Function.comp]
          omega
        case measure => simp [intOf]; omega
    · have hp' : ¬ (pos : Int) < s.size := by omega
      go_wp2
      go_ret
      refine ⟨ret_int ?_, hbel⟩
      have h1 := HC.out
      rw [drop_nil s pos hp, Gm.check_nil] at h1
      exact (checkZ_none h1.symm).symm

theorem refCheck_is (s : ByteArray) (z : Int) (w : World) (hs : s.size ≤ maxLen) (h : Gm.checkZ s.data.toList = z) :
    Calls Try.prog 46 #[.string s] w fun e w' => e = .returned (.int .i64 z) ∧ Below w.heap.size w w' := by
  subst h; exact refCheck_any s w hs

theorem less_step (a b : List UInt8) (k : Nat) (ha : k < a.length) (hb : k < b.length) (h : Gm.nth a k = Gm.nth b k) :
    Op.bytesLess (a.drop k) (b.drop k) = Op.bytesLess (a.drop (k + 1)) (b.drop (k + 1)) := by
  rw [List.drop_eq_getElem_cons ha, List.drop_eq_getElem_cons hb]
  have e : a[k] = b[k] := by
    apply UInt8.toNat_inj.1
    unfold Gm.nth at h
    simpa [List.getD_eq_getElem?_getD, ha, hb] using h
  simp only [Op.bytesLess]
  rw [e]
  simp

theorem less_diff (a b : List UInt8) (k : Nat) (ha : k < a.length) (hb : k < b.length) (h : Gm.nth a k ≠ Gm.nth b k) :
    Op.bytesLess (a.drop k) (b.drop k) = decide (Gm.nth a k < Gm.nth b k) := by
  rw [List.drop_eq_getElem_cons ha, List.drop_eq_getElem_cons hb]
  have ea : Gm.nth a k = a[k].toNat := by unfold Gm.nth; simp [List.getD_eq_getElem?_getD, ha]
  have eb : Gm.nth b k = b[k].toNat := by unfold Gm.nth; simp [List.getD_eq_getElem?_getD, hb]
  rw [ea, eb] at h ⊢
  have hne : (a[k] == b[k]) = false := by
    simp only [beq_eq_false_iff_ne, ne_eq]
    intro e
    exact h (by rw [e])
  simp only [Op.bytesLess, hne, Bool.false_and, Bool.or_false]
  rw [Bool.eq_iff_iff]
  simp [UInt8.lt_iff_toNat_lt]

set_option maxHeartbeats 1000000 in
theorem refLess_any (a b : ByteArray) (w : World) (ha : a.size ≤ maxLen) (hb : b.size ≤ maxLen) :
    Calls Try.prog 60 #[.string a, .string b] w fun e w' => e = .returned (.bool (Op.bytesLess a.toList b.toList)) ∧ Below w.heap.size w w' := by
  unfold maxLen at ha hb
  rw [Lib.toList_data, Lib.toList_data]
  generalize hR : Op.bytesLess a.data.toList b.data.toList = R
  have HR : Hid _ := hR
  clear hR
  go_enter Try.func60, Try.ntmps60
  go_wp2
  go_loopw [5] (fun i wr => ∃ k : Nat, i = .int .i64 k ∧ k ≤ a.size ∧ k ≤ b.size ∧ Op.bytesLess (a.data.toList.drop k) (b.data.toList.drop k) = R ∧ Below w.heap.size w wr) (fun i _ => a.size - (intOf i).toNat)
  case atStart => exact ⟨0, rfl, by omega, by omega, by simpa using HR.out, Below.refl _ _⟩
  case round =>
    obtain ⟨k, rfl, hka, hkb, hc, hbel⟩ := hrel
    have HC : Hid _ := hc
    clear hc
    have hla := Lib.size_eq a
    have hlb := Lib.size_eq b
    by_cases h1 : k < a.size
    · have h1' : (k : Int) < a.size := by omega
      by_cases h2 : k < b.size
      · have h2' : (k : Int) < b.size := by omega
        have na := nth_of a k h1
        have nb := nth_of b k h2
        have ca : (a[k]'h1).toNat < 256 := (a[k]'h1).toNat_lt
        have cb : (b[k]'h2).toNat < 256 := (b[k]'h2).toNat_lt
        have NA : Hid _ := na
        have NB : Hid _ := nb
        have LA : Hid _ := hla
        have LB : Hid _ := hlb
        clear na nb hla hlb
        by_cases he : (a[k]'h1).toNat = (b[k]'h2).toNat
        · have HE : Hid _ := he
          have hne : (((a[k]'h1).toNat : Int) != ((b[k]'h2).toNat : Int)) = false := by rw [HE.out]; simp
          clear he
          go_wp2
          go_quiet (fail)
          go_wp2
          go_roundw
          case rel =>
            refine ⟨k + 1, by go_num, by omega, by omega, ?_, below_drewN hbel _⟩
            rw [← less_step _ _ k (by rw [← LA.out]; exact h1) (by rw [← LB.out]; exact h2) (by rw [NA.out, NB.out]; exact HE.out)]
            exact HC.out
          case measure => simp [intOf]; omega
        · have HE : Hid _ := he
          have hne : (((a[k]'h1).toNat : Int) != ((b[k]'h2).toNat : Int)) = true := by
            rw [bne_iff_ne]; intro e; exact he (by omega)
          clear he
          go_wp2
          go_quiet (fail)
          go_wp2
          go_quiet (fail)
          go_wp2
          go_ret
          refine ⟨ret_bool ?_, below_drewN (below_drewN hbel _) _⟩
          have h3 := HC.out
          rw [less_diff _ _ k (by rw [← LA.out]; exact h1) (by rw [← LB.out]; exact h2) (by rw [NA.out, NB.out]; exact HE.out), NA.out, NB.out] at h3
          rw [← h3]
      · have h2' : ¬ (k : Int) < b.size := by omega
        have e1 : b.data.toList.drop k = [] := drop_nil b k h2
        have h3 := HC.out
        rw [e1] at h3
        have H3 : Hid _ := h3
        clear hla hlb h3 e1
        go_wp2
        go_ret
        refine ⟨ret_bool ?_, hbel⟩
        rw [← H3.out]
        cases hx : a.data.toList.drop k <;> simp [Op.bytesLess] <;> omega
    · have h1' : decide ((k : Int) < a.size) = false := by simp; omega
      have e1 : a.data.toList.drop k = [] := drop_nil a k h1
      have h3 := HC.out
      rw [e1] at h3
      have H3 : Hid _ := h3
      have hdl : (b.data.toList.drop k).length = b.size - k := by rw [List.length_drop, ← Lib.size_eq]
      have HDL : Hid _ := hdl
      clear hla hlb h3 e1 hdl
      go_wp2
      go_ret
      refine ⟨ret_bool ?_, hbel⟩
      rw [← H3.out]
      have hd := HDL.out
      cases hx : b.data.toList.drop k with
      | nil => rw [hx] at hd; simp at hd; simp [Op.bytesLess]; omega
      | cons y ys => rw [hx] at hd; simp at hd; simp [Op.bytesLess]; omega

end Go.Proofs.Ytpfbiklbecdmiaa
