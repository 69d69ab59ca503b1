/-
  THE WALKS over the document's own answer for layer 1: half, unit, bytes, escape.
-/
import Derived.Test.YtlkfdmcgcenliaaRefWalksD
set_option linter.unusedVariables false
set_option linter.unusedSimpArgs false
namespace Go.Proofs.Ytlkfdmcgcenliaa
open Go.RowKit

set_option maxHeartbeats 1000000 in
theorem bytes_any (r : Nat) (w : World) (hr : r ≤ 1114111) :
    Calls Try.prog 44 #[.int .i64 r] w fun e w' => e = .returned (.string ⟨(Gm.encZ r).toArray⟩) ∧ Below w.heap.size w w' := by
  have hbel : ∀ o, Below w.heap.size w (w.alloc o) := fun o => (Below.refl _ _).alloc (Nat.le_refl _) o
  unfold Gm.encZ
  by_cases g1 : r < 128
  · rw [if_pos g1]
    have g1' : (r : Int) < 128 := by omega
    have kc := conv1 w
    go_enter Try.func44, Try.ntmps44
    go_wp2
    go_ret
    refine ⟨ret_str ?_, hbel _⟩
    first | rfl | simp [Nat.toUInt8, UInt8.ofNat_add]
  · rw [if_neg g1]
    have g1' : ¬ (r : Int) < 128 := by omega
    by_cases g2 : r < 2048
    · rw [if_pos g2]
      have g2' : (r : Int) < 2048 := by omega
      have kc := conv2 w
      go_enter Try.func44, Try.ntmps44
      go_wp2
      go_ret
      refine ⟨ret_str ?_, hbel _⟩
      first | rfl | simp [Nat.toUInt8, UInt8.ofNat_add]
    · rw [if_neg g2]
      have g2' : ¬ (r : Int) < 2048 := by omega
      by_cases g3 : r < 65536
      · rw [if_pos g3]
        have g3' : (r : Int) < 65536 := by omega
        have kc := conv3 w
        go_enter Try.func44, Try.ntmps44
        go_wp2
        go_ret
        refine ⟨ret_str ?_, hbel _⟩
        first | rfl | simp [Nat.toUInt8, UInt8.ofNat_add]
      · rw [if_neg g3]
        have g3' : ¬ (r : Int) < 65536 := by omega
        have kc := conv4 w
        go_enter Try.func44, Try.ntmps44
        go_wp2
        go_ret
        refine ⟨ret_str ?_, hbel _⟩
        first | rfl | simp [Nat.toUInt8, UInt8.ofNat_add]

theorem bytes_int (z : Int) (r : Nat) (T : ByteArray) (w : World) (hz : z = r) (hr : r ≤ 1114111) (h : T.data.toList = Gm.encZ r) :
    Calls Try.prog 44 #[.int .i64 z] w fun e w' => e = .returned (.string T) ∧ Below w.heap.size w w' := by
  subst hz
  have := bytes_any r w hr
  rw [← h, str_eta] at this
  exact this

def halfZ (o : Option Int) : Int := match o with | none => -1 | some d => d
theorem half_any (c : Nat) (w : World) (hc : c < 256) :
    Calls Try.prog 48 #[.int .u8 c] w fun e w' => e = .returned (.int .i64 (halfZ (Gm.digit c))) ∧ w' = w := by
  unfold Gm.digit
  by_cases h1 : 48 ≤ c
  · have g1 : 48 ≤ (c : Int) := by omega
    by_cases h2 : c ≤ 57
    · have g2 : (c : Int) ≤ 57 := by omega
      rw [if_pos ⟨g1, g2⟩]
      go_enter Try.func48, Try.ntmps48
      go_wp2
      go_ret
      exact ⟨rfl, rfl⟩
    · have g2 : ¬ (c : Int) ≤ 57 := by omega
      rw [if_neg (by omega)]
      by_cases h3 : 97 ≤ c
      · have g3 : 97 ≤ (c : Int) := by omega
        by_cases h4 : c ≤ 102
        · have g4 : (c : Int) ≤ 102 := by omega
          rw [if_pos ⟨g3, g4⟩]
          go_enter Try.func48, Try.ntmps48
          go_wp2
          go_ret
          exact ⟨ret_int (by simp only [halfZ]; omega), rfl⟩
        · have g4 : ¬ (c : Int) ≤ 102 := by omega
          have g5 : 65 ≤ (c : Int) := by omega
          have g6 : ¬ (c : Int) ≤ 70 := by omega
          rw [if_neg (by omega), if_neg (by omega)]
          go_enter Try.func48, Try.ntmps48
          go_wp2
          go_ret
          exact ⟨rfl, rfl⟩
      · have g3 : decide (97 ≤ (c : Int)) = false := by simp; omega
        rw [if_neg (by omega)]
        by_cases h5 : 65 ≤ c
        · have g5 : 65 ≤ (c : Int) := by omega
          by_cases h6 : c ≤ 70
          · have g6 : (c : Int) ≤ 70 := by omega
            rw [if_pos ⟨g5, g6⟩]
            go_enter Try.func48, Try.ntmps48
            go_wp2
            go_ret
            exact ⟨ret_int (by simp only [halfZ]; omega), rfl⟩
          · have g6 : ¬ (c : Int) ≤ 70 := by omega
            rw [if_neg (by omega)]
            go_enter Try.func48, Try.ntmps48
            go_wp2
            go_ret
            exact ⟨rfl, rfl⟩
        · have g5 : decide (65 ≤ (c : Int)) = false := by simp; omega
          rw [if_neg (by omega)]
          go_enter Try.func48, Try.ntmps48
          go_wp2
          go_ret
          exact ⟨rfl, rfl⟩
  · have g1 : decide (48 ≤ (c : Int)) = false := by simp; omega
    have g3 : decide (97 ≤ (c : Int)) = false := by simp; omega
    have g5 : decide (65 ≤ (c : Int)) = false := by simp; omega
    rw [if_neg (by omega), if_neg (by omega), if_neg (by omega)]
    go_enter Try.func48, Try.ntmps48
    go_wp2
    go_ret
    exact ⟨rfl, rfl⟩
theorem half_is (c : Nat) (z : Int) (w : World) (hc : c < 256) (h : halfZ (Gm.digit c) = z) :
    Calls Try.prog 48 #[.int .u8 c] w fun e w' => e = .returned (.int .i64 z) ∧ w' = w := by
  subst h; exact half_any c w hc

theorem unit_short (s : ByteArray) (w : World) (h : s.size < 6) :
    Calls Try.prog 43 #[.string s] w fun e w' => e = .returned (.int .i64 (-1)) ∧ w' = w := by
  go_enter Try.func43, Try.ntmps43
  go_wp2
  go_ret
  exact ⟨rfl, rfl⟩
theorem unit_noPre (s : ByteArray) (w : World) (hs : s.size ≤ maxLen) (h : 6 ≤ s.size) (hp : ((s.extract 0 2).toList == [92, 117]) = false) :
    Calls Try.prog 43 #[.string s] w fun e w' => e = .returned (.int .i64 (-1)) ∧ w' = w := by
  unfold maxLen at hs
  have h6 : ¬ ((s.size : Int) < 6) := by omega
  go_enter Try.func43, Try.ntmps43
  go_wp2
  go_ret
  exact ⟨rfl, rfl⟩

set_option maxHeartbeats 1000000 in
theorem unit_pre (s : ByteArray) (w : World) (hs : s.size ≤ maxLen) (h : 6 ≤ s.size) (hp : ((s.extract 0 2).toList == [92, 117]) = true) :
    Calls Try.prog 43 #[.string s] w fun e w' => e = .returned (.int .i64 (halfZ (Gm.fourTo s.data.toList 4))) ∧ w' = w := by
  unfold maxLen at hs
  have h6 : ¬ ((s.size : Int) < 6) := by omega
  go_enter Try.func43, Try.ntmps43
  go_wp2
  go_loop [3, 4] (fun n i => ∃ (k m : Nat) (v : Int), m = 2 + k ∧ i = .int .i64 m ∧ n = .int .i64 v ∧ k ≤ 4 ∧ Gm.fourTo s.data.toList k = some v) (fun _ i => 6 - (intOf i).toNat)
  case atStart => exact ⟨0, 2, 0, rfl, rfl, rfl, by omega, rfl⟩
  case round =>
    obtain ⟨k, m, v, hm, rfl, rfl, hk, hc⟩ := hrel
    obtain ⟨hv0, hv1⟩ := Gm.fourTo_bd s.data.toList k v hk hc
    have hv2 : v < 65536 := by
      have : (16 : Int) ^ k ≤ 16 ^ 4 := by
        have : k = 0 ∨ k = 1 ∨ k = 2 ∨ k = 3 ∨ k = 4 := by omega
        rcases this with rfl | rfl | rfl | rfl | rfl <;> decide
      have e : (16 : Int) ^ 4 = 65536 := by decide
      omega
    have HC : Hid _ := hc
    clear hc hv1
    by_cases hlt : m < 6
    · have hlt' : (m : Int) < 6 := by omega
      have hms : m < s.size := by omega
      have hn := nth_of s m hms
      have hb : (s[m]'hms).toNat < 256 := (s[m]'hms).toNat_lt
      have HM : Hid _ := hm
      have HN : Hid _ := hn
      clear hn
      cases hd : Gm.digit ((s[m]'hms).toNat : Int) with
      | none =>
        have HD : Hid (halfZ (Gm.digit ((s[m]'hms).toNat : Int)) = -1) := by rw [hd]; rfl
        have HD2 : Hid _ := hd
        clear hd hm
        go_wp2_with fail
        refine (half_is _ (-1) _ hb HD.out).mono ?_
        rintro e w ⟨rfl, rfl⟩
        go_wp2
        go_ret
        refine ⟨ret_int ?_, rfl⟩
        have : Gm.fourTo s.data.toList 4 = none := by
          have h1 := Gm.fourTo_none s.data.toList (k + 1) (3 - k) (Gm.fourTo_bad _ _ (by rw [← HM.out, HN.out]; exact HD2.out))
          rw [show k + 1 + (3 - k) = 4 from by have := HM.out; omega] at h1
          exact h1
        rw [this]
        rfl
      | some d =>
        obtain ⟨d0, d1, _, _⟩ := Gm.digit_bd hd
        have HD : Hid (halfZ (Gm.digit ((s[m]'hms).toNat : Int)) = d) := by rw [hd]; rfl
        have HD2 : Hid _ := hd
        clear hd hm
        go_wp2_with fail
        refine (half_is _ d _ hb HD.out).mono ?_
        rintro e w ⟨rfl, rfl⟩
        have hdn : ¬ d < 0 := by omega
        go_wp2
        go_round
        case rel =>
          have hm := HM.out
          refine ⟨k + 1, m + 1, v * 16 + d, by omega, by go_num, ?_, by omega, Gm.fourTo_step _ _ _ _ HC.out (by rw [← hm, HN.out]; exact HD2.out)⟩
          rw [show (16 : Int) * v = v * 16 from Int.mul_comm _ _]
        case measure => simp [intOf]; omega
    · have hlt' : ¬ (m : Int) < 6 := by omega
      have hk4 : k = 4 := by omega
      subst hk4
      clear hm
      go_wp2
      go_ret
      refine ⟨ret_int ?_, rfl⟩
      rw [HC.out]
      rfl

theorem pre_two (s : ByteArray) (h : 6 ≤ s.size) : ((s.extract 0 2).toList == [92, 117]) = decide (Gm.nth s.data.toList 0 = 92 ∧ Gm.nth s.data.toList 1 = 117) := by
  have e : (s.extract 0 2).toList = s.data.toList.take 2 := by rw [Lib.toList_data, Lib.extract_data]; rfl
  have hl : 6 ≤ s.data.toList.length := by rw [← Lib.size_eq]; exact h
  rw [e]
  cases hx : s.data.toList with
  | nil => rw [hx] at hl; simp at hl
  | cons a t =>
    cases hy : t with
    | nil => rw [hx, hy] at hl; simp at hl
    | cons b u =>
      rw [Bool.eq_iff_iff]
      simp only [List.take_succ_cons, List.take_zero, beq_iff_eq, List.cons.injEq, and_true, decide_eq_true_eq, Gm.nth_cons_zero, Gm.nth_cons_succ, Gm.nth, List.getD_cons_zero, List.getD_cons_succ]
      constructor
      · rintro ⟨rfl, rfl⟩; exact ⟨rfl, rfl⟩
      · rintro ⟨h0, h1⟩; exact ⟨UInt8.toNat_inj.1 h0, UInt8.toNat_inj.1 h1⟩

theorem unit_any (s : ByteArray) (w : World) (hs : s.size ≤ maxLen) :
    Calls Try.prog 43 #[.string s] w fun e w' => e = .returned (.int .i64 (halfZ (Gm.four s.data.toList))) ∧ w' = w := by
  by_cases h : s.size < 6
  · have e : Gm.four s.data.toList = none := by
      unfold Gm.four
      rw [if_neg (by rw [← Lib.size_eq]; omega)]
    rw [e]
    exact unit_short s w h
  · have hp := pre_two s (by omega)
    by_cases hd : Gm.nth s.data.toList 0 = 92 ∧ Gm.nth s.data.toList 1 = 117
    · have e : Gm.four s.data.toList = Gm.fourTo s.data.toList 4 := by
        unfold Gm.four
        rw [if_pos ⟨by rw [← Lib.size_eq]; omega, hd⟩]
      rw [e]
      exact unit_pre s w hs (by omega) (by rw [hp]; simp [hd])
    · have e : Gm.four s.data.toList = none := by
        unfold Gm.four
        rw [if_neg (fun x => hd x.2)]
      rw [e]
      exact unit_noPre s w hs (by omega) (by rw [hp]; simpa using hd)
theorem unit_is (s : ByteArray) (z : Int) (w : World) (hs : s.size ≤ maxLen) (h : halfZ (Gm.four s.data.toList) = z) :
    Calls Try.prog 43 #[.string s] w fun e w' => e = .returned (.int .i64 z) ∧ w' = w := by
  subst h; exact unit_any s w hs

end Go.Proofs.Ytlkfdmcgcenliaa
