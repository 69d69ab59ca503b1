/-
  THE WALK of DiskSteps (layer 9).
-/
import Derived.Test.YtmbjlnnoemenoaaKLasts0
set_option linter.unusedVariables false
set_option linter.unusedSimpArgs false
set_option maxRecDepth 100000
namespace Go.Proofs.Ytmbjlnnoemenoaa
open Go.RowKit Go.Maps Dk

theorem ap0F {room left : Nat} {b : Bs} (h : b.length ≤ room) : append ⟨room, [], true, left, false⟩ [102] b = (if left < b.length then 21 else 0, pG room (b.take (min left b.length)) 0 true (left - b.length) (decide (left < b.length))) := by
  have h1 : ¬ room < b.length := by omega
  have h2 : (min left b.length < b.length) = (left < b.length) := propext (by omega)
  simp [Dk.append, Dk.get, Dk.made, Dk.ins, Dk.upd, Dk.used, Dk.steps, Dk.gone, h1, h2]
theorem ctF {room last left : Nat} {all : Bs} : cut (pG room all last true left false) [102] 0 = (if left < 1 then 21 else 0, if left < 1 then pG room all last true 0 true else pG room [] 0 true (left - 1) false) := by
  by_cases h : left = 0
  · subst h; simp [Dk.cut, Dk.get, Dk.upd, Dk.steps, Dk.gone]
  · have h1 : ¬ left < 1 := by omega
    have h2 : min left 1 = 1 := by omega
    simp [Dk.cut, Dk.get, Dk.upd, Dk.steps, Dk.gone, h1, h2]
theorem crT {room last left : Nat} {all : Bs} {fused dead : Bool} (hl : last ≤ all.length) (h : all.length ≤ 1000) : crash (pG room all last fused left dead) 1000 = pG room all all.length false 0 false := by
  rw [cr1]
  have h1 : last + min (1000 : Int).toNat (all.length - last) = all.length := by
    have : (1000 : Int).toNat = 1000 := rfl
    omega
  rw [h1, List.take_length]

set_option maxHeartbeats 8000000 in
theorem diskSteps_walk (a0 : ByteArray) (a1 : ByteArray) (a2 : Int) (w0 : a0.size ≤ 140737488355328) (w1 : a1.size ≤ 140737488355328) (w2 : (Lit.int .u8 a2).wf = true) (w : World) :
    Calls Try.prog 9 #[.string a0, .string a1, .int .u8 a2] w fun e w' => e = .returned (.bool true) ∧ Below w.heap.size w w' := by
  have hw : IntKind.i64.wrap ((a0.size : Int) + a1.size) = (a0.size : Int) + a1.size := by rw [IntKind.wrap_i64]; omega
  have b2 := byte_of_wf w2
  clear w0 w1 w2
  obtain ⟨n, rfl⟩ : ∃ n : Nat, a2 = n := ⟨a2.toNat, by omega⟩
  have hn : n < 256 := by omega
  clear b2
  have l0 := bs_len a0
  have l1 := bs_len a1
  by_cases hs : (200 : Int) < (a0.size : Int) + a1.size
  · clear hn l0 l1
    go_enter Try.func9, Try.ntmps9
    go_wp2_with fail
    refine (known_any w).mono ?_
    rintro e w3 ⟨rfl, b3⟩
    have B3 := hide b3
    clear b3
    go_wp2_with fail
    go_ret
    exact ⟨rfl, B3.out⟩
  · have hw1 : IntKind.i64.wrap ((a0.size : Int) + 1) = (a0.size : Int) + 1 := by rw [IntKind.wrap_i64]; omega
    have hw2 : IntKind.i64.wrap ((a0.size : Int) + 1 + a1.size) = (a0.size : Int) + 1 + a1.size := by rw [IntKind.wrap_i64]; omega
    have hw3 : IntKind.i64.wrap ((a0.size : Int) + a1.size + 2) = (a0.size : Int) + a1.size + 2 := by rw [IntKind.wrap_i64]; omega
    have e0 : fuse (new 1000) n = ⟨1000, [], true, n, false⟩ := by rw [new_1000]; simp [Dk.fuse]
    have E0 := hide e0
    clear e0
    have hfull : (bs a0 ++ bs a1).length = a0.size + a1.size := by rw [List.length_append, l0, l1]
    rcases Nat.lt_or_ge n a0.size with h1 | h1
    · have e1 := ap0F (room := 1000) (left := n) (b := bs a0) (by omega)
      rw [if_pos (by omega), show min n (bs a0).length = n by omega, show n - (bs a0).length = 0 by omega, decide_eq_true (by omega)] at e1
      have e2 : sync (pG 1000 ((bs a0).take n) 0 true 0 true) [102] = (21, pG 1000 ((bs a0).take n) 0 true 0 true) := rfl
      have e3 : append (pG 1000 ((bs a0).take n) 0 true 0 true) [102] (bs a1) = (21, pG 1000 ((bs a0).take n) 0 true 0 true) := append_dead rfl
      have e4 : cut (pG 1000 ((bs a0).take n) 0 true 0 true) [102] 0 = (21, pG 1000 ((bs a0).take n) 0 true 0 true) := rfl
      have e5 : crash (pG 1000 ((bs a0).take n) 0 true 0 true) 1000 = pG 1000 ((bs a0).take n) ((bs a0).take n).length false 0 false := crT (Nat.zero_le _) (by rw [List.length_take]; omega)
      have e6 : read (pG 1000 ((bs a0).take n) ((bs a0).take n).length false 0 false) [102] = bs (a0.extract 0 n) := by rw [read_all, bs_front]
      have d0 : decide (a0.size ≤ n) = false := by simp; omega
      have d1 : decide (a0.size + 1 ≤ n) = false := by simp; omega
      have d2 : decide (a0.size + 1 + a1.size ≤ n) = false := by simp; omega
      have d3 : decide (a0.size + a1.size + 2 ≤ n) = false := by simp; omega
      have d4 : decide (n < a0.size + a1.size + 2) = true := by simp; omega
      have d5 : decide (n ≤ a0.size) = true := by simp; omega
      have d6 : decide (n ≤ a0.size + 1 + a1.size) = true := by simp; omega
      have i0 : ¬ ((a0.size : Int) ≤ n) := by omega
      have i1 : ¬ ((a0.size : Int) + 1 ≤ n) := by omega
      have i2 : ¬ ((a0.size : Int) + 1 + a1.size ≤ n) := by omega
      have i3 : ¬ ((a0.size : Int) + a1.size + 2 ≤ n) := by omega
      have i4 : ((n : Int) < (a0.size : Int) + a1.size + 2) := by omega
      have i5 : ((n : Int) ≤ a0.size) := by omega
      have i6 : ((n : Int) ≤ (a0.size : Int) + 1 + a1.size) := by omega
      have E1 := hide e1
      have E2 := hide e2
      have E3 := hide e3
      have E4 := hide e4
      have E5 := hide e5
      have E6 := hide e6
      clear e1 e2 e3 e4 e5 e6 l0 l1 hfull
      go_enter Try.func9, Try.ntmps9
      go_wp2_with fail
      refine (new_st 1000 (Below.refl w.heap.size w) (Nat.le_refl _) (by decide)).mono ?_
      rintro e w1 ⟨d, rfl, h1⟩
      have H1 := hide h1
      clear h1
      go_wp2_with fail
      refine (fuse_st H1.out n (by omega)).mono ?_
      rintro e w2 ⟨rfl, h2⟩
      rw [E0.out] at h2
      have H2 := hide h2
      clear h2 H1
      go_wp2_with fail
      refine (append_st H2.out nF a0 (by decide) E1.out).mono ?_
      rintro e w3 ⟨rfl, h3⟩
      have H3 := hide h3
      clear h3 H2
      go_wp2_with fail
      refine (sync_st H3.out nF (by decide) E2.out).mono ?_
      rintro e w4 ⟨rfl, h4⟩
      have H4 := hide h4
      clear h4 H3
      go_wp2_with fail
      refine (append_st H4.out nF a1 (by decide) E3.out).mono ?_
      rintro e w5 ⟨rfl, h5⟩
      have H5 := hide h5
      clear h5 H4
      go_wp2_with fail
      refine (cut_st H5.out nF 0 (by decide) E4.out).mono ?_
      rintro e w6 ⟨rfl, h6⟩
      have H6 := hide h6
      clear h6 H5
      go_wp2_with fail
      refine (dead_st H6.out).mono ?_
      rintro e w7 ⟨rfl, h7⟩
      have H7 := hide h7
      clear h7 H6
      go_wp2_with fail
      refine (crash_st H7.out 1000 (by decide) E5.out).mono ?_
      rintro e w8 ⟨rfl, h8⟩
      have H8 := hide h8
      clear h8 H7
      go_wp2_with fail
      refine (known_any _).mono ?_
      rintro e w9 ⟨rfl, h9⟩
      have H9 := hide (H8.out.below h9)
      clear h9 H8 E0 E1 E2 E3 E4 E5
      go_wp2_with fail
      refine (read_st H9.out nF (by decide) (l := a0.extract 0 n) E6.out).mono ?_
      rintro e w10 ⟨rfl, h10⟩
      have H10 := hide h10
      clear h10 H9
      go_wp2_with fail
      go_ret
      refine ⟨?_, H10.out.out⟩
      first | rfl | (simp; omega)
    rcases Nat.lt_or_ge n (a0.size + 1) with h2 | h2
    · have hna : n = a0.size := by omega
      have e1 := ap0F (room := 1000) (left := n) (b := bs a0) (by omega)
      rw [if_neg (by omega), show min n (bs a0).length = (bs a0).length by omega, show n - (bs a0).length = 0 by omega, decide_eq_false (by omega), List.take_length] at e1
      have e2 : sync (pG 1000 (bs a0) 0 true 0 false) [102] = (21, pG 1000 (bs a0) 0 true 0 true) := rfl
      have e3 : append (pG 1000 (bs a0) 0 true 0 true) [102] (bs a1) = (21, pG 1000 (bs a0) 0 true 0 true) := append_dead rfl
      have e4 : cut (pG 1000 (bs a0) 0 true 0 true) [102] 0 = (21, pG 1000 (bs a0) 0 true 0 true) := rfl
      have e5 : crash (pG 1000 (bs a0) 0 true 0 true) 1000 = pG 1000 (bs a0) (bs a0).length false 0 false := crT (Nat.zero_le _) (by omega)
      have e6 : read (pG 1000 (bs a0) (bs a0).length false 0 false) [102] = bs (a0.extract 0 n) := by rw [read_all, bs_front, hna, ← l0, List.take_length]
      clear hna
      have d0 : decide (a0.size ≤ n) = true := by simp; omega
      have d1 : decide (a0.size + 1 ≤ n) = false := by simp; omega
      have d2 : decide (a0.size + 1 + a1.size ≤ n) = false := by simp; omega
      have d3 : decide (a0.size + a1.size + 2 ≤ n) = false := by simp; omega
      have d4 : decide (n < a0.size + a1.size + 2) = true := by simp; omega
      have d5 : decide (n ≤ a0.size) = true := by simp; omega
      have d6 : decide (n ≤ a0.size + 1 + a1.size) = true := by simp; omega
      have i0 : ((a0.size : Int) ≤ n) := by omega
      have i1 : ¬ ((a0.size : Int) + 1 ≤ n) := by omega
      have i2 : ¬ ((a0.size : Int) + 1 + a1.size ≤ n) := by omega
      have i3 : ¬ ((a0.size : Int) + a1.size + 2 ≤ n) := by omega
      have i4 : ((n : Int) < (a0.size : Int) + a1.size + 2) := by omega
      have i5 : ((n : Int) ≤ a0.size) := by omega
      have i6 : ((n : Int) ≤ (a0.size : Int) + 1 + a1.size) := by omega
      have E1 := hide e1
      have E2 := hide e2
      have E3 := hide e3
      have E4 := hide e4
      have E5 := hide e5
      have E6 := hide e6
      clear e1 e2 e3 e4 e5 e6 l0 l1 hfull
      go_enter Try.func9, Try.ntmps9
      go_wp2_with fail
      refine (new_st 1000 (Below.refl w.heap.size w) (Nat.le_refl _) (by decide)).mono ?_
      rintro e w1 ⟨d, rfl, h1⟩
      have H1 := hide h1
      clear h1
      go_wp2_with fail
      refine (fuse_st H1.out n (by omega)).mono ?_
      rintro e w2 ⟨rfl, h2⟩
      rw [E0.out] at h2
      have H2 := hide h2
      clear h2 H1
      go_wp2_with fail
      refine (append_st H2.out nF a0 (by decide) E1.out).mono ?_
      rintro e w3 ⟨rfl, h3⟩
      have H3 := hide h3
      clear h3 H2
      go_wp2_with fail
      refine (sync_st H3.out nF (by decide) E2.out).mono ?_
      rintro e w4 ⟨rfl, h4⟩
      have H4 := hide h4
      clear h4 H3
      go_wp2_with fail
      refine (append_st H4.out nF a1 (by decide) E3.out).mono ?_
      rintro e w5 ⟨rfl, h5⟩
      have H5 := hide h5
      clear h5 H4
      go_wp2_with fail
      refine (cut_st H5.out nF 0 (by decide) E4.out).mono ?_
      rintro e w6 ⟨rfl, h6⟩
      have H6 := hide h6
      clear h6 H5
      go_wp2_with fail
      refine (dead_st H6.out).mono ?_
      rintro e w7 ⟨rfl, h7⟩
      have H7 := hide h7
      clear h7 H6
      go_wp2_with fail
      refine (crash_st H7.out 1000 (by decide) E5.out).mono ?_
      rintro e w8 ⟨rfl, h8⟩
      have H8 := hide h8
      clear h8 H7
      go_wp2_with fail
      refine (known_any _).mono ?_
      rintro e w9 ⟨rfl, h9⟩
      have H9 := hide (H8.out.below h9)
      clear h9 H8 E0 E1 E2 E3 E4 E5
      go_wp2_with fail
      refine (read_st H9.out nF (by decide) (l := a0.extract 0 n) E6.out).mono ?_
      rintro e w10 ⟨rfl, h10⟩
      have H10 := hide h10
      clear h10 H9
      go_wp2_with fail
      go_ret
      refine ⟨?_, H10.out.out⟩
      first | rfl | (simp; omega)
    obtain ⟨j, hj⟩ : ∃ j, n = a0.size + 1 + j := ⟨n - a0.size - 1, by omega⟩
    rcases Nat.lt_or_ge j a1.size with h3 | h3
    · have e1 := ap0F (room := 1000) (left := n) (b := bs a0) (by omega)
      rw [if_neg (by omega), show min n (bs a0).length = (bs a0).length by omega, show n - (bs a0).length = j + 1 by omega, decide_eq_false (by omega), List.take_length] at e1
      have e2 := syF (room := 1000) (last := 0) (left := j + 1) (all := bs a0)
      rw [if_neg (by omega), if_neg (by omega), show j + 1 - 1 = j by omega, decide_eq_false (by omega)] at e2
      have e3 := apF (room := 1000) (last := (bs a0).length) (left := j) (all := bs a0) (b := bs a1) (by omega)
      rw [if_pos (by omega), show min j (bs a1).length = j by omega, show j - (bs a1).length = 0 by omega, decide_eq_true (by omega)] at e3
      have e4 : cut (pG 1000 (bs a0 ++ (bs a1).take j) (bs a0).length true 0 true) [102] 0 = (21, pG 1000 (bs a0 ++ (bs a1).take j) (bs a0).length true 0 true) := rfl
      have e5 : crash (pG 1000 (bs a0 ++ (bs a1).take j) (bs a0).length true 0 true) 1000 = pG 1000 (bs a0 ++ (bs a1).take j) (bs a0 ++ (bs a1).take j).length false 0 false := crT (by rw [List.length_append]; omega) (by rw [List.length_append, List.length_take]; omega)
      have e6 : read (pG 1000 (bs a0 ++ (bs a1).take j) (bs a0 ++ (bs a1).take j).length false 0 false) [102] = bs (a0 ++ a1.extract 0 j) := by rw [read_all, bs_append, bs_front]
      have d0 : decide (a0.size ≤ n) = true := by simp; omega
      have d1 : decide (a0.size + 1 ≤ n) = true := by simp; omega
      have d2 : decide (a0.size + 1 + a1.size ≤ n) = false := by simp; omega
      have d3 : decide (a0.size + a1.size + 2 ≤ n) = false := by simp; omega
      have d4 : decide (n < a0.size + a1.size + 2) = true := by simp; omega
      have d5 : decide (n ≤ a0.size) = false := by simp; omega
      have d6 : decide (n ≤ a0.size + 1 + a1.size) = true := by simp; omega
      have i0 : ((a0.size : Int) ≤ n) := by omega
      have i1 : ((a0.size : Int) + 1 ≤ n) := by omega
      have i2 : ¬ ((a0.size : Int) + 1 + a1.size ≤ n) := by omega
      have i3 : ¬ ((a0.size : Int) + a1.size + 2 ≤ n) := by omega
      have i4 : ((n : Int) < (a0.size : Int) + a1.size + 2) := by omega
      have i5 : ¬ ((n : Int) ≤ a0.size) := by omega
      have i6 : ((n : Int) ≤ (a0.size : Int) + 1 + a1.size) := by omega
      have hwj : IntKind.i64.wrap ((n : Int) - a0.size) = (n : Int) - a0.size := by rw [IntKind.wrap_i64]; omega
      have hwk : IntKind.i64.wrap ((n : Int) - a0.size - 1) = (j : Int) := by rw [IntKind.wrap_i64]; omega
      have hjl : (j : Int) ≤ a1.size := by omega
      have hjn : j ≤ a1.size := by omega
      clear hj
      have E1 := hide e1
      have E2 := hide e2
      have E3 := hide e3
      have E4 := hide e4
      have E5 := hide e5
      have E6 := hide e6
      clear e1 e2 e3 e4 e5 e6 l0 l1 hfull
      go_enter Try.func9, Try.ntmps9
      go_wp2_with fail
      refine (new_st 1000 (Below.refl w.heap.size w) (Nat.le_refl _) (by decide)).mono ?_
      rintro e w1 ⟨d, rfl, h1⟩
      have H1 := hide h1
      clear h1
      go_wp2_with fail
      refine (fuse_st H1.out n (by omega)).mono ?_
      rintro e w2 ⟨rfl, h2⟩
      rw [E0.out] at h2
      have H2 := hide h2
      clear h2 H1
      go_wp2_with fail
      refine (append_st H2.out nF a0 (by decide) E1.out).mono ?_
      rintro e w3 ⟨rfl, h3⟩
      have H3 := hide h3
      clear h3 H2
      go_wp2_with fail
      refine (sync_st H3.out nF (by decide) E2.out).mono ?_
      rintro e w4 ⟨rfl, h4⟩
      have H4 := hide h4
      clear h4 H3
      go_wp2_with fail
      refine (append_st H4.out nF a1 (by decide) E3.out).mono ?_
      rintro e w5 ⟨rfl, h5⟩
      have H5 := hide h5
      clear h5 H4
      go_wp2_with fail
      refine (cut_st H5.out nF 0 (by decide) E4.out).mono ?_
      rintro e w6 ⟨rfl, h6⟩
      have H6 := hide h6
      clear h6 H5
      go_wp2_with fail
      refine (dead_st H6.out).mono ?_
      rintro e w7 ⟨rfl, h7⟩
      have H7 := hide h7
      clear h7 H6
      go_wp2_with fail
      refine (crash_st H7.out 1000 (by decide) E5.out).mono ?_
      rintro e w8 ⟨rfl, h8⟩
      have H8 := hide h8
      clear h8 H7
      go_wp2_with fail
      refine (known_any _).mono ?_
      rintro e w9 ⟨rfl, h9⟩
      have H9 := hide (H8.out.below h9)
      clear h9 H8 E0 E1 E2 E3 E4 E5
      go_wp2_with fail
      refine (read_st H9.out nF (by decide) (l := a0 ++ a1.extract 0 j) E6.out).mono ?_
      rintro e w10 ⟨rfl, h10⟩
      have H10 := hide h10
      clear h10 H9
      go_wp2_with fail
      go_ret
      refine ⟨?_, H10.out.out⟩
      first | rfl | (simp; omega)
    rcases Nat.lt_or_ge j (a1.size + 1) with h4 | h4
    · have e1 := ap0F (room := 1000) (left := n) (b := bs a0) (by omega)
      rw [if_neg (by omega), show min n (bs a0).length = (bs a0).length by omega, show n - (bs a0).length = j + 1 by omega, decide_eq_false (by omega), List.take_length] at e1
      have e2 := syF (room := 1000) (last := 0) (left := j + 1) (all := bs a0)
      rw [if_neg (by omega), if_neg (by omega), show j + 1 - 1 = j by omega, decide_eq_false (by omega)] at e2
      have e3 := apF (room := 1000) (last := (bs a0).length) (left := j) (all := bs a0) (b := bs a1) (by omega)
      rw [if_neg (by omega), show min j (bs a1).length = (bs a1).length by omega, show j - (bs a1).length = 0 by omega, decide_eq_false (by omega), List.take_length] at e3
      have e4 := ctF (room := 1000) (last := (bs a0).length) (left := 0) (all := bs a0 ++ bs a1)
      rw [if_pos (by omega), if_pos (by omega)] at e4
      have e5 : crash (pG 1000 (bs a0 ++ bs a1) (bs a0).length true 0 true) 1000 = pG 1000 (bs a0 ++ bs a1) (bs a0 ++ bs a1).length false 0 false := crT (by rw [List.length_append]; omega) (by rw [List.length_append]; omega)
      have hja : j = a1.size := by omega
      have e6 : read (pG 1000 (bs a0 ++ bs a1) (bs a0 ++ bs a1).length false 0 false) [102] = bs (a0 ++ a1.extract 0 j) := by rw [read_all, bs_append, bs_front, hja, ← l1, List.take_length]
      clear hja
      have d0 : decide (a0.size ≤ n) = true := by simp; omega
      have d1 : decide (a0.size + 1 ≤ n) = true := by simp; omega
      have d2 : decide (a0.size + 1 + a1.size ≤ n) = true := by simp; omega
      have d3 : decide (a0.size + a1.size + 2 ≤ n) = false := by simp; omega
      have d4 : decide (n < a0.size + a1.size + 2) = true := by simp; omega
      have d5 : decide (n ≤ a0.size) = false := by simp; omega
      have d6 : decide (n ≤ a0.size + 1 + a1.size) = true := by simp; omega
      have i0 : ((a0.size : Int) ≤ n) := by omega
      have i1 : ((a0.size : Int) + 1 ≤ n) := by omega
      have i2 : ((a0.size : Int) + 1 + a1.size ≤ n) := by omega
      have i3 : ¬ ((a0.size : Int) + a1.size + 2 ≤ n) := by omega
      have i4 : ((n : Int) < (a0.size : Int) + a1.size + 2) := by omega
      have i5 : ¬ ((n : Int) ≤ a0.size) := by omega
      have i6 : ((n : Int) ≤ (a0.size : Int) + 1 + a1.size) := by omega
      have hwj : IntKind.i64.wrap ((n : Int) - a0.size) = (n : Int) - a0.size := by rw [IntKind.wrap_i64]; omega
      have hwk : IntKind.i64.wrap ((n : Int) - a0.size - 1) = (j : Int) := by rw [IntKind.wrap_i64]; omega
      have hjl : (j : Int) ≤ a1.size := by omega
      have hjn : j ≤ a1.size := by omega
      clear hj
      have E1 := hide e1
      have E2 := hide e2
      have E3 := hide e3
      have E4 := hide e4
      have E5 := hide e5
      have E6 := hide e6
      clear e1 e2 e3 e4 e5 e6 l0 l1 hfull
      go_enter Try.func9, Try.ntmps9
      go_wp2_with fail
      refine (new_st 1000 (Below.refl w.heap.size w) (Nat.le_refl _) (by decide)).mono ?_
      rintro e w1 ⟨d, rfl, h1⟩
      have H1 := hide h1
      clear h1
      go_wp2_with fail
      refine (fuse_st H1.out n (by omega)).mono ?_
      rintro e w2 ⟨rfl, h2⟩
      rw [E0.out] at h2
      have H2 := hide h2
      clear h2 H1
      go_wp2_with fail
      refine (append_st H2.out nF a0 (by decide) E1.out).mono ?_
      rintro e w3 ⟨rfl, h3⟩
      have H3 := hide h3
      clear h3 H2
      go_wp2_with fail
      refine (sync_st H3.out nF (by decide) E2.out).mono ?_
      rintro e w4 ⟨rfl, h4⟩
      have H4 := hide h4
      clear h4 H3
      go_wp2_with fail
      refine (append_st H4.out nF a1 (by decide) E3.out).mono ?_
      rintro e w5 ⟨rfl, h5⟩
      have H5 := hide h5
      clear h5 H4
      go_wp2_with fail
      refine (cut_st H5.out nF 0 (by decide) E4.out).mono ?_
      rintro e w6 ⟨rfl, h6⟩
      have H6 := hide h6
      clear h6 H5
      go_wp2_with fail
      refine (dead_st H6.out).mono ?_
      rintro e w7 ⟨rfl, h7⟩
      have H7 := hide h7
      clear h7 H6
      go_wp2_with fail
      refine (crash_st H7.out 1000 (by decide) E5.out).mono ?_
      rintro e w8 ⟨rfl, h8⟩
      have H8 := hide h8
      clear h8 H7
      go_wp2_with fail
      refine (known_any _).mono ?_
      rintro e w9 ⟨rfl, h9⟩
      have H9 := hide (H8.out.below h9)
      clear h9 H8 E0 E1 E2 E3 E4 E5
      go_wp2_with fail
      refine (read_st H9.out nF (by decide) (l := a0 ++ a1.extract 0 j) E6.out).mono ?_
      rintro e w10 ⟨rfl, h10⟩
      have H10 := hide h10
      clear h10 H9
      go_wp2_with fail
      go_ret
      refine ⟨?_, H10.out.out⟩
      first | rfl | (simp; omega)
    · have e1 := ap0F (room := 1000) (left := n) (b := bs a0) (by omega)
      rw [if_neg (by omega), show min n (bs a0).length = (bs a0).length by omega, show n - (bs a0).length = j + 1 by omega, decide_eq_false (by omega), List.take_length] at e1
      have e2 := syF (room := 1000) (last := 0) (left := j + 1) (all := bs a0)
      rw [if_neg (by omega), if_neg (by omega), show j + 1 - 1 = j by omega, decide_eq_false (by omega)] at e2
      have e3 := apF (room := 1000) (last := (bs a0).length) (left := j) (all := bs a0) (b := bs a1) (by omega)
      rw [if_neg (by omega), show min j (bs a1).length = (bs a1).length by omega, decide_eq_false (by omega), List.take_length] at e3
      have e4 := ctF (room := 1000) (last := (bs a0).length) (left := j - (bs a1).length) (all := bs a0 ++ bs a1)
      rw [if_neg (by omega), if_neg (by omega)] at e4
      have e5 : crash (pG 1000 [] 0 true (j - (bs a1).length - 1) false) 1000 = pG 1000 [] 0 false 0 false := crT (Nat.zero_le _) (Nat.zero_le _)
      have e6 : read (pG 1000 [] 0 false 0 false) [102] = bs ⟨#[]⟩ := rfl
      have d0 : decide (a0.size ≤ n) = true := by simp; omega
      have d1 : decide (a0.size + 1 ≤ n) = true := by simp; omega
      have d2 : decide (a0.size + 1 + a1.size ≤ n) = true := by simp; omega
      have d3 : decide (a0.size + a1.size + 2 ≤ n) = true := by simp; omega
      have d4 : decide (n < a0.size + a1.size + 2) = false := by simp; omega
      have d5 : decide (n ≤ a0.size) = false := by simp; omega
      have d6 : decide (n ≤ a0.size + 1 + a1.size) = false := by simp; omega
      have i0 : ((a0.size : Int) ≤ n) := by omega
      have i1 : ((a0.size : Int) + 1 ≤ n) := by omega
      have i2 : ((a0.size : Int) + 1 + a1.size ≤ n) := by omega
      have i3 : ((a0.size : Int) + a1.size + 2 ≤ n) := by omega
      have i4 : ¬ ((n : Int) < (a0.size : Int) + a1.size + 2) := by omega
      have i5 : ¬ ((n : Int) ≤ a0.size) := by omega
      have i6 : ¬ ((n : Int) ≤ (a0.size : Int) + 1 + a1.size) := by omega
      clear hj
      have E1 := hide e1
      have E2 := hide e2
      have E3 := hide e3
      have E4 := hide e4
      have E5 := hide e5
      have E6 := hide e6
      clear e1 e2 e3 e4 e5 e6 l0 l1 hfull
      go_enter Try.func9, Try.ntmps9
      go_wp2_with fail
      refine (new_st 1000 (Below.refl w.heap.size w) (Nat.le_refl _) (by decide)).mono ?_
      rintro e w1 ⟨d, rfl, h1⟩
      have H1 := hide h1
      clear h1
      go_wp2_with fail
      refine (fuse_st H1.out n (by omega)).mono ?_
      rintro e w2 ⟨rfl, h2⟩
      rw [E0.out] at h2
      have H2 := hide h2
      clear h2 H1
      go_wp2_with fail
      refine (append_st H2.out nF a0 (by decide) E1.out).mono ?_
      rintro e w3 ⟨rfl, h3⟩
      have H3 := hide h3
      clear h3 H2
      go_wp2_with fail
      refine (sync_st H3.out nF (by decide) E2.out).mono ?_
      rintro e w4 ⟨rfl, h4⟩
      have H4 := hide h4
      clear h4 H3
      go_wp2_with fail
      refine (append_st H4.out nF a1 (by decide) E3.out).mono ?_
      rintro e w5 ⟨rfl, h5⟩
      have H5 := hide h5
      clear h5 H4
      go_wp2_with fail
      refine (cut_st H5.out nF 0 (by decide) E4.out).mono ?_
      rintro e w6 ⟨rfl, h6⟩
      have H6 := hide h6
      clear h6 H5
      go_wp2_with fail
      refine (dead_st H6.out).mono ?_
      rintro e w7 ⟨rfl, h7⟩
      have H7 := hide h7
      clear h7 H6
      go_wp2_with fail
      refine (crash_st H7.out 1000 (by decide) E5.out).mono ?_
      rintro e w8 ⟨rfl, h8⟩
      have H8 := hide h8
      clear h8 H7
      go_wp2_with fail
      refine (known_any _).mono ?_
      rintro e w9 ⟨rfl, h9⟩
      have H9 := hide (H8.out.below h9)
      clear h9 H8 E0 E1 E2 E3 E4 E5
      go_wp2_with fail
      refine (read_st H9.out nF (by decide) (l := ⟨#[]⟩) E6.out).mono ?_
      rintro e w10 ⟨rfl, h10⟩
      have H10 := hide h10
      clear h10 H9
      go_wp2_with fail
      go_ret
      refine ⟨?_, H10.out.out⟩
      first | rfl | (simp; omega)
end Go.Proofs.Ytmbjlnnoemenoaa
