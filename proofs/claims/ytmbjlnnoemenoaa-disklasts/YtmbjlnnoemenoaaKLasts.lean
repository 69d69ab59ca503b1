/-
  THE WALK of DiskLasts (layer 9).
-/
import Derived.Test.YtmbjlnnoemenoaaKLasts0
set_option linter.unusedVariables false
set_option linter.unusedSimpArgs false
set_option maxRecDepth 100000
namespace Go.Proofs.Ytmbjlnnoemenoaa
open Go.RowKit Go.Maps Dk

set_option maxHeartbeats 8000000 in
theorem diskLasts_walk (a0 : ByteArray) (a1 : ByteArray) (a2 : Int) (a3 : Int) (w0 : a0.size ≤ 140737488355328) (w1 : a1.size ≤ 140737488355328) (w2 : (Lit.int .u8 a2).wf = true) (w3 : (Lit.int .u8 a3).wf = true) (w : World) :
    Calls Try.prog 4 #[.string a0, .string a1, .int .u8 a2, .int .u8 a3] w fun e w' => e = .returned (.bool true) ∧ Below w.heap.size w w' := by
  have hw : IntKind.i64.wrap ((a0.size : Int) + a1.size) = (a0.size : Int) + a1.size := by rw [IntKind.wrap_i64]; omega
  have b2 := byte_of_wf w2
  have b3 := byte_of_wf w3
  clear w0 w1 w2 w3
  obtain ⟨n, rfl⟩ : ∃ n : Nat, a2 = n := ⟨a2.toNat, by omega⟩
  obtain ⟨k, rfl⟩ : ∃ k : Nat, a3 = k := ⟨a3.toNat, by omega⟩
  have hn : n < 256 := by omega
  have hk : k < 256 := by omega
  clear b2 b3
  have l0 : (bs a0).length = a0.size := Array.length_toList
  have l1 : (bs a1).length = a1.size := Array.length_toList
  by_cases hs : (200 : Int) < (a0.size : Int) + a1.size
  · clear hn hk l0 l1
    go_enter Try.func4, Try.ntmps4
    go_wp2_with fail
    refine (known_any w).mono ?_
    rintro e w3 ⟨rfl, b3⟩
    have B3 := hide b3
    clear b3
    go_wp2_with fail
    go_ret
    exact ⟨rfl, B3.out⟩
  · have e1 := ap0 (room := 1000) (b := bs a0) (by omega)
    have e2 := sy1 (room := 1000) (last := 0) (all := bs a0)
    have e3 : fuse (pG 1000 (bs a0) (bs a0).length false 0 false) n = pG 1000 (bs a0) (bs a0).length true n false := by simp [Dk.fuse]
    -- what Append and Sync tell, how much stays
    obtain ⟨m, P4, P5, hm, hcr, hcase⟩ : ∃ (m : Nat) (P4 P5 : PD), m ≤ a1.size ∧ crash P5 k = pG 1000 (bs a0 ++ (bs a1).take m) ((bs a0).length + m) false 0 false ∧
        ((append (pG 1000 (bs a0) (bs a0).length true n false) [102] (bs a1) = (21, P4) ∧ sync P4 [102] = (21, P5) ∧ n < a1.size ∧ m = min k n) ∨
         (append (pG 1000 (bs a0) (bs a0).length true n false) [102] (bs a1) = (0, P4) ∧ sync P4 [102] = (21, P5) ∧ n = a1.size ∧ m = min k a1.size) ∨
         (append (pG 1000 (bs a0) (bs a0).length true n false) [102] (bs a1) = (0, P4) ∧ sync P4 [102] = (0, P5) ∧ a1.size < n ∧ m = a1.size)) := by
      have ha := apF (room := 1000) (last := (bs a0).length) (left := n) (all := bs a0) (b := bs a1) (by omega)
      rcases Nat.lt_trichotomy n a1.size with h | h | h
      · have h1 : n < (bs a1).length := by omega
        have h2 : min n (bs a1).length = n := by omega
        simp only [h1, h2, if_true, decide_true] at ha
        exact ⟨_, _, _, by omega, crL (m := n) (by omega), .inl ⟨ha, rfl, h, rfl⟩⟩
      · have h1 : ¬ n < (bs a1).length := by omega
        have h2 : min n (bs a1).length = a1.size := by omega
        have h3 : n - (bs a1).length = 0 := by omega
        simp only [h1, h2, h3, if_false, decide_false] at ha
        have hs := syF (room := 1000) (last := (bs a0).length) (left := 0) (all := bs a0 ++ (bs a1).take a1.size)
        simp only [Nat.lt_one_iff, if_true, decide_true] at hs
        exact ⟨_, _, _, by omega, crL (m := a1.size) (by omega), .inr (.inl ⟨ha, hs, h, rfl⟩)⟩
      · have h1 : ¬ n < (bs a1).length := by omega
        have h2 : min n (bs a1).length = a1.size := by omega
        simp only [h1, h2, if_false, decide_false] at ha
        have hs := syF (room := 1000) (last := (bs a0).length) (left := n - (bs a1).length) (all := bs a0 ++ (bs a1).take a1.size)
        have h4 : ¬ n - (bs a1).length < 1 := by omega
        simp only [h4, if_false, decide_false] at hs
        have hta : (bs a1).take a1.size = bs a1 := List.take_of_length_le (by omega)
        refine ⟨_, _, _, Nat.le_refl _, ?_, .inr (.inr ⟨ha, hs, h, rfl⟩)⟩
        rw [cr1, hta]
        have h5 : (bs a0 ++ bs a1).length = (bs a0).length + a1.size := by rw [List.length_append, l1]
        rw [h5, Nat.sub_self, Nat.min_zero, Nat.add_zero, List.take_of_length_le (by rw [h5]; omega)]
    have hss := stS_size a0 a1 hm
    have hs1 := stS_front a0 a1 m
    have hs2 := stS_whole a0 a1 m
    have hrd : bs (stS a0 a1 m) = bs a0 ++ (bs a1).take m := bs_stS a0 a1 m
    have hll : bs a0 ++ (bs a1).take m = bs (stS a0 a1 m) := hrd.symm
    obtain ⟨T, hT⟩ : ∃ T, T = stS a0 a1 m := ⟨_, rfl⟩
    rw [← hT] at hss hs1 hs2 hll
    have hTs : (T.size : Int) = (a0.size : Int) + m := by omega
    have HTS := hide hTs
    have q1 : (T.extract 0 a0.size).toList = a0.toList := by rw [hs1]
    have HS2 : Hid ((a0 ++ a1).extract 0 (a0.size + m) = T) := hide hs2
    have hla : lasting (pG 1000 (bs a0 ++ (bs a1).take m) ((bs a0).length + m) false 0 false) [102] = bs T := by
      rw [lasting_G, hll]
      exact List.take_of_length_le (by rw [bs_len, l0]; omega)
    have E1 := hide e1
    have E2 := hide e2
    have E3 := hide e3
    have E6 := hide hcr
    have E7 := hide hll
    have E8 := hide hla
    have hcat : ((a0 ++ a1).size : Int) = (a0.size : Int) + a1.size := by rw [ByteArray.size_append]; omega
    have g3 : decide (a0.size ≤ T.size) = true := by simp; omega
    have g4 : decide (T.size ≤ a0.size + a1.size) = true := by simp; omega
    have hb1 : (a0.size : Int) ≤ T.size := by omega
    have hb2 : (T.size : Int) ≤ (a0.size : Int) + a1.size := by omega
    clear e1 e2 e3 hcr hll hla hss hs1 hs2 hrd hT l0 l1 hTs
    rcases hcase with ⟨hap, hsy, hle, hmm⟩ | ⟨hap, hsy, hle, hmm⟩ | ⟨hap, hsy, hle, hmm⟩
    · rcases Nat.lt_or_ge n k with hkn | hkn
      · have f1 : (n : Int) < a1.size := by omega
        have g1 : decide (a1.size < n) = false := by simp; omega
        have g2 : decide (a1.size ≤ n) = false := by simp; omega
        have f2 : (T.size : Int) = (a0.size : Int) + n := by have := HTS.out; omega
        have q2 : T.toList = ((a0 ++ a1).extract 0 (a0.size + n)).toList := by rw [← HS2.out, show m = n by omega]
        have f4 : min (k : Int) (min (n : Int) (a1.size : Int)) = n := by omega
        have f5 : ¬ (n : Int) = k := by omega
        have g5 : decide (T.size = a0.size + n) = true := by simp; omega
        have E4 := hide hap
        have E5 := hide hsy
        clear hap hsy hle hmm hm
        go_enter Try.func4, Try.ntmps4
        go_wp2_with fail
        refine (new_st 1000 (Below.refl w.heap.size w) (Nat.le_refl _) (by decide)).mono ?_
        rintro e w1 ⟨d, rfl, h1⟩
        rw [new_1000] at h1
        have H1 := hide h1
        clear h1
        go_wp2_with fail
        refine (append_st H1.out nF a0 (by decide) E1.out).mono ?_
        rintro e w2 ⟨rfl, h2⟩
        have H2 := hide h2
        clear h2 H1
        go_wp2_with fail
        refine (sync_st H2.out nF (by decide) E2.out).mono ?_
        rintro e w3 ⟨rfl, h3⟩
        have H3 := hide h3
        clear h3 H2
        go_wp2_with fail
        refine (fuse_st H3.out n (by omega)).mono ?_
        rintro e w4 ⟨rfl, h4⟩
        rw [E3.out] at h4
        have H4 := hide h4
        clear h4 H3
        go_wp2_with fail
        refine (append_st H4.out nF a1 (by decide) E4.out).mono ?_
        rintro e w5 ⟨rfl, h5⟩
        have H5 := hide h5
        clear h5 H4
        go_wp2_with fail
        refine (sync_st H5.out nF (by decide) E5.out).mono ?_
        rintro e w6 ⟨rfl, h6⟩
        have H6 := hide h6
        clear h6 H5
        go_wp2_with fail
        refine (crash_st H6.out k (by omega) E6.out).mono ?_
        rintro e w7 ⟨rfl, h7⟩
        have H7 := hide h7
        clear h7 H6
        go_wp2_with fail
        refine (read_st H7.out nF (by decide) (l := T) (by show read _ [102] = _; rw [read_all]; exact E7.out)).mono ?_
        rintro e w8 ⟨rfl, h8⟩
        have H8 := hide h8
        clear h8 H7
        go_wp2_with fail
        refine (known_any _).mono ?_
        rintro e w9 ⟨rfl, h9⟩
        have H9 := hide (H8.out.below h9)
        clear h9 H8
        go_wp2_with fail
        refine (lasting_st H9.out nF (by decide) (l := T) E8.out).mono ?_
        rintro e w10 ⟨rfl, h10⟩
        have H10 := hide h10
        clear h10 H9
        go_wp2_with fail
        refine (dead_st H10.out).mono ?_
        rintro e w11 ⟨rfl, h11⟩
        have H11 := hide h11
        clear h11 H10
        go_wp2_with fail
        go_ret
        exact ⟨rfl, H11.out.out⟩
      · have f1 : (n : Int) < a1.size := by omega
        have g1 : decide (a1.size < n) = false := by simp; omega
        have g2 : decide (a1.size ≤ n) = false := by simp; omega
        have f2 : (T.size : Int) = (a0.size : Int) + k := by have := HTS.out; omega
        have q2 : T.toList = ((a0 ++ a1).extract 0 (a0.size + k)).toList := by rw [← HS2.out, show m = k by omega]
        have f4 : min (k : Int) (min (n : Int) (a1.size : Int)) = k := by omega
        have g5 : decide (T.size = a0.size + k) = true := by simp; omega
        have E4 := hide hap
        have E5 := hide hsy
        clear hap hsy hle hmm hm
        go_enter Try.func4, Try.ntmps4
        go_wp2_with fail
        refine (new_st 1000 (Below.refl w.heap.size w) (Nat.le_refl _) (by decide)).mono ?_
        rintro e w1 ⟨d, rfl, h1⟩
        rw [new_1000] at h1
        have H1 := hide h1
        clear h1
        go_wp2_with fail
        refine (append_st H1.out nF a0 (by decide) E1.out).mono ?_
        rintro e w2 ⟨rfl, h2⟩
        have H2 := hide h2
        clear h2 H1
        go_wp2_with fail
        refine (sync_st H2.out nF (by decide) E2.out).mono ?_
        rintro e w3 ⟨rfl, h3⟩
        have H3 := hide h3
        clear h3 H2
        go_wp2_with fail
        refine (fuse_st H3.out n (by omega)).mono ?_
        rintro e w4 ⟨rfl, h4⟩
        rw [E3.out] at h4
        have H4 := hide h4
        clear h4 H3
        go_wp2_with fail
        refine (append_st H4.out nF a1 (by decide) E4.out).mono ?_
        rintro e w5 ⟨rfl, h5⟩
        have H5 := hide h5
        clear h5 H4
        go_wp2_with fail
        refine (sync_st H5.out nF (by decide) E5.out).mono ?_
        rintro e w6 ⟨rfl, h6⟩
        have H6 := hide h6
        clear h6 H5
        go_wp2_with fail
        refine (crash_st H6.out k (by omega) E6.out).mono ?_
        rintro e w7 ⟨rfl, h7⟩
        have H7 := hide h7
        clear h7 H6
        go_wp2_with fail
        refine (read_st H7.out nF (by decide) (l := T) (by show read _ [102] = _; rw [read_all]; exact E7.out)).mono ?_
        rintro e w8 ⟨rfl, h8⟩
        have H8 := hide h8
        clear h8 H7
        go_wp2_with fail
        refine (known_any _).mono ?_
        rintro e w9 ⟨rfl, h9⟩
        have H9 := hide (H8.out.below h9)
        clear h9 H8
        go_wp2_with fail
        refine (lasting_st H9.out nF (by decide) (l := T) E8.out).mono ?_
        rintro e w10 ⟨rfl, h10⟩
        have H10 := hide h10
        clear h10 H9
        go_wp2_with fail
        refine (dead_st H10.out).mono ?_
        rintro e w11 ⟨rfl, h11⟩
        have H11 := hide h11
        clear h11 H10
        go_wp2_with fail
        go_ret
        exact ⟨rfl, H11.out.out⟩
    · rcases Nat.lt_or_ge n k with hkn | hkn
      · have f1 : (n : Int) ≤ a1.size := by omega
        have f3 : (a1.size : Int) ≤ n := by omega
        have g1 : decide (a1.size < n) = false := by simp; omega
        have g2 : decide (a1.size ≤ n) = true := by simp; omega
        have f2 : (T.size : Int) = (a0.size : Int) + n := by have := HTS.out; omega
        have q2 : T.toList = ((a0 ++ a1).extract 0 (a0.size + n)).toList := by rw [← HS2.out, show m = n by omega]
        have f4 : min (k : Int) (min (n : Int) (a1.size : Int)) = n := by omega
        have f5 : ¬ (n : Int) = k := by omega
        have g5 : decide (T.size = a0.size + n) = true := by simp; omega
        have E4 := hide hap
        have E5 := hide hsy
        clear hap hsy hle hmm hm
        go_enter Try.func4, Try.ntmps4
        go_wp2_with fail
        refine (new_st 1000 (Below.refl w.heap.size w) (Nat.le_refl _) (by decide)).mono ?_
        rintro e w1 ⟨d, rfl, h1⟩
        rw [new_1000] at h1
        have H1 := hide h1
        clear h1
        go_wp2_with fail
        refine (append_st H1.out nF a0 (by decide) E1.out).mono ?_
        rintro e w2 ⟨rfl, h2⟩
        have H2 := hide h2
        clear h2 H1
        go_wp2_with fail
        refine (sync_st H2.out nF (by decide) E2.out).mono ?_
        rintro e w3 ⟨rfl, h3⟩
        have H3 := hide h3
        clear h3 H2
        go_wp2_with fail
        refine (fuse_st H3.out n (by omega)).mono ?_
        rintro e w4 ⟨rfl, h4⟩
        rw [E3.out] at h4
        have H4 := hide h4
        clear h4 H3
        go_wp2_with fail
        refine (append_st H4.out nF a1 (by decide) E4.out).mono ?_
        rintro e w5 ⟨rfl, h5⟩
        have H5 := hide h5
        clear h5 H4
        go_wp2_with fail
        refine (sync_st H5.out nF (by decide) E5.out).mono ?_
        rintro e w6 ⟨rfl, h6⟩
        have H6 := hide h6
        clear h6 H5
        go_wp2_with fail
        refine (crash_st H6.out k (by omega) E6.out).mono ?_
        rintro e w7 ⟨rfl, h7⟩
        have H7 := hide h7
        clear h7 H6
        go_wp2_with fail
        refine (read_st H7.out nF (by decide) (l := T) (by show read _ [102] = _; rw [read_all]; exact E7.out)).mono ?_
        rintro e w8 ⟨rfl, h8⟩
        have H8 := hide h8
        clear h8 H7
        go_wp2_with fail
        refine (known_any _).mono ?_
        rintro e w9 ⟨rfl, h9⟩
        have H9 := hide (H8.out.below h9)
        clear h9 H8
        go_wp2_with fail
        refine (lasting_st H9.out nF (by decide) (l := T) E8.out).mono ?_
        rintro e w10 ⟨rfl, h10⟩
        have H10 := hide h10
        clear h10 H9
        go_wp2_with fail
        refine (dead_st H10.out).mono ?_
        rintro e w11 ⟨rfl, h11⟩
        have H11 := hide h11
        clear h11 H10
        go_wp2_with fail
        go_ret
        exact ⟨rfl, H11.out.out⟩
      · have f1 : (n : Int) ≤ a1.size := by omega
        have f3 : (a1.size : Int) ≤ n := by omega
        have g1 : decide (a1.size < n) = false := by simp; omega
        have g2 : decide (a1.size ≤ n) = true := by simp; omega
        have f2 : (T.size : Int) = (a0.size : Int) + k := by have := HTS.out; omega
        have q2 : T.toList = ((a0 ++ a1).extract 0 (a0.size + k)).toList := by rw [← HS2.out, show m = k by omega]
        have f4 : min (k : Int) (min (n : Int) (a1.size : Int)) = k := by omega
        have g5 : decide (T.size = a0.size + k) = true := by simp; omega
        have E4 := hide hap
        have E5 := hide hsy
        clear hap hsy hle hmm hm
        go_enter Try.func4, Try.ntmps4
        go_wp2_with fail
        refine (new_st 1000 (Below.refl w.heap.size w) (Nat.le_refl _) (by decide)).mono ?_
        rintro e w1 ⟨d, rfl, h1⟩
        rw [new_1000] at h1
        have H1 := hide h1
        clear h1
        go_wp2_with fail
        refine (append_st H1.out nF a0 (by decide) E1.out).mono ?_
        rintro e w2 ⟨rfl, h2⟩
        have H2 := hide h2
        clear h2 H1
        go_wp2_with fail
        refine (sync_st H2.out nF (by decide) E2.out).mono ?_
        rintro e w3 ⟨rfl, h3⟩
        have H3 := hide h3
        clear h3 H2
        go_wp2_with fail
        refine (fuse_st H3.out n (by omega)).mono ?_
        rintro e w4 ⟨rfl, h4⟩
        rw [E3.out] at h4
        have H4 := hide h4
        clear h4 H3
        go_wp2_with fail
        refine (append_st H4.out nF a1 (by decide) E4.out).mono ?_
        rintro e w5 ⟨rfl, h5⟩
        have H5 := hide h5
        clear h5 H4
        go_wp2_with fail
        refine (sync_st H5.out nF (by decide) E5.out).mono ?_
        rintro e w6 ⟨rfl, h6⟩
        have H6 := hide h6
        clear h6 H5
        go_wp2_with fail
        refine (crash_st H6.out k (by omega) E6.out).mono ?_
        rintro e w7 ⟨rfl, h7⟩
        have H7 := hide h7
        clear h7 H6
        go_wp2_with fail
        refine (read_st H7.out nF (by decide) (l := T) (by show read _ [102] = _; rw [read_all]; exact E7.out)).mono ?_
        rintro e w8 ⟨rfl, h8⟩
        have H8 := hide h8
        clear h8 H7
        go_wp2_with fail
        refine (known_any _).mono ?_
        rintro e w9 ⟨rfl, h9⟩
        have H9 := hide (H8.out.below h9)
        clear h9 H8
        go_wp2_with fail
        refine (lasting_st H9.out nF (by decide) (l := T) E8.out).mono ?_
        rintro e w10 ⟨rfl, h10⟩
        have H10 := hide h10
        clear h10 H9
        go_wp2_with fail
        refine (dead_st H10.out).mono ?_
        rintro e w11 ⟨rfl, h11⟩
        have H11 := hide h11
        clear h11 H10
        go_wp2_with fail
        go_ret
        exact ⟨rfl, H11.out.out⟩
    · have f1 : (a1.size : Int) < n := by omega
      have g1 : decide (a1.size < n) = true := by simp; omega
      have g2 : decide (a1.size ≤ n) = true := by simp; omega
      have f2 : (T.size : Int) = (a0.size : Int) + a1.size := by have := HTS.out; omega
      have q2 : T.toList = ((a0 ++ a1).extract 0 (a0.size + a1.size)).toList := by rw [← HS2.out, show m = a1.size by omega]
      have g5 : decide (T.size = a0.size + a1.size) = true := by simp; omega
      have E4 := hide hap
      have E5 := hide hsy
      clear hap hsy hle hmm hm
      go_enter Try.func4, Try.ntmps4
      go_wp2_with fail
      refine (new_st 1000 (Below.refl w.heap.size w) (Nat.le_refl _) (by decide)).mono ?_
      rintro e w1 ⟨d, rfl, h1⟩
      rw [new_1000] at h1
      have H1 := hide h1
      clear h1
      go_wp2_with fail
      refine (append_st H1.out nF a0 (by decide) E1.out).mono ?_
      rintro e w2 ⟨rfl, h2⟩
      have H2 := hide h2
      clear h2 H1
      go_wp2_with fail
      refine (sync_st H2.out nF (by decide) E2.out).mono ?_
      rintro e w3 ⟨rfl, h3⟩
      have H3 := hide h3
      clear h3 H2
      go_wp2_with fail
      refine (fuse_st H3.out n (by omega)).mono ?_
      rintro e w4 ⟨rfl, h4⟩
      rw [E3.out] at h4
      have H4 := hide h4
      clear h4 H3
      go_wp2_with fail
      refine (append_st H4.out nF a1 (by decide) E4.out).mono ?_
      rintro e w5 ⟨rfl, h5⟩
      have H5 := hide h5
      clear h5 H4
      go_wp2_with fail
      refine (sync_st H5.out nF (by decide) E5.out).mono ?_
      rintro e w6 ⟨rfl, h6⟩
      have H6 := hide h6
      clear h6 H5
      go_wp2_with fail
      refine (crash_st H6.out k (by omega) E6.out).mono ?_
      rintro e w7 ⟨rfl, h7⟩
      have H7 := hide h7
      clear h7 H6
      go_wp2_with fail
      refine (read_st H7.out nF (by decide) (l := T) (by show read _ [102] = _; rw [read_all]; exact E7.out)).mono ?_
      rintro e w8 ⟨rfl, h8⟩
      have H8 := hide h8
      clear h8 H7
      go_wp2_with fail
      refine (known_any _).mono ?_
      rintro e w9 ⟨rfl, h9⟩
      have H9 := hide (H8.out.below h9)
      clear h9 H8
      go_wp2_with fail
      refine (lasting_st H9.out nF (by decide) (l := T) E8.out).mono ?_
      rintro e w10 ⟨rfl, h10⟩
      have H10 := hide h10
      clear h10 H9
      go_wp2_with fail
      refine (dead_st H10.out).mono ?_
      rintro e w11 ⟨rfl, h11⟩
      have H11 := hide h11
      clear h11 H10
      go_wp2_with fail
      go_ret
      exact ⟨rfl, H11.out.out⟩
end Go.Proofs.Ytmbjlnnoemenoaa
