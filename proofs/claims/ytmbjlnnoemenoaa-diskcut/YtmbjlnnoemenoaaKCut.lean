/-
  THE WALK of DiskCut (layer 9).
-/
import Derived.Test.YtmbjlnnoemenoaaKLasts0
set_option linter.unusedVariables false
set_option linter.unusedSimpArgs false
set_option maxRecDepth 100000
namespace Go.Proofs.Ytmbjlnnoemenoaa
open Go.RowKit Go.Maps Dk

theorem ct1 {room last m : Nat} {all : Bs} (h : m ≤ all.length) : cut (pG room all last false 0 false) [102] (m : Int) = (0, pG room (all.take m) (min last m) false 0 false) := by
  have h1 : ¬ ((m : Int) < 0 ∨ (all.length : Int) < m) := by omega
  unfold Dk.cut
  rw [if_neg (by simp)]
  simp only [Dk.get, if_true, if_neg h1]
  simp [Dk.upd, Dk.steps, Dk.gone]
theorem ctArg {room last m : Nat} {all : Bs} (h : all.length < m) : cut (pG room all last false 0 false) [102] (m : Int) = (1, pG room all last false 0 false) := by
  have h1 : ((m : Int) < 0 ∨ (all.length : Int) < m) := by omega
  unfold Dk.cut
  rw [if_neg (by simp)]
  simp only [Dk.get, if_true, if_pos h1]
theorem ctNone {room last : Nat} {all : Bs} : cut (pG room all last false 0 false) [103] 0 = (31, pG room all last false 0 false) := by
  unfold Dk.cut
  rw [if_neg (by simp)]
  simp [Dk.get]

set_option maxHeartbeats 8000000 in
theorem diskCut_walk (a0 : ByteArray) (a1 : ByteArray) (a2 : Int) (a3 : Int) (w0 : a0.size ≤ 140737488355328) (w1 : a1.size ≤ 140737488355328) (w2 : (Lit.int .u8 a2).wf = true) (w3 : (Lit.int .u8 a3).wf = true) (w : World) :
    Calls Try.prog 5 #[.string a0, .string a1, .int .u8 a2, .int .u8 a3] w fun e w' => e = .returned (.bool true) ∧ Below w.heap.size w w' := by
  have hw : IntKind.i64.wrap ((a0.size : Int) + a1.size) = (a0.size : Int) + a1.size := by rw [IntKind.wrap_i64]; omega
  have b2 := byte_of_wf w2
  have b3 := byte_of_wf w3
  clear w0 w1 w2 w3
  obtain ⟨n, rfl⟩ : ∃ n : Nat, a2 = n := ⟨a2.toNat, by omega⟩
  obtain ⟨k, rfl⟩ : ∃ k : Nat, a3 = k := ⟨a3.toNat, by omega⟩
  have hn : n < 256 := by omega
  have hk : k < 256 := by omega
  clear b2 b3
  have l0 := bs_len a0
  have l1 := bs_len a1
  by_cases hs : (100 : Int) < (a0.size : Int) + a1.size
  · clear hn hk l0 l1
    go_enter Try.func5, Try.ntmps5
    go_wp2_with fail
    refine (known_any w).mono ?_
    rintro e w3 ⟨rfl, b3⟩
    have B3 := hide b3
    clear b3
    go_wp2_with fail
    go_ret
    exact ⟨rfl, B3.out⟩
  · have hw1 : IntKind.i64.wrap ((a0.size : Int) + a1.size + 1) = (a0.size : Int) + a1.size + 1 := by rw [IntKind.wrap_i64]; omega
    obtain ⟨q, hq⟩ : ∃ q : Nat, q = n % (a0.size + a1.size + 1) := ⟨_, rfl⟩
    have hqs : q ≤ a0.size + a1.size := by have := Nat.mod_lt n (show 0 < a0.size + a1.size + 1 by omega); omega
    have hq2 : ((n : Int)).tmod ((a0.size : Int) + a1.size + 1) = q := by
      rw [Int.tmod_eq_emod_of_nonneg (by omega), hq]; push_cast; rfl
    have hz0 : ¬ ((a0.size : Int) + a1.size + 1 = 0) := by omega
    obtain ⟨low, hlow⟩ : ∃ low : Nat, low = min q a0.size := ⟨_, rfl⟩
    have hl2 : min (q : Int) (a0.size : Int) = low := by omega
    obtain ⟨r, hr⟩ : ∃ r : Nat, r = min q (low + k) := ⟨_, rfl⟩
    have hw2 : IntKind.i64.wrap ((low : Int) + k) = (low : Int) + k := by rw [IntKind.wrap_i64]; omega
    have hr2 : min (q : Int) ((low : Int) + k) = r := by omega
    have e1 := ap0 (room := 200) (b := bs a0) (by omega)
    have e2 := sy1 (room := 200) (last := 0) (all := bs a0)
    have e3 := ap1 (room := 200) (last := (bs a0).length) (all := bs a0) (b := bs a1) (by omega)
    have hfull : (bs a0 ++ bs a1).length = a0.size + a1.size := by rw [List.length_append, l0, l1]
    have e4 := ct1 (room := 200) (last := (bs a0).length) (m := q) (all := bs a0 ++ bs a1) (by omega)
    have htl : ((bs a0 ++ bs a1).take q).length = q := by rw [List.length_take]; omega
    have e5 : read (pG 200 ((bs a0 ++ bs a1).take q) (min (bs a0).length q) false 0 false) [102] = bs ((a0 ++ a1).extract 0 q) := by rw [read_all, bs_front, bs_append]
    have e6 : lasting (pG 200 ((bs a0 ++ bs a1).take q) (min (bs a0).length q) false 0 false) [102] = bs (a0.extract 0 low) := by
      rw [lasting_G, bs_front, List.take_take, show min (min (bs a0).length q) q = low by omega, List.take_append_of_le_length (by omega)]
    have e7 : crash (pG 200 ((bs a0 ++ bs a1).take q) (min (bs a0).length q) false 0 false) (k : Int) = pG 200 ((bs a0 ++ bs a1).take r) r false 0 false := by
      rw [cr1, htl, show ((k : Int)).toNat = k by omega, show min (bs a0).length q + min k (q - min (bs a0).length q) = r by omega, List.take_take, show min r q = r by omega]
    have e8 : read (pG 200 ((bs a0 ++ bs a1).take r) r false 0 false) [102] = bs ((a0 ++ a1).extract 0 r) := by rw [read_all, bs_front, bs_append]
    have hrl : ((bs a0 ++ bs a1).take r).length = r := by rw [List.length_take]; omega
    have e9 : cut (pG 200 ((bs a0 ++ bs a1).take r) r false 0 false) [102] ((r : Int) + 1) = (1, pG 200 ((bs a0 ++ bs a1).take r) r false 0 false) := by
      rw [show (r : Int) + 1 = ((r + 1 : Nat) : Int) by omega]; exact ctArg (by omega)
    have hw3 : IntKind.i64.wrap ((r : Int) + 1) = (r : Int) + 1 := by rw [IntKind.wrap_i64]; omega
    have hsr : (((a0 ++ a1).extract 0 r).size : Int) = r := by rw [← bs_len, bs_front, bs_append, hrl]
    have hsn : ((a0 ++ a1).extract 0 r).size = r := by omega
    have hcat : ((a0 ++ a1).size : Int) = (a0.size : Int) + a1.size := by rw [ByteArray.size_append]; omega
    have i1 : (q : Int) ≤ (a0.size : Int) + a1.size := by omega
    have i2 : q ≤ a0.size + a1.size := by omega
    have i3 : (low : Int) ≤ a0.size := by omega
    have i4 : low ≤ a0.size := by omega
    have i5 : (r : Int) ≤ (a0.size : Int) + a1.size := by omega
    have i6 : r ≤ a0.size + a1.size := by omega
    obtain ⟨U, hU⟩ : ∃ U, U = (a0 ++ a1).extract 0 r := ⟨_, rfl⟩
    rw [← hU] at e8 hsr hsn
    have qU : U.toList = ((a0 ++ a1).extract 0 r).toList := by rw [hU]
    have E1 := hide e1
    have E2 := hide e2
    have E3 := hide e3
    have E4 := hide e4
    have E5 := hide e5
    have E6 := hide e6
    have E7 := hide e7
    have E8 := hide e8
    have E9 := hide e9
    clear e1 e2 e3 e4 e5 e6 e7 e8 e9 l0 l1 hfull htl hrl hq hlow hr hqs hU
    go_enter Try.func5, Try.ntmps5
    go_wp2_with fail
    refine (new_st 200 (Below.refl w.heap.size w) (Nat.le_refl _) (by decide)).mono ?_
    rintro e w1 ⟨d, rfl, h1⟩
    rw [show new 200 = ⟨200, [], false, 0, false⟩ from by kernel_rfl] at h1
    have H1 := hide h1
    clear h1
    go_wp2_with fail
    refine (append_st H1.out nF a0 (by decide) E1.out).mono ?_
    rintro e w2 ⟨rfl, h2⟩
    have H2 := hide h2
    clear h2 H1
    go_wp2_with fail
    refine (sync_st H2.out nF (by decide) E2.out).mono ?_
    rintro e w3 ⟨rfl, h3⟩
    have H3 := hide h3
    clear h3 H2
    go_wp2_with fail
    refine (append_st H3.out nF a1 (by decide) E3.out).mono ?_
    rintro e w4 ⟨rfl, h4⟩
    have H4 := hide h4
    clear h4 H3
    go_wp2_with fail
    refine (cut_st H4.out nF q (by decide) E4.out).mono ?_
    rintro e w5 ⟨rfl, h5⟩
    have H5 := hide h5
    clear h5 H4
    go_wp2_with fail
    refine (read_st H5.out nF (by decide) (l := (a0 ++ a1).extract 0 q) E5.out).mono ?_
    rintro e w6 ⟨rfl, h6⟩
    have H6 := hide h6
    clear h6 H5
    go_wp2_with fail
    refine (lasting_st H6.out nF (by decide) (l := a0.extract 0 low) E6.out).mono ?_
    rintro e w7 ⟨rfl, h7⟩
    have H7 := hide h7
    clear h7 H6
    go_wp2_with fail
    refine (crash_st H7.out k (by omega) E7.out).mono ?_
    rintro e w8 ⟨rfl, h8⟩
    have H8 := hide h8
    clear h8 H7
    go_wp2_with fail
    refine (read_st H8.out nF (by decide) (l := U) E8.out).mono ?_
    rintro e w9 ⟨rfl, h9⟩
    have H9 := hide h9
    clear h9 H8
    clear E1 E2 E3 E4 E5 E6 E7 E8
    go_wp2_with fail
    refine (known_any _).mono ?_
    rintro e w10 ⟨rfl, h10⟩
    have H10 := hide (H9.out.below h10)
    clear h10 H9
    go_wp2_with fail
    refine (cut_st H10.out nF _ (by decide) E9.out).mono ?_
    rintro e w11 ⟨rfl, h11⟩
    have H11 := hide h11
    clear h11 H10
    go_wp2_with fail
    refine (cut_st H11.out ⟨#[103]⟩ 0 (by decide) ctNone).mono ?_
    rintro e w12 ⟨rfl, h12⟩
    have H12 := hide h12
    clear h12 H11
    go_wp2_with fail
    go_ret
    refine ⟨?_, H12.out.out⟩
    first | rfl | (simp; omega)
end Go.Proofs.Ytmbjlnnoemenoaa
