/-
  THE WALK of DiskOff (layer 9).
-/
import Derived.Test.YtmbjlnnoemenoaaKLaw
set_option linter.unusedVariables false
set_option linter.unusedSimpArgs false
set_option maxRecDepth 100000
namespace Go.Proofs.Ytmbjlnnoemenoaa
open Go.RowKit Go.Maps Dk

theorem lt_of_wf {a : Int} (h : (Lit.int .i64 a).wf = true) : a < 9223372036854775808 := by
  simp [Lit.wf, IntKind.min, IntKind.max, IntKind.signed, IntKind.bits] at h
  omega
theorem byte_of_wf {x : Int} (h : (Lit.int .u8 x).wf = true) : 0 ≤ x ∧ x < 256 := by
  have h1 : IntKind.u8.min = 0 := rfl
  have h2 : IntKind.u8.max = 255 := rfl
  simp only [Lit.wf, Bool.and_eq_true, decide_eq_true_eq] at h
  omega
/-- a disk with the file f alone -/
abbrev pG (room : Nat) (all : Bs) (last : Nat) (fused : Bool) (left : Nat) (dead : Bool) : PD := ⟨room, [([102], ⟨all, last⟩)], fused, left, dead⟩
theorem new_1000 : new 1000 = ⟨1000, [], false, 0, false⟩ := by kernel_rfl
theorem ap0 {room : Nat} {b : Bs} (h : b.length ≤ room) : append ⟨room, [], false, 0, false⟩ [102] b = (0, pG room b 0 false 0 false) := by
  have h1 : ¬ room < b.length := by omega
  simp [Dk.append, Dk.get, Dk.made, Dk.ins, Dk.upd, Dk.used, Dk.steps, Dk.gone, h1]
theorem ap1 {room last : Nat} {all b : Bs} (h : all.length + b.length ≤ room) : append (pG room all last false 0 false) [102] b = (0, pG room (all ++ b) last false 0 false) := by
  have h1 : ¬ room < all.length + b.length := by omega
  simp [Dk.append, Dk.get, Dk.made, Dk.ins, Dk.upd, Dk.used, Dk.steps, Dk.gone, h1]
theorem sy1 {room last : Nat} {all : Bs} : sync (pG room all last false 0 false) [102] = (0, pG room all all.length false 0 false) := by
  simp [Dk.sync, Dk.get, Dk.upd, Dk.steps, Dk.gone]
theorem apF {room last left : Nat} {all b : Bs} (h : all.length + b.length ≤ room) : append (pG room all last true left false) [102] b = (if left < b.length then 21 else 0, pG room (all ++ b.take (min left b.length)) last true (left - b.length) (decide (left < b.length))) := by
  have h1 : ¬ room < all.length + b.length := by omega
  have h2 : (min left b.length < b.length) = (left < b.length) := propext (by omega)
  simp [Dk.append, Dk.get, Dk.made, Dk.ins, Dk.upd, Dk.used, Dk.steps, Dk.gone, h1, h2]
theorem syF {room last left : Nat} {all : Bs} : sync (pG room all last true left false) [102] = (if left < 1 then 21 else 0, pG room all (if left < 1 then last else all.length) true (left - 1) (decide (left < 1))) := by
  by_cases h : left = 0
  · subst h; simp [Dk.sync, Dk.get, Dk.upd, Dk.steps, Dk.gone]
  · have h1 : ¬ left < 1 := by omega
    have h2 : min left 1 = 1 := by omega
    simp [Dk.sync, Dk.get, Dk.upd, Dk.steps, Dk.gone, h1, h2]
theorem cr1 {room last left : Nat} {all : Bs} {fused dead : Bool} {k : Int} : crash (pG room all last fused left dead) k = pG room (all.take (last + min k.toNat (all.length - last))) (last + min k.toNat (all.length - last)) false 0 false := by
  simp [Dk.crash, Dk.crashL, Dk.crashF]

theorem lasting_all (room : Nat) (x : Bs) (fused : Bool) (left : Nat) (dead : Bool) : lasting (pG room x x.length fused left dead) [102] = x := by simp [Dk.lasting, Dk.get]
theorem lasting_G (room : Nat) (x : Bs) (la : Nat) (fused : Bool) (left : Nat) (dead : Bool) : lasting (pG room x la fused left dead) [102] = x.take la := by simp [Dk.lasting, Dk.get]
theorem read_all (room : Nat) (x : Bs) (la : Nat) (fused : Bool) (left : Nat) : read (pG room x la fused left false) [102] = x := by simp [Dk.read, Dk.get]
theorem off4 (x : Bs) (h : x.length + x.length ≤ 1000) (h0 : 0 < x.length) : append (pG 1000 x x.length true 0 false) [102] x = (21, pG 1000 x x.length true 0 true) := by
  rw [apF h]; simp [h0]
theorem off5 (x : Bs) (k : Int) : crash (pG 1000 x x.length true 0 true) k = pG 1000 x x.length false 0 false := by rw [cr1]; simp

set_option maxHeartbeats 4000000 in
theorem diskOff_walk (a0 : ByteArray) (a1 : ByteArray) (a2 : Int) (w0 : a0.size ≤ 140737488355328) (w1 : a1.size ≤ 140737488355328) (w2 : (Lit.int .i64 a2).wf = true) (w : World) :
    Calls Try.prog 11 #[.string a0, .string a1, .int .i64 a2] w fun e w' => e = .returned (.bool true) ∧ Below w.heap.size w w' := by
  have hw : IntKind.i64.wrap ((a0.size : Int) + a1.size) = (a0.size : Int) + a1.size := by rw [IntKind.wrap_i64]; omega
  have h2 : Hid (a2 < 9223372036854775808) := by
    show a2 < 9223372036854775808
    exact lt_of_wf w2
  have l0 : (bs a0).length = a0.size := Array.length_toList
  have l1 : (bs a1).length = a1.size := Array.length_toList
  clear w0 w1 w2
  by_cases hs : (200 : Int) < (a0.size : Int) + a1.size
  · go_enter Try.func11, Try.ntmps11
    go_wp2_with fail
    refine (known_any w).mono ?_
    rintro e w3 ⟨rfl, b3⟩
    have B3 := hide b3
    clear b3
    go_wp2_with fail
    go_ret
    exact ⟨rfl, B3.out⟩
  · by_cases hz : a0.size = 0
    · have hz' : (a0.size : Int) = 0 := by omega
      clear hz
      go_enter Try.func11, Try.ntmps11
      go_wp2_with fail
      refine (known_any w).mono ?_
      rintro e w3 ⟨rfl, b3⟩
      have B3 := hide b3
      clear b3
      go_wp2_with fail
      go_ret
      exact ⟨rfl, B3.out⟩
    · have hz' : ¬ (a0.size : Int) = 0 := by omega
      have e1 := ap0 (room := 1000) (b := bs a0) (by omega)
      have e2 := sy1 (room := 1000) (last := 0) (all := bs a0)
      have e3 : fuse (pG 1000 (bs a0) (bs a0).length false 0 false) 0 = pG 1000 (bs a0) (bs a0).length true 0 false := rfl
      have e4 := off4 (bs a0) (by omega) (by omega)
      have e5 := off5 (bs a0) a2
      have e6 := ap1 (room := 1000) (last := (bs a0).length) (all := bs a0) (b := bs a1) (by omega)
      have e7 := sy1 (room := 1000) (last := (bs a0).length) (all := bs a0 ++ bs a1)
      have hU : Hid (((bs a0 ++ bs a1).length : Int) = (a0.size : Int) + a1.size) := by
        show ((bs a0 ++ bs a1).length : Int) = (a0.size : Int) + a1.size
        rw [List.length_append]; omega
      have E1 := hide e1
      have E2 := hide e2
      have E3 := hide e3
      have E4 := hide e4
      have E5 := hide e5
      have E6 := hide e6
      have E7 := hide e7
      clear e1 e2 e3 e4 e5 e6 e7 l0 l1 hz
      go_enter Try.func11, Try.ntmps11
      go_wp2_with fail
      refine (new_st 1000 (Below.refl w.heap.size w) (Nat.le_refl _) (by decide)).mono ?_
      rintro e w1 ⟨d, rfl, h1⟩
      rw [new_1000] at h1
      have H1 := hide h1
      clear h1
      go_wp2_with fail
      refine (append_st H1.out nF a0 (by decide) E1.out).mono ?_
      rintro e w2 ⟨rfl, h2⟩
      have H2 := hide h2
      clear h2 H1
      go_wp2_with fail
      refine (sync_st H2.out nF (by decide) E2.out).mono ?_
      rintro e w3 ⟨rfl, h3⟩
      have H3 := hide h3
      clear h3 H2
      go_wp2_with fail
      refine (fuse_st H3.out 0 (by decide)).mono ?_
      rintro e w4 ⟨rfl, h4⟩
      rw [E3.out] at h4
      have H4 := hide h4
      clear h4 H3
      go_wp2_with fail
      refine (append_st H4.out nF a0 (by decide) E4.out).mono ?_
      rintro e w5 ⟨rfl, h5⟩
      have H5 := hide h5
      clear h5 H4
      go_wp2_with fail
      refine (dead_st H5.out).mono ?_
      rintro e w6 ⟨rfl, h6⟩
      have H6 := hide h6
      clear h6 H5
      go_wp2_with fail
      refine (read_st H6.out nF (by decide) (l := ⟨#[]⟩) (by rfl)).mono ?_
      rintro e w7 ⟨rfl, h7⟩
      have H7 := hide h7
      clear h7 H6
      go_wp2_with fail
      refine (lasting_st H7.out nF (by decide) (l := a0) (lasting_all _ _ _ _ _)).mono ?_
      rintro e w8 ⟨rfl, h8⟩
      have H8 := hide h8
      clear h8 H7
      go_wp2_with fail
      refine (append_st H8.out nF a1 (by decide) (append_dead rfl)).mono ?_
      rintro e w9 ⟨rfl, h9⟩
      have H9 := hide h9
      clear h9 H8
      go_wp2_with fail
      refine (sync_st H9.out nF (by decide) (show sync (pG 1000 (bs a0) (bs a0).length true 0 true) [102] = (21, pG 1000 (bs a0) (bs a0).length true 0 true) from rfl)).mono ?_
      rintro e w10 ⟨rfl, h10⟩
      have H10 := hide h10
      clear h10 H9
      go_wp2_with fail
      refine (cut_st H10.out nF a2 (by decide) (show cut (pG 1000 (bs a0) (bs a0).length true 0 true) [102] a2 = (21, pG 1000 (bs a0) (bs a0).length true 0 true) from rfl)).mono ?_
      rintro e w11 ⟨rfl, h11⟩
      have H11 := hide h11
      clear h11 H10
      go_wp2_with fail
      refine (append_st H11.out ⟨#[]⟩ ⟨#[]⟩ (by decide) (append_dead rfl)).mono ?_
      rintro e w12 ⟨rfl, h12⟩
      have H12 := hide h12
      clear h12 H11
      go_wp2_with fail
      refine (crash_st H12.out a2 h2.out E5.out).mono ?_
      rintro e w13 ⟨rfl, h13⟩
      have H13 := hide h13
      clear h13 H12
      go_wp2_with fail
      refine (known_any _).mono ?_
      rintro e w14 ⟨rfl, h14⟩
      have H14 := hide (H13.out.below h14)
      clear h14 H13
      go_wp2_with fail
      refine (dead_st H14.out).mono ?_
      rintro e w15 ⟨rfl, h15⟩
      have H15 := hide h15
      clear h15 H14
      go_wp2_with fail
      refine (read_st H15.out nF (by decide) (l := a0) (read_all _ _ _ _ _)).mono ?_
      rintro e w16 ⟨rfl, h16⟩
      have H16 := hide h16
      clear h16 H15
      go_wp2_with fail
      refine (append_st H16.out nF a1 (by decide) E6.out).mono ?_
      rintro e w17 ⟨rfl, h17⟩
      have H17 := hide h17
      clear h17 H16
      go_wp2_with fail
      refine (sync_st H17.out nF (by decide) E7.out).mono ?_
      rintro e w18 ⟨rfl, h18⟩
      have H18 := hide h18
      clear h18 H17
      go_wp2_with fail
      refine (used_st H18.out).mono ?_
      rintro e w19 ⟨rfl, h19⟩
      rw [show ((used (pG 1000 (bs a0 ++ bs a1) (bs a0 ++ bs a1).length false 0 false).fs : Nat) : Int) = (a0.size : Int) + a1.size from hU.out]
      have H19 := hide h19
      clear h19 H18
      go_wp2_with fail
      go_ret
      exact ⟨rfl, H19.out.out⟩
end Go.Proofs.Ytmbjlnnoemenoaa
