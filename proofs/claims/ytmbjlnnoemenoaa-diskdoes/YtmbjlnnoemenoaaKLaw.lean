/-
  A disk of layer 9 as a law's walk holds it; known().
-/
import Derived.Test.YtmbjlnnoemenoaaKCrash
set_option linter.unusedVariables false
set_option linter.unusedSimpArgs false
set_option maxRecDepth 100000
namespace Go.Proofs.Ytmbjlnnoemenoaa
open Go.RowKit Go.Maps Dk

/-- a disk of the call's own: all of it above B -/
def St (B : Nat) (w0 w : World) (d : Nat) (P : PD) : Prop := ∃ S, IsD w d S P ∧ Below B w0 w ∧ (∀ k, S k → B ≤ k) ∧ B ≤ w.heap.size
theorem St.turn {B : Nat} {w0 w w' : World} {d : Nat} {S S' : Nat → Prop} {P' : PD} (hb : Below B w0 w) (hs : ∀ k, S k → B ≤ k) (hB : B ≤ w.heap.size) (hd : IsD w' d S' P') (ht : Turn S w S' w') : St B w0 w' d P' :=
  ⟨S', hd, ht.ch.below hb hB hs, fun k hk => by rcases ht.sub k hk with h | h; exact hs k h; omega, Nat.le_trans hB ht.ch.size⟩
theorem St.below {B : Nat} {w0 w w' : World} {d : Nat} {P : PD} (h : St B w0 w d P) (k : Below w.heap.size w w') : St B w0 w' d P := by
  obtain ⟨S, hd, hb, hs, hB⟩ := h
  exact ⟨S, hd.below k, hb.trans (k.mono hB), hs, Nat.le_trans hB k.size⟩
theorem St.out {B : Nat} {w0 w : World} {d : Nat} {P : PD} (h : St B w0 w d P) : Below B w0 w := by obtain ⟨S, _, h, _⟩ := h; exact h

theorem new_st (room : Int) {B : Nat} {w0 w : World} (hb : Below B w0 w) (hB : B ≤ w.heap.size) (hr : -9223372036854775808 ≤ room ∧ room < 9223372036854775808) :
    Calls Try.prog 15 #[.int .i64 room] w fun e w' => ∃ d, e = .returned (ptr d) ∧ St B w0 w' d (new room) := by
  refine (new_any room w hr).mono ?_
  rintro e w' ⟨rfl, h1, h2⟩
  exact ⟨_, rfl, _, h1, hb.trans (h2.mono hB), fun k hk => by omega, Nat.le_trans hB h2.size⟩
theorem append_st {B : Nat} {w0 w : World} {d : Nat} {P : PD} (h : St B w0 w d P) (n b : ByteArray) (hn : n.size ≤ 1099511627776) {c : Nat} {P' : PD} (he : append P (bs n) (bs b) = (c, P')) :
    Calls Try.prog 16 #[ptr d, .string n, .string b] w fun e w' => e = .returned (.int .u16 (c : Int)) ∧ St B w0 w' d P' := by
  obtain ⟨S, ⟨mv, A, hd⟩, hb, hs, hB⟩ := h
  refine (append_any P mv A d S n b w hd hn).mono ?_
  rintro e w' ⟨rfl, S', h1, h2⟩
  rw [he] at h1 ⊢
  exact ⟨rfl, St.turn hb hs hB h1 h2⟩
theorem sync_st {B : Nat} {w0 w : World} {d : Nat} {P : PD} (h : St B w0 w d P) (n : ByteArray) (hn : n.size ≤ 1099511627776) {c : Nat} {P' : PD} (he : sync P (bs n) = (c, P')) :
    Calls Try.prog 17 #[ptr d, .string n] w fun e w' => e = .returned (.int .u16 (c : Int)) ∧ St B w0 w' d P' := by
  obtain ⟨S, hd, hb, hs, hB⟩ := h
  refine (sync_any P d S n w hd hn).mono ?_
  rintro e w' ⟨rfl, S', h1, h2⟩
  rw [he] at h1 ⊢
  exact ⟨rfl, St.turn hb hs hB h1 h2⟩
theorem cut_st {B : Nat} {w0 w : World} {d : Nat} {P : PD} (h : St B w0 w d P) (n : ByteArray) (m : Int) (hn : n.size ≤ 1099511627776) {c : Nat} {P' : PD} (he : cut P (bs n) m = (c, P')) :
    Calls Try.prog 23 #[ptr d, .string n, .int .i64 m] w fun e w' => e = .returned (.int .u16 (c : Int)) ∧ St B w0 w' d P' := by
  obtain ⟨S, hd, hb, hs, hB⟩ := h
  refine (cut_any P d S n m w hd hn).mono ?_
  rintro e w' ⟨rfl, S', h1, h2⟩
  rw [he] at h1 ⊢
  exact ⟨rfl, St.turn hb hs hB h1 h2⟩
theorem fuse_st {B : Nat} {w0 w : World} {d : Nat} {P : PD} (h : St B w0 w d P) (n : Int) (hn : n < 9223372036854775808) :
    Calls Try.prog 18 #[ptr d, .int .i64 n] w fun e w' => e = .returned (.tuple #[]) ∧ St B w0 w' d (fuse P n) := by
  obtain ⟨S, hd, hb, hs, hB⟩ := h
  refine (fuse_any P d S n w hd hn).mono ?_
  rintro e w' ⟨rfl, h1, h2⟩
  exact ⟨rfl, St.turn hb hs hB h1 h2⟩
theorem crash_st {B : Nat} {w0 w : World} {d : Nat} {P : PD} (h : St B w0 w d P) (n : Int) (hn : n < 9223372036854775808) {P' : PD} (he : crash P n = P') :
    Calls Try.prog 19 #[ptr d, .int .i64 n] w fun e w' => e = .returned (.tuple #[]) ∧ St B w0 w' d P' := by
  obtain ⟨S, hd, hb, hs, hB⟩ := h
  refine (crash_any P d S n w hd hn).mono ?_
  rintro e w' ⟨rfl, S', h1, h2⟩
  rw [he] at h1
  exact ⟨rfl, St.turn hb hs hB h1 h2⟩
theorem read_st {B : Nat} {w0 w : World} {d : Nat} {P : PD} (h : St B w0 w d P) (n : ByteArray) (hn : n.size ≤ 1099511627776) {l : ByteArray} (he : read P (bs n) = bs l) :
    Calls Try.prog 20 #[ptr d, .string n] w fun e w' => e = .returned (.string l) ∧ St B w0 w' d P := by
  have h0 := h
  obtain ⟨S, hd, hb, hs, hB⟩ := h
  refine (read_any P d S n w hd hn).mono ?_
  rintro e w' ⟨rfl, h1⟩
  rw [he]
  exact ⟨rfl, h0.below h1⟩
theorem lasting_st {B : Nat} {w0 w : World} {d : Nat} {P : PD} (h : St B w0 w d P) (n : ByteArray) (hn : n.size ≤ 1099511627776) {l : ByteArray} (he : lasting P (bs n) = bs l) :
    Calls Try.prog 21 #[ptr d, .string n] w fun e w' => e = .returned (.string l) ∧ St B w0 w' d P := by
  have h0 := h
  obtain ⟨S, hd, hb, hs, hB⟩ := h
  refine (lasting_any P d S n w hd hn).mono ?_
  rintro e w' ⟨rfl, h1⟩
  rw [he]
  exact ⟨rfl, h0.below h1⟩
theorem used_st {B : Nat} {w0 w : World} {d : Nat} {P : PD} (h : St B w0 w d P) :
    Calls Try.prog 24 #[ptr d] w fun e w' => e = .returned (.int .i64 (used P.fs)) ∧ St B w0 w' d P := by
  have h0 := h
  obtain ⟨S, hd, hb, hs, hB⟩ := h
  refine (used_any P d S w hd).mono ?_
  rintro e w' ⟨rfl, h1⟩
  exact ⟨rfl, h0.below h1⟩
theorem dead_st {B : Nat} {w0 w : World} {d : Nat} {P : PD} (h : St B w0 w d P) :
    Calls Try.prog 22 #[ptr d] w fun e w' => e = .returned (.bool P.dead) ∧ St B w0 w' d P := by
  have h0 := h
  obtain ⟨S, ⟨mv, A, hd⟩, hb, hs, hB⟩ := h
  refine (dead_any P mv d w hd.blk).mono ?_
  rintro e w' ⟨rfl, rfl⟩
  exact ⟨rfl, h0⟩

abbrev nF : ByteArray := ⟨#[102]⟩
abbrev pF (room : Nat) (all : Bs) (last : Nat) : PD := ⟨room, [([102], ⟨all, last⟩)], false, 0, false⟩

set_option maxHeartbeats 2000000 in
theorem known_any (w : World) :
    Calls Try.prog 13 #[] w fun e w' => e = .returned (.bool true) ∧ Below w.heap.size w w' := by
  go_enter Try.func13, Try.ntmps13
  go_wp2_with fail
  refine (new_st 10 (Below.refl w.heap.size w) (Nat.le_refl _) (by decide)).mono ?_
  rintro e w1 ⟨d, rfl, h1⟩
  have H1 := hide h1
  clear h1
  go_wp2_with fail
  refine (append_st H1.out nF ⟨#[97, 98]⟩ (by decide) (show append (new 10) [102] [97, 98] = (0, pF 10 [97, 98] 0) from by kernel_rfl)).mono ?_
  rintro e w2 ⟨rfl, h2⟩
  have H2 := hide h2
  clear h2 H1
  go_wp2_with fail
  refine (sync_st H2.out nF (by decide) (show sync (pF 10 [97, 98] 0) [102] = (0, pF 10 [97, 98] 2) from by kernel_rfl)).mono ?_
  rintro e w3 ⟨rfl, h3⟩
  have H3 := hide h3
  clear h3 H2
  go_wp2_with fail
  refine (append_st H3.out nF ⟨#[99, 100]⟩ (by decide) (show append (pF 10 [97, 98] 2) [102] [99, 100] = (0, pF 10 [97, 98, 99, 100] 2) from by kernel_rfl)).mono ?_
  rintro e w4 ⟨rfl, h4⟩
  have H4 := hide h4
  clear h4 H3
  go_wp2_with fail
  refine (crash_st H4.out 1 (by decide) (show crash (pF 10 [97, 98, 99, 100] 2) 1 = pF 10 [97, 98, 99] 3 from by kernel_rfl)).mono ?_
  rintro e w5 ⟨rfl, h5⟩
  have H5 := hide h5
  clear h5 H4
  go_wp2_with fail
  refine (read_st H5.out nF (by decide) (l := ⟨#[97, 98, 99]⟩) (by kernel_rfl)).mono ?_
  rintro e w6 ⟨rfl, h6⟩
  have H6 := hide h6
  clear h6 H5
  go_wp2_with fail
  refine (lasting_st H6.out nF (by decide) (l := ⟨#[97, 98, 99]⟩) (by kernel_rfl)).mono ?_
  rintro e w7 ⟨rfl, h7⟩
  have H7 := hide h7
  clear h7 H6
  go_wp2_with fail
  refine (append_st H7.out ⟨#[]⟩ ⟨#[97]⟩ (by decide) (show append (pF 10 [97, 98, 99] 3) [] [97] = (1, pF 10 [97, 98, 99] 3) from by kernel_rfl)).mono ?_
  rintro e w8 ⟨rfl, h8⟩
  have H8 := hide h8
  clear h8 H7
  go_wp2_with fail
  refine (append_st H8.out nF ⟨#[49, 50, 51, 52, 53, 54, 55, 56]⟩ (by decide) (show append (pF 10 [97, 98, 99] 3) [102] [49, 50, 51, 52, 53, 54, 55, 56] = (20, pF 10 [97, 98, 99] 3) from by kernel_rfl)).mono ?_
  rintro e w9 ⟨rfl, h9⟩
  have H9 := hide h9
  clear h9 H8
  go_wp2_with fail
  go_ret
  exact ⟨rfl, H9.out.out⟩
end Go.Proofs.Ytmbjlnnoemenoaa
