/-
  What the laws of layer 6 call: the chapter's examples, and texts of choices.
-/
import Derived.Test.YtpfbiklbecdmiaaNNameD
set_option linter.unusedVariables false
set_option linter.unusedSimpArgs false
namespace Go.Proofs.Ytpfbiklbecdmiaa.Nm

def pick (m : Nat) (tab : List (List UInt8)) (zs : List Int) (k : Nat) : List UInt8 := (List.range k).flatMap fun i => tab.getD ((zs.getD i 0).toNat % m) []
theorem pick_zero (m : Nat) (tab : List (List UInt8)) (zs : List Int) : pick m tab zs 0 = [] := rfl
theorem pick_succ (m : Nat) (tab : List (List UInt8)) (zs : List Int) (k : Nat) : pick m tab zs (k + 1) = pick m tab zs k ++ tab.getD ((zs.getD k 0).toNat % m) [] := by
  unfold pick
  rw [List.range_succ, List.flatMap_append]
  simp
theorem pick_len (m : Nat) (tab : List (List UInt8)) (h : ∀ x ∈ tab, x.length ≤ 4) (zs : List Int) : ∀ k, (pick m tab zs k).length ≤ 4 * k
  | 0 => by simp [pick]
  | k + 1 => by
    have := pick_len m tab h zs k
    rw [pick_succ, List.length_append]
    have h2 : (tab.getD ((zs.getD k 0).toNat % m) []).length ≤ 4 := by
      rw [List.getD_eq_getElem?_getD]
      cases e : tab[(zs.getD k 0).toNat % m]? with
      | none => simp
      | some x => exact h x (List.mem_of_getElem? e)
    omega
def patTab : List (List UInt8) := [[42], [63], [97], [98], [46], [42]]
def nameTab : List (List UInt8) := [[64], [33], [58], [97], [98, 46, 99], [115], [45], [95], [61], [47], [65], [32], [48], [195, 169]]
def plTab : List (List UInt8) := [[97], [98]]
def pat (zs : List Int) (len : Nat) : List UInt8 := pick 6 patTab zs (min len 12)
def name (zs : List Int) (len : Nat) : List UInt8 := pick 14 nameTab zs (min len 12)
def pl (zs : List Int) (len : Nat) : List UInt8 := pick 2 plTab zs (min len 10)
end Go.Proofs.Ytpfbiklbecdmiaa.Nm
namespace Go.Proofs.Ytpfbiklbecdmiaa
open Go.RowKit Go.Shelf

theorem let_other (k : Int) (c1 c2 c3 c4 : Value) (s : ByteArray) (w : World) (hk : ¬ k = 5) :
    Calls Try.prog 24 #[.agg #[.int .i64 k, c1, c2, c3, c4], .string s] w fun e w' => e = .returned (.bool true) ∧ Below w.heap.size w w' := by
  have hb : (k == 5) = false := by simp [hk]
  go_enter Try.func24, Try.ntmps24
  go_wp2_with fail
  go_ret
  exact ⟨rfl, (Below.refl _ _).alloc (Nat.le_refl _) _⟩

theorem nknown_any (w : World) :
    Calls Try.prog 11 #[] w fun e w' => e = .returned (.bool true) ∧ Below w.heap.size w w' := by
  go_enter Try.func11, Try.ntmps11
  go_wp2_with fail
  refine (glob_any _ _ w (by decide) (by decide)).mono ?_
  rintro e w1 ⟨rfl, n, rfl⟩
  rw [show Nm.glob (⟨#[42, 46, 98, 97, 100]⟩ : ByteArray).data.toList (⟨#[97, 46, 98, 97, 100]⟩ : ByteArray).data.toList = true by decide]
  have b1 : Below w.heap.size w (w.drewN n) := below_drewN (Below.refl _ _) n
  generalize w.drewN n = W1 at b1 ⊢
  go_wp2_with fail
  refine (glob_any _ _ W1 (by decide) (by decide)).mono ?_
  rintro e w2 ⟨rfl, n2, rfl⟩
  rw [show Nm.glob (⟨#[42, 46, 98, 97, 100]⟩ : ByteArray).data.toList (⟨#[98, 97, 100]⟩ : ByteArray).data.toList = false by decide]
  have b2 : Below w.heap.size w (W1.drewN n2) := below_drewN b1 n2
  generalize W1.drewN n2 = W2 at b2 ⊢
  clear b1
  go_wp2_with fail
  refine (server_any _ W2 (by decide)).mono ?_
  rintro e w3 ⟨rfl, b3⟩
  rw [show Nm.server (⟨#[64, 97, 58, 98, 46, 99]⟩ : ByteArray).data.toList = [98, 46, 99] by decide]
  have b3' := nthen b2 b3
  clear b2 b3
  go_wp2_with fail
  refine (user_any _ w3 (by decide)).mono ?_
  rintro e w4 ⟨rfl, b4⟩
  rw [show Nm.user (⟨#[64, 97, 58, 98]⟩ : ByteArray).data.toList = true by decide]
  have b4' := nthen b3' b4
  clear b3' b4
  go_wp2_with fail
  refine (user_any _ w4 (by decide)).mono ?_
  rintro e w5 ⟨rfl, b5⟩
  rw [show Nm.user (⟨#[64, 58, 98]⟩ : ByteArray).data.toList = false by decide]
  have b5' := nthen b4' b5
  clear b4' b5
  go_wp2_with fail
  refine (room_any _ w5 (by decide)).mono ?_
  rintro e w6 ⟨rfl, b6⟩
  rw [show Nm.room (⟨#[33, 114, 58, 115]⟩ : ByteArray).data.toList = true by decide]
  have b6' := nthen b5' b6
  clear b5' b6
  go_wp2_with fail
  refine (let_other 0 _ _ _ _ _ w6 (by decide)).mono ?_
  rintro e w7 ⟨rfl, b7⟩
  have b7' := nthen b6' b7
  go_wp2_with fail
  go_ret
  exact ⟨rfl, b7'⟩
end Go.Proofs.Ytpfbiklbecdmiaa
