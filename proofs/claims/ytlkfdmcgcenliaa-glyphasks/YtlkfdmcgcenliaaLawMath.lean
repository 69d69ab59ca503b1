/-
  PLAIN LEAN for the laws of layer 1: texts of choices.
-/
import Derived.Test.YtlkfdmcgcenliaaGlyphMath
set_option linter.unusedVariables false
set_option linter.unusedSimpArgs false
namespace Go.Proofs.Ytlkfdmcgcenliaa.Gm

def textTab : List (List UInt8) := [[97], [98], [34], [92], [10], [1], [195, 169], [226, 130, 172], [240, 159, 152, 128], [255], [237, 160, 128], [12], [127], [239, 191, 189], [8], [9]]
def rawTab : List (List UInt8) := [[97], [92, 110], [92, 117, 48, 48, 52, 49], [92, 117, 100, 56, 51, 100], [92, 117, 100, 101, 48, 48], [92, 117, 48, 48, 69, 57], [92, 34], [92, 92], [92, 47], [92, 120], [92, 117, 49, 50], [10], [195, 169], [255], [92, 117, 68, 66, 70, 70, 92, 117, 68, 70, 70, 70], [34]]
def pick (tab : List (List UInt8)) (zs : List Int) (n : Nat) : List UInt8 := (zs.take n).flatMap fun z => tab.getD (z.toNat % 16) []

theorem pick_zero (tab : List (List UInt8)) (zs : List Int) : pick tab zs 0 = [] := by simp [pick]
theorem pick_succ (tab : List (List UInt8)) (zs : List Int) (n : Nat) (h : n < zs.length) : pick tab zs (n + 1) = pick tab zs n ++ tab.getD ((zs.getD n 0).toNat % 16) [] := by
  unfold pick
  rw [List.take_succ_eq_append_getElem h, List.flatMap_append]
  simp [List.getD_eq_getElem?_getD, h]
theorem tab_le (k : Nat) : (textTab.getD k []).length ≤ 4 ∧ (rawTab.getD k []).length ≤ 12 := by
  by_cases h : k < 16
  · have : ∀ k ∈ List.range 16, (textTab.getD k []).length ≤ 4 ∧ (rawTab.getD k []).length ≤ 12 := by decide
    exact this k (List.mem_range.2 h)
  · have h1 : textTab.getD k [] = [] := by
      rw [List.getD_eq_getElem?_getD, List.getElem?_eq_none (by simp [textTab]; omega)]; rfl
    have h2 : rawTab.getD k [] = [] := by
      rw [List.getD_eq_getElem?_getD, List.getElem?_eq_none (by simp [rawTab]; omega)]; rfl
    rw [h1, h2]; simp
theorem pick_text_le (zs : List Int) (n : Nat) : (pick textTab zs n).length ≤ 4 * n := by
  have key : ∀ m : List Int, (m.flatMap fun z => textTab.getD (z.toNat % 16) []).length ≤ 4 * m.length := by
    intro m
    induction m with
    | nil => simp
    | cons a m ih =>
      have := (tab_le (a.toNat % 16)).1
      rw [List.flatMap_cons, List.length_append, List.length_cons]
      omega
  have h1 := key (zs.take n)
  have h2 : (zs.take n).length ≤ n := List.length_take_le _ _
  unfold pick
  omega
theorem pick_raw_le (zs : List Int) (n : Nat) : (pick rawTab zs n).length ≤ 12 * n := by
  have key : ∀ m : List Int, (m.flatMap fun z => rawTab.getD (z.toNat % 16) []).length ≤ 12 * m.length := by
    intro m
    induction m with
    | nil => simp
    | cons a m ih =>
      have := (tab_le (a.toNat % 16)).2
      rw [List.flatMap_cons, List.length_append, List.length_cons]
      omega
  have h1 := key (zs.take n)
  have h2 : (zs.take n).length ≤ n := List.length_take_le _ _
  unfold pick
  omega

end Go.Proofs.Ytlkfdmcgcenliaa.Gm
