/-
  Layer 7,plain: how long the rows of what choices make are.
-/
import Derived.Test.YtapcmbbhhclepaaGreatDoorS23
set_option linter.unusedVariables false
set_option linter.unusedSimpArgs false
set_option maxRecDepth 100000
namespace Go.Proofs.YtapcmbbhhclepaaGreatDoor
open Go.RowKit
open V

namespace Xr
theorem costL_take' (l : List V) (n : Nat) : costL (l.take n) ≤ costL l := costL_take l n
theorem cost_obj (c : Int) (kids : List V) (j : Nat) (hj : j ≤ kids.length) : cost (objTo c kids j) ≤ 24 + 63 * j + costL (kids.take j) := by
  induction j with
  | zero =>
    have e3 : cost none5 = 24 := by unfold none5; rw [cost_mk]; rfl
    simp only [objTo,e3]; omega
  | succ j ih =>
    have h1 := cost_with (objTo c kids j) (objKey c j) (kids.getD j nul)
    have h2 := ih (by omega)
    have h3 := objKey_size c j
    have h4 : kids.getD j nul = kids[j] := by simp [List.getD,List.getElem?_eq_getElem (show j < kids.length by omega)]
    have h5 : costL (kids.take (j + 1)) = costL (kids.take j) + cost kids[j] := by
      rw [List.take_succ_eq_append_getElem (by omega),costL_append,costL_cons,costL_nil]; omega
    simp only [objTo]
    rw [h4] at h1
    rw [h5,h4]
    omega
theorem cost_step (zs : List Int) (len i : Nat) (l : List V) : costL (stepV zs len i l) ≤ costL l + 213 := by
  unfold stepV
  generalize zs.getD i 0 % 12 = b
  generalize zs.getD (i + 1) 0 = c
  rw [costL_append,costL_cons,costL_nil]
  have hk : kidsN c l ≤ l.length := by unfold kidsN; omega
  have hk4 : kidsN c l ≤ 3 := by unfold kidsN; omega
  have hs := costL_append (l.take (l.length - kidsN c l)) (l.drop (l.length - kidsN c l))
  rw [List.take_append_drop] at hs
  have hd : (l.drop (l.length - kidsN c l)).length = kidsN c l := by rw [List.length_drop]; omega
  have hb : ∀ (k n : Int) (t : ByteArray),t.size ≤ 12 → cost ⟨k,n,t,[],[]⟩ ≤ 96 := by
    intro k n t ht; rw [cost_mk]; simp only [costK,costL_nil]; omega
  have e0 : (⟨#[]⟩ : ByteArray).size ≤ 12 := by decide
  by_cases h0 : b = 0
  · rw [stepX_0 h0,stepL_all (by omega)]; have := hb 1 (c % 2) ⟨#[]⟩ e0; omega
  · by_cases h1 : b = 1 ∨ b = 2 ∨ b = 3
    · rw [stepX_1 h1,stepL_all (by omega)]; have := hb 2 (c - 100) ⟨#[]⟩ e0; omega
    · by_cases h4 : b = 4
      · rw [stepX_4 h4,stepL_all (by omega)]; have := hb 2 (9007199254740991 - c % 2) ⟨#[]⟩ e0; omega
      · by_cases h5 : b = 5 ∨ b = 6
        · rw [stepX_5 h5,stepL_all (by omega)]; have := hb 3 0 _ (textOf_size zs len i); omega
        · by_cases h7 : b = 7
          · rw [stepX_7 h7,stepL_cut (by omega),cost_mk]
            have e1 : (⟨#[]⟩ : ByteArray).size = 0 := rfl
            simp only [costK,e1]; omega
          · by_cases h8 : b = 8 ∨ b = 9 ∨ b = 10
            · rw [stepX_8 h8,stepL_cut (by omega)]
              have h1 := cost_obj c (l.drop (l.length - kidsN c l)) (kidsN c l) (by omega)
              have h2 := costL_take (l.drop (l.length - kidsN c l)) (kidsN c l)
              omega
            · rw [stepX_e (by omega),stepL_all (by omega)]; have := hb 0 0 ⟨#[]⟩ e0; unfold nul; omega
theorem cost_valTo (zs : List Int) (len r : Nat) : costL (valTo zs len r) ≤ 213 * r := by
  induction r with
  | zero => simp [valTo,costL_nil]
  | succ r ih => have := cost_step zs len (2 * r) (valTo zs len r); simp only [valTo]; omega
theorem cost_part (zs : List Int) (len : Nat) (k : Int) : cost (V.part zs len k) ≤ 6400 := by
  unfold V.part
  have hn : cost nul = 24 := by unfold nul; rw [cost_mk]; rfl
  split
  · omega
  · have h1 : costL (valV zs len).list ≤ 6390 := by
      have := cost_valTo zs len (min 30 (len / 2))
      show costL (valTo zs len (min 30 (len / 2))) ≤ 6390
      omega
    simp only [List.getD]
    cases h : (valV zs len).list[k.toNat % (valV zs len).list.length]? with
    | none => simp only [Option.getD_none]; omega
    | some x =>
      have h2 := costL_mem (List.mem_of_getElem? h)
      simp only [Option.getD_some]
      omega
theorem cost_str (s : ByteArray) : cost (str s) = 24 + 6 * s.size := by unfold str; rw [cost_mk]; simp [costK,costL_nil]
theorem cost_num (n : Int) : cost (numV n) = 24 := by
  unfold numV
  rw [cost_mk]
  have e : (⟨#[]⟩ : ByteArray).size = 0 := rfl
  simp [costK,costL_nil,e]
end Xr
def Xr.kindsL : List ByteArray := [⟨#[109,46,114,111,111,109,46,99,114,101,97,116,101]⟩,⟨#[109,46,114,111,111,109,46,109,101,109,98,101,114]⟩,⟨#[109,46,114,111,111,109,46,112,111,119,101,114,95,108,101,118,101,108,115]⟩,⟨#[109,46,114,111,111,109,46,106,111,105,110,95,114,117,108,101,115]⟩,⟨#[109,46,114,111,111,109,46,115,101,114,118,101,114,95,97,99,108]⟩,⟨#[109,46,114,111,111,109,46,109,101,115,115,97,103,101]⟩,⟨#[116]⟩]
def Xr.kindN (k : Int) : ByteArray := Xr.kindsL.getD (k % 7).toNat ByteArray.empty
theorem kind_any (k : Int) (w : World) (hk0 : 0 ≤ k) (hk1 : k ≤ 255) :
    Calls Tryz.prog 17 #[.int .u8 k] w fun e w' => e = .returned (.string (Xr.kindN k)) ∧ Below w.heap.size w w' := by
  have hrow : (w.alloc (.cells (Xr.kindsL.map Value.string).toArray 9)).cell? ⟨w.heap.size,(k % 7).toNat,none⟩ = some (.string (Xr.kindsL.getD (k % 7).toNat ByteArray.empty)) := by
    have hl : (k % 7).toNat < Xr.kindsL.length := by show _ < 7; omega
    obtain ⟨h1,_⟩ := row_new w (Xr.kindsL.map Value.string).toArray 9 w.heap.size rfl (k % 7).toNat (by simpa using hl)
    rw [h1]
    simp [List.getD,hl]
  have hp1 : 0 ≤ k % 7 := by omega
  have hp2 : k % 7 < 7 := by omega
  unfold Xr.kindN
  generalize Xr.kindsL.getD (k % 7).toNat ByteArray.empty = Q at hrow
  simp only [Xr.kindsL,List.map_cons,List.map_nil] at hrow
  go_enter Tryz.func17,Tryz.ntmps17
  go_wp2_with fail
  go_ret
  exact ⟨rfl,below_alloc _ _⟩
end Go.Proofs.YtapcmbbhhclepaaGreatDoor
