/-
  THE WALK of two.same (layer 9's DiskDoes).
-/
import Derived.Test.YtmbjlnnoemenoaaKDoes
set_option linter.unusedVariables false
set_option linter.unusedSimpArgs false
set_option maxRecDepth 100000
namespace Go.Proofs.Ytmbjlnnoemenoaa
open Go.RowKit Go.Maps Dk

theorem bthen0 {B : Nat} {a b c : World} (h : Below B a b) (k : Below b.heap.size b c) (hB : B ≤ b.heap.size := by omega) : Below B a c := h.trans (k.mono hB)
def fileAt (a : Int) : ByteArray := nms.getD (a.tmod 6).toNat ⟨#[]⟩
theorem fileAt_mem (a : Int) : (fileAt a).size ≤ 1099511627776 := by
  unfold fileAt
  rw [List.getD_eq_getElem?_getD]
  cases h : nms[(a.tmod 6).toNat]? with
  | none => decide
  | some x => exact nms_small _ (List.mem_of_getElem? h)

set_option maxHeartbeats 1000000 in
theorem file_is (a : Int) (h : 0 ≤ a ∧ a < 256) (w : World) :
    Calls Try.prog 26 #[.int .u8 a] w fun e w' => e = .returned (.string (fileAt a)) ∧ Below w.heap.size w w' := by
  obtain ⟨q, hq, hq6⟩ : ∃ q : Nat, a.tmod 6 = q ∧ q < 6 := ⟨(a.tmod 6).toNat, by rw [Int.tmod_eq_emod_of_nonneg h.1]; omega, by rw [Int.tmod_eq_emod_of_nonneg h.1]; omega⟩
  have hqi : (q : Int) < 6 := by omega
  have hcell : (w.alloc (.cells #[.string ⟨#[108, 111, 103]⟩, .string ⟨#[98]⟩, .string ⟨#[97]⟩, .string ⟨#[99]⟩, .string ⟨#[100]⟩, .string ⟨#[]⟩] 9)).cell? ⟨w.heap.size, q, none⟩ = some (.string (fileAt a)) := by
    have hb := Blk.new w #[.string ⟨#[108, 111, 103]⟩, .string ⟨#[98]⟩, .string ⟨#[97]⟩, .string ⟨#[99]⟩, .string ⟨#[100]⟩, .string ⟨#[]⟩] 9
    have hf : fileAt a = nms.getD q ⟨#[]⟩ := by unfold fileAt; rw [hq]; rfl
    rw [hf]
    rcases q with _ | _ | _ | _ | _ | _ | q
    · exact hb.cell 0
    · exact hb.cell 1
    · exact hb.cell 2
    · exact hb.cell 3
    · exact hb.cell 4
    · exact hb.cell 5
    · omega
  go_enter Try.func26, Try.ntmps26
  go_wp2_with fail
  go_ret
  exact ⟨rfl, (Below.refl _ _).alloc (Nat.le_refl _) _⟩

set_option maxHeartbeats 8000000 in
theorem tsame_any (B : Nat) (w0 w : World) (t d e : Nat) (P : PD) (h : Tz B w0 w t t d e (.cells #[ptr d, ptr e] 52 (0, 0)) P P) :
    Calls Try.prog 29 #[ptr t] w fun r w' => r = .returned (.bool true) ∧ Below w.heap.size w w' := by
  have HH := hide h
  clear h
  go_enter Try.func29, Try.ntmps29
  go_wp2_with fail
  go_loopw [3] (fun i wr => ∃ k : Nat, i = .int .u8 k ∧ k ≤ 6 ∧ Hid (Tz B w0 wr t t d e (.cells #[ptr d, ptr e] 52 (0, 0)) P P) ∧ Hid (Below w.heap.size w wr)) (fun i _ => 6 - (intOf i).toNat)
  case atStart => exact ⟨0, rfl, by omega, HH, hide (Below.refl _ _)⟩
  case round =>
    obtain ⟨k, rfl, hk, HZ, HB⟩ := hrel
    have hsz := HB.out.size
    by_cases hlt : k < 6
    · have hli : (k : Int) < 6 := by omega
      obtain ⟨nm, hnm⟩ : ∃ nm, nm = fileAt (k : Int) := ⟨_, rfl⟩
      have hns : nm.size ≤ 1099511627776 := by rw [hnm]; exact fileAt_mem _
      have HNM := hide hnm
      obtain ⟨RR, hRR⟩ : ∃ RR : ByteArray, RR = ⟨(read P (bs nm)).toArray⟩ := ⟨_, rfl⟩
      have HRR := hide hRR
      obtain ⟨LL, hLL⟩ : ∃ LL : ByteArray, LL = ⟨(lasting P (bs nm)).toArray⟩ := ⟨_, rfl⟩
      have HLL := hide hLL
      clear hnm hRR hLL
      go_upto_region 4 with fail
      refine' wp_region_facts [(fun _ _ v _ => v = (.pointer (some ⟨t, 0, none⟩))), (fun _ _ v _ => v = (.pointer (some ⟨t, 0, none⟩))), (fun _ _ v _ => v = (.pointer (some ⟨t, 0, none⟩))), (fun _ _ v _ => v = (.pointer (some ⟨d, 0, none⟩))), (fun _ _ v _ => v = (.int .u8 (k : Int))), (fun _ _ v _ => v = (.string nm)), (fun _ _ v _ => v = (.string RR)), (fun _ _ v _ => v = (.pointer (some ⟨t, 0, none⟩))), (fun _ _ v _ => v = (.pointer (some ⟨t, 0, none⟩))), (fun _ _ v _ => v = (.pointer (some ⟨t, 1, none⟩))), (fun _ _ v _ => v = (.pointer (some ⟨e, 0, none⟩))), (fun _ _ v _ => v = (.int .u8 (k : Int))), (fun _ _ v _ => v = (.string nm)), (fun _ _ v _ => v = (.string RR)), (fun _ _ v _ => v = (.bool false)), (fun _ _ v _ => v = (.bool false)), (fun _ _ v _ => v = (.pointer (some ⟨t, 0, none⟩))), (fun _ _ v _ => v = (.pointer (some ⟨t, 0, none⟩))), (fun _ _ v _ => v = (.pointer (some ⟨t, 0, none⟩))), (fun _ _ v _ => v = (.pointer (some ⟨d, 0, none⟩))), (fun _ _ v _ => v = (.int .u8 (k : Int))), (fun _ _ v _ => v = (.string nm)), (fun _ _ v _ => v = (.string LL)), (fun _ _ v _ => v = (.pointer (some ⟨t, 0, none⟩))), (fun _ _ v _ => v = (.pointer (some ⟨t, 0, none⟩))), (fun _ _ v _ => v = (.pointer (some ⟨t, 1, none⟩))), (fun _ _ v _ => v = (.pointer (some ⟨e, 0, none⟩))), (fun _ _ v _ => v = (.int .u8 (k : Int))), (fun _ _ v _ => v = (.string nm)), (fun _ _ v _ => v = (.string LL)), (fun _ _ v _ => v = (.bool false))] (by kernel_rfl) rfl ?hA (by kernel_rfl) (by kernel_rfl) (by kernel_rfl) rfl ?mono ?steps ?last
      case hA =>
        intro vs
        simp only [puts, Act.put, List.setIfInBounds_toArray, List.set_cons_zero, List.set_cons_succ, Nat.zero_add, Nat.reduceAdd]
        rfl
      case mono => exact ⟨mono_eq _, mono_eq _, mono_eq _, mono_eq _, mono_eq _, mono_eq _, mono_eq _, mono_eq _, mono_eq _, mono_eq _, mono_eq _, mono_eq _, mono_eq _, mono_eq _, mono_eq _, mono_eq _, mono_eq _, mono_eq _, mono_eq _, mono_eq _, mono_eq _, mono_eq _, mono_eq _, mono_eq _, mono_eq _, mono_eq _, mono_eq _, mono_eq _, mono_eq _, mono_eq _, mono_eq _, trivial⟩
      case steps =>
        intro Q'
        refine And.intro ?_ ?_
        · intro vs lo hi w' hM hd K' hK
          dsimp only at hK ⊢
          simp only [Act.put, List.setIfInBounds_toArray, List.set_cons_zero, List.set_cons_succ] at hK
          go_simp
          exact hK.out _ _ rfl (Below.refl _ _)
        refine And.intro ?_ ?_
        · intro vs lo hi w' hM hd K' hK
          dsimp only at hK ⊢
          simp only [Act.put, List.setIfInBounds_toArray, List.set_cons_zero, List.set_cons_succ] at hK
          have e0 : vs 0 = (.pointer (some ⟨t, 0, none⟩)) := hd 0 (by kernel_rfl)
          simp only [e0] at hK ⊢
          clear e0
          go_simp
          exact hK.out _ _ rfl (Below.refl _ _)
        refine And.intro ?_ ?_
        · intro vs lo hi w' hM hd K' hK
          dsimp only at hK ⊢
          simp only [Act.put, List.setIfInBounds_toArray, List.set_cons_zero, List.set_cons_succ] at hK
          have e1 : vs 1 = (.pointer (some ⟨t, 0, none⟩)) := hd 1 (by kernel_rfl)
          simp only [e1] at hK ⊢
          clear e1
          go_simp
          exact hK.out _ _ rfl (Below.refl _ _)
        refine And.intro ?_ ?_
        · intro vs lo hi w' hM hd K' hK
          dsimp only at hK ⊢
          simp only [Act.put, List.setIfInBounds_toArray, List.set_cons_zero, List.set_cons_succ] at hK
          have e2 : vs 2 = (.pointer (some ⟨t, 0, none⟩)) := hd 2 (by kernel_rfl)
          simp only [e2] at hK ⊢
          clear e2
          have hJ := HZ.out.below hM
          have q0 := hJ.blk.cell 0
          simp at q0
          clear hJ
          go_simp
          exact hK.out _ _ rfl (Below.refl _ _)
        refine And.intro ?_ ?_
        · intro vs lo hi w' hM hd K' hK
          dsimp only at hK ⊢
          simp only [Act.put, List.setIfInBounds_toArray, List.set_cons_zero, List.set_cons_succ] at hK
          go_simp
          exact hK.out _ _ rfl (Below.refl _ _)
        refine And.intro ?_ ?_
        · intro vs lo hi w' hM hd K' hK
          dsimp only at hK ⊢
          simp only [Act.put, List.setIfInBounds_toArray, List.set_cons_zero, List.set_cons_succ] at hK
          have e4 : vs 4 = (.int .u8 (k : Int)) := hd 4 (by kernel_rfl)
          simp only [e4] at hK ⊢
          clear e4
          go_simp
          refine (file_is (k : Int) (by omega) _).mono ?_
          rintro r w7 ⟨rfl, b7⟩
          exact hK.out _ _ (show Value.string _ = Value.string nm by rw [HNM.out]) b7
        refine And.intro ?_ ?_
        · intro vs lo hi w' hM hd K' hK
          dsimp only at hK ⊢
          simp only [Act.put, List.setIfInBounds_toArray, List.set_cons_zero, List.set_cons_succ] at hK
          have e3 : vs 3 = (.pointer (some ⟨d, 0, none⟩)) := hd 3 (by kernel_rfl)
          have e5 : vs 5 = (.string nm) := hd 5 (by kernel_rfl)
          simp only [e3, e5] at hK ⊢
          clear e3 e5
          go_simp
          obtain ⟨S, T, hs⟩ := HZ.out.below hM
          refine (read_any P d S nm _ hs.disk hns).mono ?_
          rintro r w7 ⟨rfl, b7⟩
          exact hK.out _ _ (show Value.string _ = Value.string RR by rw [HRR.out]) b7
        refine And.intro ?_ ?_
        · intro vs lo hi w' hM hd K' hK
          dsimp only at hK ⊢
          simp only [Act.put, List.setIfInBounds_toArray, List.set_cons_zero, List.set_cons_succ] at hK
          go_simp
          exact hK.out _ _ rfl (Below.refl _ _)
        refine And.intro ?_ ?_
        · intro vs lo hi w' hM hd K' hK
          dsimp only at hK ⊢
          simp only [Act.put, List.setIfInBounds_toArray, List.set_cons_zero, List.set_cons_succ] at hK
          have e7 : vs 7 = (.pointer (some ⟨t, 0, none⟩)) := hd 7 (by kernel_rfl)
          simp only [e7] at hK ⊢
          clear e7
          go_simp
          exact hK.out _ _ rfl (Below.refl _ _)
        refine And.intro ?_ ?_
        · intro vs lo hi w' hM hd K' hK
          dsimp only at hK ⊢
          simp only [Act.put, List.setIfInBounds_toArray, List.set_cons_zero, List.set_cons_succ] at hK
          have e8 : vs 8 = (.pointer (some ⟨t, 0, none⟩)) := hd 8 (by kernel_rfl)
          simp only [e8] at hK ⊢
          clear e8
          go_simp
          exact hK.out _ _ rfl (Below.refl _ _)
        refine And.intro ?_ ?_
        · intro vs lo hi w' hM hd K' hK
          dsimp only at hK ⊢
          simp only [Act.put, List.setIfInBounds_toArray, List.set_cons_zero, List.set_cons_succ] at hK
          have e9 : vs 9 = (.pointer (some ⟨t, 1, none⟩)) := hd 9 (by kernel_rfl)
          simp only [e9] at hK ⊢
          clear e9
          have hJ := HZ.out.below hM
          have q0 := hJ.blk.cell 1
          simp at q0
          clear hJ
          go_simp
          exact hK.out _ _ rfl (Below.refl _ _)
        refine And.intro ?_ ?_
        · intro vs lo hi w' hM hd K' hK
          dsimp only at hK ⊢
          simp only [Act.put, List.setIfInBounds_toArray, List.set_cons_zero, List.set_cons_succ] at hK
          go_simp
          exact hK.out _ _ rfl (Below.refl _ _)
        refine And.intro ?_ ?_
        · intro vs lo hi w' hM hd K' hK
          dsimp only at hK ⊢
          simp only [Act.put, List.setIfInBounds_toArray, List.set_cons_zero, List.set_cons_succ] at hK
          have e11 : vs 11 = (.int .u8 (k : Int)) := hd 11 (by kernel_rfl)
          simp only [e11] at hK ⊢
          clear e11
          go_simp
          refine (file_is (k : Int) (by omega) _).mono ?_
          rintro r w7 ⟨rfl, b7⟩
          exact hK.out _ _ (show Value.string _ = Value.string nm by rw [HNM.out]) b7
        refine And.intro ?_ ?_
        · intro vs lo hi w' hM hd K' hK
          dsimp only at hK ⊢
          simp only [Act.put, List.setIfInBounds_toArray, List.set_cons_zero, List.set_cons_succ] at hK
          have e10 : vs 10 = (.pointer (some ⟨e, 0, none⟩)) := hd 10 (by kernel_rfl)
          have e12 : vs 12 = (.string nm) := hd 12 (by kernel_rfl)
          simp only [e10, e12] at hK ⊢
          clear e10 e12
          go_simp
          obtain ⟨S, T, hs⟩ := HZ.out.below hM
          refine (rread_any P e T nm _ hs.ref).mono ?_
          rintro r w7 ⟨rfl, b7⟩
          exact hK.out _ _ (show Value.string _ = Value.string RR by rw [HRR.out]) b7
        refine And.intro ?_ ?_
        · intro vs lo hi w' hM hd K' hK
          dsimp only at hK ⊢
          simp only [Act.put, List.setIfInBounds_toArray, List.set_cons_zero, List.set_cons_succ] at hK
          have e6 : vs 6 = (.string RR) := hd 6 (by kernel_rfl)
          have e13 : vs 13 = (.string RR) := hd 13 (by kernel_rfl)
          simp only [e6, e13] at hK ⊢
          clear e6 e13
          go_simp
          exact hK.out _ _ rfl (Below.refl _ _)
        refine And.intro ?_ ?_
        · intro vs lo hi w' hM hd K' hK
          dsimp only at hK ⊢
          simp only [Act.put, List.setIfInBounds_toArray, List.set_cons_zero, List.set_cons_succ] at hK
          have e14 : vs 14 = (.bool false) := hd 14 (by kernel_rfl)
          simp only [e14] at hK ⊢
          clear e14
          go_simp
          exact hK.out _ _ rfl (Below.refl _ _)
        refine And.intro ?_ ?_
        · intro vs lo hi w' hM hd K' hK
          dsimp only at hK ⊢
          simp only [Act.put, List.setIfInBounds_toArray, List.set_cons_zero, List.set_cons_succ] at hK
          have e15 : vs 15 = (.bool false) := hd 15 (by kernel_rfl)
          simp only [e15] at hK ⊢
          clear e15
          go_simp
          exact hK.out _ _ rfl (Below.refl _ _)
        refine And.intro ?_ ?_
        · intro vs lo hi w' hM hd K' hK
          dsimp only at hK ⊢
          simp only [Act.put, List.setIfInBounds_toArray, List.set_cons_zero, List.set_cons_succ] at hK
          have e16 : vs 16 = (.pointer (some ⟨t, 0, none⟩)) := hd 16 (by kernel_rfl)
          have e15 : vs 15 = (.bool false) := hd 15 (by kernel_rfl)
          simp only [e16, e15] at hK ⊢
          clear e16 e15
          go_simp
          exact hK.out _ _ rfl (Below.refl _ _)
        refine And.intro ?_ ?_
        · intro vs lo hi w' hM hd K' hK
          dsimp only at hK ⊢
          simp only [Act.put, List.setIfInBounds_toArray, List.set_cons_zero, List.set_cons_succ] at hK
          have e17 : vs 17 = (.pointer (some ⟨t, 0, none⟩)) := hd 17 (by kernel_rfl)
          have e15 : vs 15 = (.bool false) := hd 15 (by kernel_rfl)
          simp only [e17, e15] at hK ⊢
          clear e17 e15
          go_simp
          exact hK.out _ _ rfl (Below.refl _ _)
        refine And.intro ?_ ?_
        · intro vs lo hi w' hM hd K' hK
          dsimp only at hK ⊢
          simp only [Act.put, List.setIfInBounds_toArray, List.set_cons_zero, List.set_cons_succ] at hK
          have e18 : vs 18 = (.pointer (some ⟨t, 0, none⟩)) := hd 18 (by kernel_rfl)
          have e15 : vs 15 = (.bool false) := hd 15 (by kernel_rfl)
          simp only [e18, e15] at hK ⊢
          clear e18 e15
          have hJ := HZ.out.below hM
          have q0 := hJ.blk.cell 0
          simp at q0
          clear hJ
          go_simp
          exact hK.out _ _ rfl (Below.refl _ _)
        refine And.intro ?_ ?_
        · intro vs lo hi w' hM hd K' hK
          dsimp only at hK ⊢
          simp only [Act.put, List.setIfInBounds_toArray, List.set_cons_zero, List.set_cons_succ] at hK
          have e15 : vs 15 = (.bool false) := hd 15 (by kernel_rfl)
          simp only [e15] at hK ⊢
          clear e15
          go_simp
          exact hK.out _ _ rfl (Below.refl _ _)
        refine And.intro ?_ ?_
        · intro vs lo hi w' hM hd K' hK
          dsimp only at hK ⊢
          simp only [Act.put, List.setIfInBounds_toArray, List.set_cons_zero, List.set_cons_succ] at hK
          have e20 : vs 20 = (.int .u8 (k : Int)) := hd 20 (by kernel_rfl)
          have e15 : vs 15 = (.bool false) := hd 15 (by kernel_rfl)
          simp only [e20, e15] at hK ⊢
          clear e20 e15
          go_simp
          refine (file_is (k : Int) (by omega) _).mono ?_
          rintro r w7 ⟨rfl, b7⟩
          exact hK.out _ _ (show Value.string _ = Value.string nm by rw [HNM.out]) b7
        refine And.intro ?_ ?_
        · intro vs lo hi w' hM hd K' hK
          dsimp only at hK ⊢
          simp only [Act.put, List.setIfInBounds_toArray, List.set_cons_zero, List.set_cons_succ] at hK
          have e19 : vs 19 = (.pointer (some ⟨d, 0, none⟩)) := hd 19 (by kernel_rfl)
          have e21 : vs 21 = (.string nm) := hd 21 (by kernel_rfl)
          have e15 : vs 15 = (.bool false) := hd 15 (by kernel_rfl)
          simp only [e19, e21, e15] at hK ⊢
          clear e19 e21 e15
          go_simp
          obtain ⟨S, T, hs⟩ := HZ.out.below hM
          refine (lasting_any P d S nm _ hs.disk hns).mono ?_
          rintro r w7 ⟨rfl, b7⟩
          exact hK.out _ _ (show Value.string _ = Value.string LL by rw [HLL.out]) b7
        refine And.intro ?_ ?_
        · intro vs lo hi w' hM hd K' hK
          dsimp only at hK ⊢
          simp only [Act.put, List.setIfInBounds_toArray, List.set_cons_zero, List.set_cons_succ] at hK
          have e15 : vs 15 = (.bool false) := hd 15 (by kernel_rfl)
          simp only [e15] at hK ⊢
          clear e15
          go_simp
          exact hK.out _ _ rfl (Below.refl _ _)
        refine And.intro ?_ ?_
        · intro vs lo hi w' hM hd K' hK
          dsimp only at hK ⊢
          simp only [Act.put, List.setIfInBounds_toArray, List.set_cons_zero, List.set_cons_succ] at hK
          have e23 : vs 23 = (.pointer (some ⟨t, 0, none⟩)) := hd 23 (by kernel_rfl)
          have e15 : vs 15 = (.bool false) := hd 15 (by kernel_rfl)
          simp only [e23, e15] at hK ⊢
          clear e23 e15
          go_simp
          exact hK.out _ _ rfl (Below.refl _ _)
        refine And.intro ?_ ?_
        · intro vs lo hi w' hM hd K' hK
          dsimp only at hK ⊢
          simp only [Act.put, List.setIfInBounds_toArray, List.set_cons_zero, List.set_cons_succ] at hK
          have e24 : vs 24 = (.pointer (some ⟨t, 0, none⟩)) := hd 24 (by kernel_rfl)
          have e15 : vs 15 = (.bool false) := hd 15 (by kernel_rfl)
          simp only [e24, e15] at hK ⊢
          clear e24 e15
          go_simp
          exact hK.out _ _ rfl (Below.refl _ _)
        refine And.intro ?_ ?_
        · intro vs lo hi w' hM hd K' hK
          dsimp only at hK ⊢
          simp only [Act.put, List.setIfInBounds_toArray, List.set_cons_zero, List.set_cons_succ] at hK
          have e25 : vs 25 = (.pointer (some ⟨t, 1, none⟩)) := hd 25 (by kernel_rfl)
          have e15 : vs 15 = (.bool false) := hd 15 (by kernel_rfl)
          simp only [e25, e15] at hK ⊢
          clear e25 e15
          have hJ := HZ.out.below hM
          have q0 := hJ.blk.cell 1
          simp at q0
          clear hJ
          go_simp
          exact hK.out _ _ rfl (Below.refl _ _)
        refine And.intro ?_ ?_
        · intro vs lo hi w' hM hd K' hK
          dsimp only at hK ⊢
          simp only [Act.put, List.setIfInBounds_toArray, List.set_cons_zero, List.set_cons_succ] at hK
          have e15 : vs 15 = (.bool false) := hd 15 (by kernel_rfl)
          simp only [e15] at hK ⊢
          clear e15
          go_simp
          exact hK.out _ _ rfl (Below.refl _ _)
        refine And.intro ?_ ?_
        · intro vs lo hi w' hM hd K' hK
          dsimp only at hK ⊢
          simp only [Act.put, List.setIfInBounds_toArray, List.set_cons_zero, List.set_cons_succ] at hK
          have e27 : vs 27 = (.int .u8 (k : Int)) := hd 27 (by kernel_rfl)
          have e15 : vs 15 = (.bool false) := hd 15 (by kernel_rfl)
          simp only [e27, e15] at hK ⊢
          clear e27 e15
          go_simp
          refine (file_is (k : Int) (by omega) _).mono ?_
          rintro r w7 ⟨rfl, b7⟩
          exact hK.out _ _ (show Value.string _ = Value.string nm by rw [HNM.out]) b7
        refine And.intro ?_ ?_
        · intro vs lo hi w' hM hd K' hK
          dsimp only at hK ⊢
          simp only [Act.put, List.setIfInBounds_toArray, List.set_cons_zero, List.set_cons_succ] at hK
          have e26 : vs 26 = (.pointer (some ⟨e, 0, none⟩)) := hd 26 (by kernel_rfl)
          have e28 : vs 28 = (.string nm) := hd 28 (by kernel_rfl)
          have e15 : vs 15 = (.bool false) := hd 15 (by kernel_rfl)
          simp only [e26, e28, e15] at hK ⊢
          clear e26 e28 e15
          go_simp
          obtain ⟨S, T, hs⟩ := HZ.out.below hM
          refine (rlasting_any P e T nm _ hs.ref).mono ?_
          rintro r w7 ⟨rfl, b7⟩
          exact hK.out _ _ (show Value.string _ = Value.string LL by rw [HLL.out]) b7
        refine And.intro ?_ ?_
        · intro vs lo hi w' hM hd K' hK
          dsimp only at hK ⊢
          simp only [Act.put, List.setIfInBounds_toArray, List.set_cons_zero, List.set_cons_succ] at hK
          have e22 : vs 22 = (.string LL) := hd 22 (by kernel_rfl)
          have e29 : vs 29 = (.string LL) := hd 29 (by kernel_rfl)
          have e15 : vs 15 = (.bool false) := hd 15 (by kernel_rfl)
          simp only [e22, e29, e15] at hK ⊢
          clear e22 e29 e15
          go_simp
          exact hK.out _ _ rfl (Below.refl _ _)
        exact trivial
      case last =>
        intro vs lo hi w' hM hlo hap hall K' Q' hK
        obtain ⟨_, _, _, _, _, _, _, _, _, _, _, _, _, _, _, e15, _, _, _, _, _, _, _, _, _, _, _, _, _, _, e30, _⟩ := hall
        dsimp only
        simp only [e15, e30]
        clear e15 e30 hap hlo
        go_simp
        refine hK.out _ _ ?_
        clear hK
        have HB2 := hide (bthen0 HB.out hM)
        have HZ2 := hide (HZ.out.below hM)
        clear hM
        go_wp2_with fail
        go_roundw
        case rel => exact ⟨k + 1, by go_num, by omega, HZ2, HB2⟩
        case measure => simp [intOf]; omega
    · have hnl : ¬ ((k : Int) < 6) := by omega
      go_upto_region 6 with fail
      refine' wp_region_facts [(fun _ _ v _ => v = (.pointer (some ⟨t, 0, none⟩))), (fun _ _ v _ => v = (.pointer (some ⟨t, 0, none⟩))), (fun _ _ v _ => v = (.pointer (some ⟨t, 0, none⟩))), (fun _ _ v _ => v = (.pointer (some ⟨d, 0, none⟩))), (fun _ _ v _ => v = (.bool P.dead)), (fun _ _ v _ => v = (.pointer (some ⟨t, 0, none⟩))), (fun _ _ v _ => v = (.pointer (some ⟨t, 0, none⟩))), (fun _ _ v _ => v = (.pointer (some ⟨t, 1, none⟩))), (fun _ _ v _ => v = (.pointer (some ⟨e, 0, none⟩))), (fun _ _ v _ => v = (.bool P.dead)), (fun _ _ v _ => v = (.bool true)), (fun _ _ v _ => v = (.bool true)), (fun _ _ v _ => v = (.pointer (some ⟨t, 0, none⟩))), (fun _ _ v _ => v = (.pointer (some ⟨t, 0, none⟩))), (fun _ _ v _ => v = (.pointer (some ⟨t, 0, none⟩))), (fun _ _ v _ => v = (.pointer (some ⟨d, 0, none⟩))), (fun _ _ v _ => v = (.int .i64 (used P.fs : Int))), (fun _ _ v _ => v = (.pointer (some ⟨t, 0, none⟩))), (fun _ _ v _ => v = (.pointer (some ⟨t, 0, none⟩))), (fun _ _ v _ => v = (.pointer (some ⟨t, 1, none⟩))), (fun _ _ v _ => v = (.pointer (some ⟨e, 0, none⟩))), (fun _ _ v _ => v = (.int .i64 (used P.fs : Int))), (fun _ _ v _ => v = (.bool true)), (fun _ _ v _ => v = (.bool true))] (by kernel_rfl) rfl ?hA (by kernel_rfl) (by kernel_rfl) (by kernel_rfl) rfl ?mono ?steps ?last
      case hA =>
        intro vs
        simp only [puts, Act.put, List.setIfInBounds_toArray, List.set_cons_zero, List.set_cons_succ, Nat.zero_add, Nat.reduceAdd]
        rfl
      case mono => exact ⟨mono_eq _, mono_eq _, mono_eq _, mono_eq _, mono_eq _, mono_eq _, mono_eq _, mono_eq _, mono_eq _, mono_eq _, mono_eq _, mono_eq _, mono_eq _, mono_eq _, mono_eq _, mono_eq _, mono_eq _, mono_eq _, mono_eq _, mono_eq _, mono_eq _, mono_eq _, mono_eq _, mono_eq _, trivial⟩
      case steps =>
        intro Q'
        refine And.intro ?_ ?_
        · intro vs lo hi w' hM hd K' hK
          dsimp only at hK ⊢
          simp only [Act.put, List.setIfInBounds_toArray, List.set_cons_zero, List.set_cons_succ] at hK
          go_simp
          exact hK.out _ _ rfl (Below.refl _ _)
        refine And.intro ?_ ?_
        · intro vs lo hi w' hM hd K' hK
          dsimp only at hK ⊢
          simp only [Act.put, List.setIfInBounds_toArray, List.set_cons_zero, List.set_cons_succ] at hK
          have e0 : vs 0 = (.pointer (some ⟨t, 0, none⟩)) := hd 0 (by kernel_rfl)
          simp only [e0] at hK ⊢
          clear e0
          go_simp
          exact hK.out _ _ rfl (Below.refl _ _)
        refine And.intro ?_ ?_
        · intro vs lo hi w' hM hd K' hK
          dsimp only at hK ⊢
          simp only [Act.put, List.setIfInBounds_toArray, List.set_cons_zero, List.set_cons_succ] at hK
          have e1 : vs 1 = (.pointer (some ⟨t, 0, none⟩)) := hd 1 (by kernel_rfl)
          simp only [e1] at hK ⊢
          clear e1
          go_simp
          exact hK.out _ _ rfl (Below.refl _ _)
        refine And.intro ?_ ?_
        · intro vs lo hi w' hM hd K' hK
          dsimp only at hK ⊢
          simp only [Act.put, List.setIfInBounds_toArray, List.set_cons_zero, List.set_cons_succ] at hK
          have e2 : vs 2 = (.pointer (some ⟨t, 0, none⟩)) := hd 2 (by kernel_rfl)
          simp only [e2] at hK ⊢
          clear e2
          have hJ := HZ.out.below hM
          have q0 := hJ.blk.cell 0
          simp at q0
          clear hJ
          go_simp
          exact hK.out _ _ rfl (Below.refl _ _)
        refine And.intro ?_ ?_
        · intro vs lo hi w' hM hd K' hK
          dsimp only at hK ⊢
          simp only [Act.put, List.setIfInBounds_toArray, List.set_cons_zero, List.set_cons_succ] at hK
          have e3 : vs 3 = (.pointer (some ⟨d, 0, none⟩)) := hd 3 (by kernel_rfl)
          simp only [e3] at hK ⊢
          clear e3
          go_simp
          obtain ⟨S, T, hs⟩ := HZ.out.below hM
          obtain ⟨mv, A, hd⟩ := hs.disk
          refine (dead_any P mv d _ hd.blk).mono ?_
          rintro r w7 ⟨rfl, rfl⟩
          exact hK.out _ _ rfl (Below.refl _ _)
        refine And.intro ?_ ?_
        · intro vs lo hi w' hM hd K' hK
          dsimp only at hK ⊢
          simp only [Act.put, List.setIfInBounds_toArray, List.set_cons_zero, List.set_cons_succ] at hK
          go_simp
          exact hK.out _ _ rfl (Below.refl _ _)
        refine And.intro ?_ ?_
        · intro vs lo hi w' hM hd K' hK
          dsimp only at hK ⊢
          simp only [Act.put, List.setIfInBounds_toArray, List.set_cons_zero, List.set_cons_succ] at hK
          have e5 : vs 5 = (.pointer (some ⟨t, 0, none⟩)) := hd 5 (by kernel_rfl)
          simp only [e5] at hK ⊢
          clear e5
          go_simp
          exact hK.out _ _ rfl (Below.refl _ _)
        refine And.intro ?_ ?_
        · intro vs lo hi w' hM hd K' hK
          dsimp only at hK ⊢
          simp only [Act.put, List.setIfInBounds_toArray, List.set_cons_zero, List.set_cons_succ] at hK
          have e6 : vs 6 = (.pointer (some ⟨t, 0, none⟩)) := hd 6 (by kernel_rfl)
          simp only [e6] at hK ⊢
          clear e6
          go_simp
          exact hK.out _ _ rfl (Below.refl _ _)
        refine And.intro ?_ ?_
        · intro vs lo hi w' hM hd K' hK
          dsimp only at hK ⊢
          simp only [Act.put, List.setIfInBounds_toArray, List.set_cons_zero, List.set_cons_succ] at hK
          have e7 : vs 7 = (.pointer (some ⟨t, 1, none⟩)) := hd 7 (by kernel_rfl)
          simp only [e7] at hK ⊢
          clear e7
          have hJ := HZ.out.below hM
          have q0 := hJ.blk.cell 1
          simp at q0
          clear hJ
          go_simp
          exact hK.out _ _ rfl (Below.refl _ _)
        refine And.intro ?_ ?_
        · intro vs lo hi w' hM hd K' hK
          dsimp only at hK ⊢
          simp only [Act.put, List.setIfInBounds_toArray, List.set_cons_zero, List.set_cons_succ] at hK
          have e8 : vs 8 = (.pointer (some ⟨e, 0, none⟩)) := hd 8 (by kernel_rfl)
          simp only [e8] at hK ⊢
          clear e8
          go_simp
          obtain ⟨S, T, hs⟩ := HZ.out.below hM
          obtain ⟨v9, lv9, hr⟩ := hs.ref
          refine (rdead_any hr.blk).mono ?_
          rintro r w7 ⟨rfl, rfl⟩
          exact hK.out _ _ rfl (Below.refl _ _)
        refine And.intro ?_ ?_
        · intro vs lo hi w' hM hd K' hK
          dsimp only at hK ⊢
          simp only [Act.put, List.setIfInBounds_toArray, List.set_cons_zero, List.set_cons_succ] at hK
          have e4 : vs 4 = (.bool P.dead) := hd 4 (by kernel_rfl)
          have e9 : vs 9 = (.bool P.dead) := hd 9 (by kernel_rfl)
          simp only [e4, e9] at hK ⊢
          clear e4 e9
          go_simp
          exact hK.out _ _ rfl (Below.refl _ _)
        refine And.intro ?_ ?_
        · intro vs lo hi w' hM hd K' hK
          dsimp only at hK ⊢
          simp only [Act.put, List.setIfInBounds_toArray, List.set_cons_zero, List.set_cons_succ] at hK
          have e10 : vs 10 = (.bool true) := hd 10 (by kernel_rfl)
          simp only [e10] at hK ⊢
          clear e10
          go_simp
          exact hK.out _ _ rfl (Below.refl _ _)
        refine And.intro ?_ ?_
        · intro vs lo hi w' hM hd K' hK
          dsimp only at hK ⊢
          simp only [Act.put, List.setIfInBounds_toArray, List.set_cons_zero, List.set_cons_succ] at hK
          have e11 : vs 11 = (.bool true) := hd 11 (by kernel_rfl)
          simp only [e11] at hK ⊢
          clear e11
          go_simp
          exact hK.out _ _ rfl (Below.refl _ _)
        refine And.intro ?_ ?_
        · intro vs lo hi w' hM hd K' hK
          dsimp only at hK ⊢
          simp only [Act.put, List.setIfInBounds_toArray, List.set_cons_zero, List.set_cons_succ] at hK
          have e12 : vs 12 = (.pointer (some ⟨t, 0, none⟩)) := hd 12 (by kernel_rfl)
          have e11 : vs 11 = (.bool true) := hd 11 (by kernel_rfl)
          simp only [e12, e11] at hK ⊢
          clear e12 e11
          go_simp
          exact hK.out _ _ rfl (Below.refl _ _)
        refine And.intro ?_ ?_
        · intro vs lo hi w' hM hd K' hK
          dsimp only at hK ⊢
          simp only [Act.put, List.setIfInBounds_toArray, List.set_cons_zero, List.set_cons_succ] at hK
          have e13 : vs 13 = (.pointer (some ⟨t, 0, none⟩)) := hd 13 (by kernel_rfl)
          have e11 : vs 11 = (.bool true) := hd 11 (by kernel_rfl)
          simp only [e13, e11] at hK ⊢
          clear e13 e11
          go_simp
          exact hK.out _ _ rfl (Below.refl _ _)
        refine And.intro ?_ ?_
        · intro vs lo hi w' hM hd K' hK
          dsimp only at hK ⊢
          simp only [Act.put, List.setIfInBounds_toArray, List.set_cons_zero, List.set_cons_succ] at hK
          have e14 : vs 14 = (.pointer (some ⟨t, 0, none⟩)) := hd 14 (by kernel_rfl)
          have e11 : vs 11 = (.bool true) := hd 11 (by kernel_rfl)
          simp only [e14, e11] at hK ⊢
          clear e14 e11
          have hJ := HZ.out.below hM
          have q0 := hJ.blk.cell 0
          simp at q0
          clear hJ
          go_simp
          exact hK.out _ _ rfl (Below.refl _ _)
        refine And.intro ?_ ?_
        · intro vs lo hi w' hM hd K' hK
          dsimp only at hK ⊢
          simp only [Act.put, List.setIfInBounds_toArray, List.set_cons_zero, List.set_cons_succ] at hK
          have e15 : vs 15 = (.pointer (some ⟨d, 0, none⟩)) := hd 15 (by kernel_rfl)
          have e11 : vs 11 = (.bool true) := hd 11 (by kernel_rfl)
          simp only [e15, e11] at hK ⊢
          clear e15 e11
          go_simp
          obtain ⟨S, T, hs⟩ := HZ.out.below hM
          refine (used_any P d S _ hs.disk).mono ?_
          rintro r w7 ⟨rfl, b7⟩
          exact hK.out _ _ rfl b7
        refine And.intro ?_ ?_
        · intro vs lo hi w' hM hd K' hK
          dsimp only at hK ⊢
          simp only [Act.put, List.setIfInBounds_toArray, List.set_cons_zero, List.set_cons_succ] at hK
          have e11 : vs 11 = (.bool true) := hd 11 (by kernel_rfl)
          simp only [e11] at hK ⊢
          clear e11
          go_simp
          exact hK.out _ _ rfl (Below.refl _ _)
        refine And.intro ?_ ?_
        · intro vs lo hi w' hM hd K' hK
          dsimp only at hK ⊢
          simp only [Act.put, List.setIfInBounds_toArray, List.set_cons_zero, List.set_cons_succ] at hK
          have e17 : vs 17 = (.pointer (some ⟨t, 0, none⟩)) := hd 17 (by kernel_rfl)
          have e11 : vs 11 = (.bool true) := hd 11 (by kernel_rfl)
          simp only [e17, e11] at hK ⊢
          clear e17 e11
          go_simp
          exact hK.out _ _ rfl (Below.refl _ _)
        refine And.intro ?_ ?_
        · intro vs lo hi w' hM hd K' hK
          dsimp only at hK ⊢
          simp only [Act.put, List.setIfInBounds_toArray, List.set_cons_zero, List.set_cons_succ] at hK
          have e18 : vs 18 = (.pointer (some ⟨t, 0, none⟩)) := hd 18 (by kernel_rfl)
          have e11 : vs 11 = (.bool true) := hd 11 (by kernel_rfl)
          simp only [e18, e11] at hK ⊢
          clear e18 e11
          go_simp
          exact hK.out _ _ rfl (Below.refl _ _)
        refine And.intro ?_ ?_
        · intro vs lo hi w' hM hd K' hK
          dsimp only at hK ⊢
          simp only [Act.put, List.setIfInBounds_toArray, List.set_cons_zero, List.set_cons_succ] at hK
          have e19 : vs 19 = (.pointer (some ⟨t, 1, none⟩)) := hd 19 (by kernel_rfl)
          have e11 : vs 11 = (.bool true) := hd 11 (by kernel_rfl)
          simp only [e19, e11] at hK ⊢
          clear e19 e11
          have hJ := HZ.out.below hM
          have q0 := hJ.blk.cell 1
          simp at q0
          clear hJ
          go_simp
          exact hK.out _ _ rfl (Below.refl _ _)
        refine And.intro ?_ ?_
        · intro vs lo hi w' hM hd K' hK
          dsimp only at hK ⊢
          simp only [Act.put, List.setIfInBounds_toArray, List.set_cons_zero, List.set_cons_succ] at hK
          have e20 : vs 20 = (.pointer (some ⟨e, 0, none⟩)) := hd 20 (by kernel_rfl)
          have e11 : vs 11 = (.bool true) := hd 11 (by kernel_rfl)
          simp only [e20, e11] at hK ⊢
          clear e20 e11
          go_simp
          obtain ⟨S, T, hs⟩ := HZ.out.below hM
          refine (rused_any P e T _ hs.ref).mono ?_
          rintro r w7 ⟨rfl, rfl⟩
          exact hK.out _ _ rfl (Below.refl _ _)
        refine And.intro ?_ ?_
        · intro vs lo hi w' hM hd K' hK
          dsimp only at hK ⊢
          simp only [Act.put, List.setIfInBounds_toArray, List.set_cons_zero, List.set_cons_succ] at hK
          have e16 : vs 16 = (.int .i64 (used P.fs : Int)) := hd 16 (by kernel_rfl)
          have e21 : vs 21 = (.int .i64 (used P.fs : Int)) := hd 21 (by kernel_rfl)
          have e11 : vs 11 = (.bool true) := hd 11 (by kernel_rfl)
          simp only [e16, e21, e11] at hK ⊢
          clear e16 e21 e11
          go_simp
          exact hK.out _ _ rfl (Below.refl _ _)
        refine And.intro ?_ ?_
        · intro vs lo hi w' hM hd K' hK
          dsimp only at hK ⊢
          simp only [Act.put, List.setIfInBounds_toArray, List.set_cons_zero, List.set_cons_succ] at hK
          have e11 : vs 11 = (.bool true) := hd 11 (by kernel_rfl)
          have e22 : vs 22 = (.bool true) := hd 22 (by kernel_rfl)
          simp only [e11, e22] at hK ⊢
          clear e11 e22
          go_simp
          exact hK.out _ _ rfl (Below.refl _ _)
        exact trivial
      case last =>
        intro vs lo hi w' hM hlo hap hall K' Q' hK
        obtain ⟨_, _, _, _, _, _, _, _, _, _, _, _, _, _, _, _, _, _, _, _, _, _, _, e23, _⟩ := hall
        dsimp only
        simp only [e23]
        clear e23 hap hlo
        go_simp
        refine hK.out _ _ ?_
        clear hK
        have HB2 := hide (bthen0 HB.out hM)
        clear hM
        go_wp2_with fail
        go_ret
        exact ⟨rfl, HB2.out⟩
end Go.Proofs.Ytmbjlnnoemenoaa
