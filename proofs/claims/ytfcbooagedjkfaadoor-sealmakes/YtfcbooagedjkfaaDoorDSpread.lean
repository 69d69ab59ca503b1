/-
  THE WALK of a block's words (spread).
-/
import Derived.Test.YtfcbooagedjkfaaDoorDStep
import Derived.Test.YtfcbooagedjkfaaDoorDFacts
import Derived.Deep.DeepCutAuto
import Derived.Deep.CutBlock
set_option linter.unusedVariables false
set_option linter.unusedSimpArgs false
namespace Go.Proofs.YtfcbooagedjkfaaDoor
open Go.RowKit

set_option maxHeartbeats 1000000 in
theorem spread_any (b o cap : Nat) (bs : List Int) (w : World) (hl : bs.length = 64) (hcap : 64 ≤ cap) (hr : Rd w b o bs) (h8 : ∀ i : Nat, 0 ≤ bs[i]?.getD 0 ∧ bs[i]?.getD 0 ≤ 255) :
    Calls Tryd.prog 64 #[.slice (some ⟨b, o, none⟩) 64 cap] w fun e w' => e = .returned (.agg (wds (Dg.spread bs))) ∧ Below w.heap.size w w' := by
  have HL := hide hl
  clear hl
  go_enter Tryd.func64, Tryd.ntmps64
  go_wp2_with fail
  go_loopw [9] (fun i wr => ∃ k : Nat, k ≤ 64 ∧ i = .int .i64 k ∧ Blk wr (w.heap.size + 1) 88 (wds (Dg.acc bs k)) ∧ Blk wr w.heap.size 88 (wds (List.replicate 64 0)) ∧ Below w.heap.size w wr) (fun i _ => 64 - (intOf i).toNat)
  case atStart =>
    refine ⟨0, by omega, rfl, ?_, ?_, ((Below.refl _ _).alloc (Nat.le_refl _) _).alloc (by simp) _⟩
    · have := blk_new (w.alloc (.cells (wds (List.replicate 64 0)) 88)) 88 (wds (List.replicate 64 0))
      rw [World.size_alloc] at this
      exact this
    · exact (blk_new w 88 (wds (List.replicate 64 0))).below ((Below.refl _ _).alloc (Nat.le_refl _) _) (by simp)
  case round =>
    obtain ⟨k, hk, rfl, hB, hR, hbel⟩ := hrel
    by_cases hlt : k < 64
    · have hbyte := hr.below hbel k (by rw [HL.out]; exact hlt)
      have hb8 := h8 k
      have hcell := (hB.cell (k / 4)).trans (wds_at (by rw [Dg.acc_length]; omega))
      have hfr := hB.frozen (k / 4)
      have HBk := hide hB
      have HRk := hide hR
      have HBe := hide hbel
      clear hB hR hbel hr h8
      go_wp2_with fail
      go_roundw
      case rel =>
        refine ⟨k + 1, by omega, by go_num, ?_, ?_, HBe.out.setCell (p := ⟨w.heap.size + 1, k / 4, none⟩) (by simp) _⟩
        · have := HBk.out.set (k / 4) (w32 (bits .or .u32 ((Dg.acc bs k)[k / 4]?.getD 0 * 256 % 4294967296) (bs[k]?.getD 0)))
          rw [wds_set] at this
          exact this
        · exact (But.set (.refl _ _) (k / 4) _).other HRk.out (by omega)
      case measure => simp [intOf]; omega
    · have HK : Hid (k = 64) := by show k = 64; omega
      have HBl : Hid (Blk wr (w.heap.size + 1) 88 (wds (Dg.sch (Dg.acc bs 64) (16 - 16)))) := by rw [HK.out] at hB; exact hB
      have HRl := hide hR
      have HBw := hide hbel
      clear hB hR hbel hr h8 hk
      go_wp2_with fail
      clear hlt
      go_loopw [6] (fun i wq => ∃ t : Nat, 16 ≤ t ∧ t ≤ 64 ∧ i = .int .i64 t ∧ Blk wq (w.heap.size + 1) 88 (wds (Dg.sch (Dg.acc bs 64) (t - 16))) ∧ Blk wq w.heap.size 88 (wds (List.replicate 64 0)) ∧ Below w.heap.size w wq) (fun i _ => 64 - (intOf i).toNat)
      case atStart => exact ⟨16, by omega, by omega, rfl, HBl.out, HRl.out, HBw.out⟩
      case round =>
        obtain ⟨t, ht, ht2, rfl, hB, hR, hbel⟩ := hrel
        clear HBl HRl HBw
        by_cases hlt : t < 64
        · have HLT : Hid (w.heap.size + 1 < wr.heap.size) := hB.lt
          have hlen : (Dg.sch (Dg.acc bs 64) (t - 16)).length = 64 := by rw [Dg.sch_length, Dg.acc_length]
          obtain ⟨x2, e2⟩ : ∃ x, x = (Dg.sch (Dg.acc bs 64) (t - 16))[t - 2]?.getD 0 := ⟨_, rfl⟩
          obtain ⟨x7, e7⟩ : ∃ x, x = (Dg.sch (Dg.acc bs 64) (t - 16))[t - 7]?.getD 0 := ⟨_, rfl⟩
          obtain ⟨x15, e15⟩ : ∃ x, x = (Dg.sch (Dg.acc bs 64) (t - 16))[t - 15]?.getD 0 := ⟨_, rfl⟩
          obtain ⟨x16, e16⟩ : ∃ x, x = (Dg.sch (Dg.acc bs 64) (t - 16))[t - 16]?.getD 0 := ⟨_, rfl⟩
          have HX2 : Hid (wr.cell? ⟨w.heap.size + 1, t - 2, none⟩ = some (.int .u32 x2)) := by rw [e2]; exact (hB.cell _).trans (wds_at (by omega))
          have HX7 : Hid (wr.cell? ⟨w.heap.size + 1, t - 7, none⟩ = some (.int .u32 x7)) := by rw [e7]; exact (hB.cell _).trans (wds_at (by omega))
          have HX15 : Hid (wr.cell? ⟨w.heap.size + 1, t - 15, none⟩ = some (.int .u32 x15)) := by rw [e15]; exact (hB.cell _).trans (wds_at (by omega))
          have HX16 : Hid (wr.cell? ⟨w.heap.size + 1, t - 16, none⟩ = some (.int .u32 x16)) := by rw [e16]; exact (hB.cell _).trans (wds_at (by omega))
          have HXT : Hid (wr.cell? ⟨w.heap.size + 1, t, none⟩ = some (.int .u32 ((Dg.sch (Dg.acc bs 64) (t - 16))[t]?.getD 0))) := (hB.cell _).trans (wds_at (by omega))
          have HFT : Hid (wr.frozen? ⟨w.heap.size + 1, t, none⟩ = false) := hB.frozen _
          have HE : Hid (Dg.sch (Dg.acc bs 64) (t + 1 - 16) = (Dg.sch (Dg.acc bs 64) (t - 16)).set t ((Dg.s1 x2 + x7 + Dg.s0 x15 + x16) % 4294967296)) := by rw [e2, e7, e15, e16]; exact Dg.sch_next _ _ ht
          have HBk := hide hB
          have HRk := hide hR
          have HBe := hide hbel
          clear hB hR hbel e2 e7 e15 e16 hlen
          go_upto_region 10 with fail
          generalize decide ((t : Int) < 64) = bt
          have Ht := hide ht
          have Ht2 := hide hlt
          clear ht hlt ht2
          refine' wp_region_facts [(fun _ _ v _ => v = (.int .i64 (t : Int))), (fun _ _ v _ => v = (.int .i64 (t : Int))), (fun _ _ v _ => v = (.int .i64 (t - 2 : Int))), (fun _ _ v _ => v = (.pointer (some ⟨w.heap.size + 1, t - 2, none⟩))), (fun _ _ v _ => v = (.int .u32 x2)), (fun _ _ v _ => v = (.int .u32 (Dg.s1 x2))), (fun _ _ v _ => v = (.int .i64 (t : Int))), (fun _ _ v _ => v = (.int .i64 (t - 7 : Int))), (fun _ _ v _ => v = (.pointer (some ⟨w.heap.size + 1, t - 7, none⟩))), (fun _ _ v _ => v = (.int .u32 x7)), (fun _ _ v _ => v = (.int .u32 ((Dg.s1 x2 + x7) % 4294967296))), (fun _ _ v _ => v = (.int .i64 (t : Int))), (fun _ _ v _ => v = (.int .i64 (t - 15 : Int))), (fun _ _ v _ => v = (.pointer (some ⟨w.heap.size + 1, t - 15, none⟩))), (fun _ _ v _ => v = (.int .u32 x15)), (fun _ _ v _ => v = (.int .u32 (Dg.s0 x15))), (fun _ _ v _ => v = (.int .u32 ((Dg.s1 x2 + x7 + Dg.s0 x15) % 4294967296))), (fun _ _ v _ => v = (.int .i64 (t : Int))), (fun _ _ v _ => v = (.int .i64 (t - 16 : Int))), (fun _ _ v _ => v = (.pointer (some ⟨w.heap.size + 1, t - 16, none⟩))), (fun _ _ v _ => v = (.int .u32 x16)), (fun _ _ v _ => v = (.int .u32 ((Dg.s1 x2 + x7 + Dg.s0 x15 + x16) % 4294967296))), (fun _ _ v _ => v = (.pointer (some ⟨w.heap.size + 1, t, none⟩)))] (by kernel_rfl) rfl ?hA (by kernel_rfl) (by kernel_rfl) (by kernel_rfl) rfl ?mono ?steps ?last
          case hA =>
            intro vs
            simp only [puts, Act.put, List.setIfInBounds_toArray, List.set_cons_zero, List.set_cons_succ, Nat.zero_add, Nat.reduceAdd]
            rfl
          case mono => exact ⟨mono_eq _, mono_eq _, mono_eq _, mono_eq _, mono_eq _, mono_eq _, mono_eq _, mono_eq _, mono_eq _, mono_eq _, mono_eq _, mono_eq _, mono_eq _, mono_eq _, mono_eq _, mono_eq _, mono_eq _, mono_eq _, mono_eq _, mono_eq _, mono_eq _, mono_eq _, mono_eq _, trivial⟩
          case steps =>
            intro Q'
            refine And.intro ?_ ?_
            · intro vs lo hi w' hM hd K' hK
              dsimp only at hK ⊢
              simp only [Act.put, List.setIfInBounds_toArray, List.set_cons_zero, List.set_cons_succ] at hK
              go_simp
              exact hK.out _ _ rfl (Below.refl _ _)
            refine And.intro ?_ ?_
            · intro vs lo hi w' hM hd K' hK
              dsimp only at hK ⊢
              simp only [Act.put, List.setIfInBounds_toArray, List.set_cons_zero, List.set_cons_succ] at hK
              go_simp
              exact hK.out _ _ rfl (Below.refl _ _)
            refine And.intro ?_ ?_
            · intro vs lo hi w' hM hd K' hK
              dsimp only at hK ⊢
              simp only [Act.put, List.setIfInBounds_toArray, List.set_cons_zero, List.set_cons_succ] at hK
              have e1 : vs 1 = (.int .i64 (t : Int)) := hd 1 (by kernel_rfl)
              simp only [e1] at hK ⊢
              clear e1
              have g0 : (16 : Int) ≤ (t : Int) := by have := Ht.out; omega
              have g1 : (t : Int) < 64 := by have := Ht2.out; omega
              go_simp
              exact hK.out _ _ (int_i64 rfl (by omega) (by omega)) (Below.refl _ _)
            refine And.intro ?_ ?_
            · intro vs lo hi w' hM hd K' hK
              dsimp only at hK ⊢
              simp only [Act.put, List.setIfInBounds_toArray, List.set_cons_zero, List.set_cons_succ] at hK
              have e2 : vs 2 = (.int .i64 (t - 2 : Int)) := hd 2 (by kernel_rfl)
              simp only [e2] at hK ⊢
              clear e2
              have g0 : (2 : Int) ≤ (t : Int) := by have := Ht.out; omega
              have g1 : (t : Int) - 2 < 64 := by have := Ht2.out; omega
              have g2 : ((t : Int) - 2).toNat = t - 2 := by omega
              go_simp
              exact hK.out _ _ rfl (Below.refl _ _)
            refine And.intro ?_ ?_
            · intro vs lo hi w' hM hd K' hK
              dsimp only at hK ⊢
              simp only [Act.put, List.setIfInBounds_toArray, List.set_cons_zero, List.set_cons_succ] at hK
              have e3 : vs 3 = (.pointer (some ⟨w.heap.size + 1, t - 2, none⟩)) := hd 3 (by kernel_rfl)
              simp only [e3] at hK ⊢
              clear e3
              have q0 := (hM.cell (p := ⟨w.heap.size + 1, t - 2, none⟩) HLT.out).trans HX2.out
              go_simp
              exact hK.out _ _ rfl (Below.refl _ _)
            refine And.intro ?_ ?_
            · intro vs lo hi w' hM hd K' hK
              dsimp only at hK ⊢
              simp only [Act.put, List.setIfInBounds_toArray, List.set_cons_zero, List.set_cons_succ] at hK
              have e4 : vs 4 = (.int .u32 x2) := hd 4 (by kernel_rfl)
              simp only [e4] at hK ⊢
              clear e4
              go_simp
              refine (small1_any _ _).mono ?_
              rintro e w7 ⟨rfl, k7, rfl⟩
              exact hK.out _ _ rfl (below_drewN (Below.refl _ _) _)
            refine And.intro ?_ ?_
            · intro vs lo hi w' hM hd K' hK
              dsimp only at hK ⊢
              simp only [Act.put, List.setIfInBounds_toArray, List.set_cons_zero, List.set_cons_succ] at hK
              go_simp
              exact hK.out _ _ rfl (Below.refl _ _)
            refine And.intro ?_ ?_
            · intro vs lo hi w' hM hd K' hK
              dsimp only at hK ⊢
              simp only [Act.put, List.setIfInBounds_toArray, List.set_cons_zero, List.set_cons_succ] at hK
              have e6 : vs 6 = (.int .i64 (t : Int)) := hd 6 (by kernel_rfl)
              simp only [e6] at hK ⊢
              clear e6
              have g0 : (16 : Int) ≤ (t : Int) := by have := Ht.out; omega
              have g1 : (t : Int) < 64 := by have := Ht2.out; omega
              go_simp
              exact hK.out _ _ (int_i64 rfl (by omega) (by omega)) (Below.refl _ _)
            refine And.intro ?_ ?_
            · intro vs lo hi w' hM hd K' hK
              dsimp only at hK ⊢
              simp only [Act.put, List.setIfInBounds_toArray, List.set_cons_zero, List.set_cons_succ] at hK
              have e7 : vs 7 = (.int .i64 (t - 7 : Int)) := hd 7 (by kernel_rfl)
              simp only [e7] at hK ⊢
              clear e7
              have g0 : (7 : Int) ≤ (t : Int) := by have := Ht.out; omega
              have g1 : (t : Int) - 7 < 64 := by have := Ht2.out; omega
              have g2 : ((t : Int) - 7).toNat = t - 7 := by omega
              go_simp
              exact hK.out _ _ rfl (Below.refl _ _)
            refine And.intro ?_ ?_
            · intro vs lo hi w' hM hd K' hK
              dsimp only at hK ⊢
              simp only [Act.put, List.setIfInBounds_toArray, List.set_cons_zero, List.set_cons_succ] at hK
              have e8 : vs 8 = (.pointer (some ⟨w.heap.size + 1, t - 7, none⟩)) := hd 8 (by kernel_rfl)
              simp only [e8] at hK ⊢
              clear e8
              have q0 := (hM.cell (p := ⟨w.heap.size + 1, t - 7, none⟩) HLT.out).trans HX7.out
              go_simp
              exact hK.out _ _ rfl (Below.refl _ _)
            refine And.intro ?_ ?_
            · intro vs lo hi w' hM hd K' hK
              dsimp only at hK ⊢
              simp only [Act.put, List.setIfInBounds_toArray, List.set_cons_zero, List.set_cons_succ] at hK
              have e5 : vs 5 = (.int .u32 (Dg.s1 x2)) := hd 5 (by kernel_rfl)
              have e9 : vs 9 = (.int .u32 x7) := hd 9 (by kernel_rfl)
              simp only [e5, e9] at hK ⊢
              clear e5 e9
              go_simp
              exact hK.out _ _ (int_u32 (by omega)) (Below.refl _ _)
            refine And.intro ?_ ?_
            · intro vs lo hi w' hM hd K' hK
              dsimp only at hK ⊢
              simp only [Act.put, List.setIfInBounds_toArray, List.set_cons_zero, List.set_cons_succ] at hK
              go_simp
              exact hK.out _ _ rfl (Below.refl _ _)
            refine And.intro ?_ ?_
            · intro vs lo hi w' hM hd K' hK
              dsimp only at hK ⊢
              simp only [Act.put, List.setIfInBounds_toArray, List.set_cons_zero, List.set_cons_succ] at hK
              have e11 : vs 11 = (.int .i64 (t : Int)) := hd 11 (by kernel_rfl)
              simp only [e11] at hK ⊢
              clear e11
              have g0 : (16 : Int) ≤ (t : Int) := by have := Ht.out; omega
              have g1 : (t : Int) < 64 := by have := Ht2.out; omega
              go_simp
              exact hK.out _ _ (int_i64 rfl (by omega) (by omega)) (Below.refl _ _)
            refine And.intro ?_ ?_
            · intro vs lo hi w' hM hd K' hK
              dsimp only at hK ⊢
              simp only [Act.put, List.setIfInBounds_toArray, List.set_cons_zero, List.set_cons_succ] at hK
              have e12 : vs 12 = (.int .i64 (t - 15 : Int)) := hd 12 (by kernel_rfl)
              simp only [e12] at hK ⊢
              clear e12
              have g0 : (15 : Int) ≤ (t : Int) := by have := Ht.out; omega
              have g1 : (t : Int) - 15 < 64 := by have := Ht2.out; omega
              have g2 : ((t : Int) - 15).toNat = t - 15 := by omega
              go_simp
              exact hK.out _ _ rfl (Below.refl _ _)
            refine And.intro ?_ ?_
            · intro vs lo hi w' hM hd K' hK
              dsimp only at hK ⊢
              simp only [Act.put, List.setIfInBounds_toArray, List.set_cons_zero, List.set_cons_succ] at hK
              have e13 : vs 13 = (.pointer (some ⟨w.heap.size + 1, t - 15, none⟩)) := hd 13 (by kernel_rfl)
              simp only [e13] at hK ⊢
              clear e13
              have q0 := (hM.cell (p := ⟨w.heap.size + 1, t - 15, none⟩) HLT.out).trans HX15.out
              go_simp
              exact hK.out _ _ rfl (Below.refl _ _)
            refine And.intro ?_ ?_
            · intro vs lo hi w' hM hd K' hK
              dsimp only at hK ⊢
              simp only [Act.put, List.setIfInBounds_toArray, List.set_cons_zero, List.set_cons_succ] at hK
              have e14 : vs 14 = (.int .u32 x15) := hd 14 (by kernel_rfl)
              simp only [e14] at hK ⊢
              clear e14
              go_simp
              refine (small0_any _ _).mono ?_
              rintro e w7 ⟨rfl, k7, rfl⟩
              exact hK.out _ _ rfl (below_drewN (Below.refl _ _) _)
            refine And.intro ?_ ?_
            · intro vs lo hi w' hM hd K' hK
              dsimp only at hK ⊢
              simp only [Act.put, List.setIfInBounds_toArray, List.set_cons_zero, List.set_cons_succ] at hK
              have e10 : vs 10 = (.int .u32 ((Dg.s1 x2 + x7) % 4294967296)) := hd 10 (by kernel_rfl)
              have e15 : vs 15 = (.int .u32 (Dg.s0 x15)) := hd 15 (by kernel_rfl)
              simp only [e10, e15] at hK ⊢
              clear e10 e15
              go_simp
              exact hK.out _ _ (int_u32 (by omega)) (Below.refl _ _)
            refine And.intro ?_ ?_
            · intro vs lo hi w' hM hd K' hK
              dsimp only at hK ⊢
              simp only [Act.put, List.setIfInBounds_toArray, List.set_cons_zero, List.set_cons_succ] at hK
              go_simp
              exact hK.out _ _ rfl (Below.refl _ _)
            refine And.intro ?_ ?_
            · intro vs lo hi w' hM hd K' hK
              dsimp only at hK ⊢
              simp only [Act.put, List.setIfInBounds_toArray, List.set_cons_zero, List.set_cons_succ] at hK
              have e17 : vs 17 = (.int .i64 (t : Int)) := hd 17 (by kernel_rfl)
              simp only [e17] at hK ⊢
              clear e17
              have g0 : (16 : Int) ≤ (t : Int) := by have := Ht.out; omega
              have g1 : (t : Int) < 64 := by have := Ht2.out; omega
              go_simp
              exact hK.out _ _ (int_i64 rfl (by omega) (by omega)) (Below.refl _ _)
            refine And.intro ?_ ?_
            · intro vs lo hi w' hM hd K' hK
              dsimp only at hK ⊢
              simp only [Act.put, List.setIfInBounds_toArray, List.set_cons_zero, List.set_cons_succ] at hK
              have e18 : vs 18 = (.int .i64 (t - 16 : Int)) := hd 18 (by kernel_rfl)
              simp only [e18] at hK ⊢
              clear e18
              have g0 : (16 : Int) ≤ (t : Int) := by have := Ht.out; omega
              have g1 : (t : Int) - 16 < 64 := by have := Ht2.out; omega
              have g2 : ((t : Int) - 16).toNat = t - 16 := by omega
              go_simp
              exact hK.out _ _ rfl (Below.refl _ _)
            refine And.intro ?_ ?_
            · intro vs lo hi w' hM hd K' hK
              dsimp only at hK ⊢
              simp only [Act.put, List.setIfInBounds_toArray, List.set_cons_zero, List.set_cons_succ] at hK
              have e19 : vs 19 = (.pointer (some ⟨w.heap.size + 1, t - 16, none⟩)) := hd 19 (by kernel_rfl)
              simp only [e19] at hK ⊢
              clear e19
              have q0 := (hM.cell (p := ⟨w.heap.size + 1, t - 16, none⟩) HLT.out).trans HX16.out
              go_simp
              exact hK.out _ _ rfl (Below.refl _ _)
            refine And.intro ?_ ?_
            · intro vs lo hi w' hM hd K' hK
              dsimp only at hK ⊢
              simp only [Act.put, List.setIfInBounds_toArray, List.set_cons_zero, List.set_cons_succ] at hK
              have e16 : vs 16 = (.int .u32 ((Dg.s1 x2 + x7 + Dg.s0 x15) % 4294967296)) := hd 16 (by kernel_rfl)
              have e20 : vs 20 = (.int .u32 x16) := hd 20 (by kernel_rfl)
              simp only [e16, e20] at hK ⊢
              clear e16 e20
              go_simp
              exact hK.out _ _ (int_u32 (by omega)) (Below.refl _ _)
            refine And.intro ?_ ?_
            · intro vs lo hi w' hM hd K' hK
              dsimp only at hK ⊢
              simp only [Act.put, List.setIfInBounds_toArray, List.set_cons_zero, List.set_cons_succ] at hK
              have e0 : vs 0 = (.int .i64 (t : Int)) := hd 0 (by kernel_rfl)
              simp only [e0] at hK ⊢
              clear e0
              have g1 : (t : Int) < 64 := by have := Ht2.out; omega
              go_simp
              exact hK.out _ _ rfl (Below.refl _ _)
            exact trivial
          case last =>
            intro vs lo hi w' hM hlo hap hall K' Q' hK
            have h21 : vs 21 = .int .u32 ((Dg.s1 x2 + x7 + Dg.s0 x15 + x16) % 4294967296) := hall.2.2.2.2.2.2.2.2.2.2.2.2.2.2.2.2.2.2.2.2.2.1
            have h22 : vs 22 = (.pointer (some ⟨w.heap.size + 1, t, none⟩)) := hall.2.2.2.2.2.2.2.2.2.2.2.2.2.2.2.2.2.2.2.2.2.2.1
            dsimp only
            simp only [h21, h22]
            clear h21 h22 hall hap hlo
            have q0 := (hM.cell (p := ⟨w.heap.size + 1, t, none⟩) HLT.out).trans HXT.out
            have q1 := (hM.frozen (p := ⟨w.heap.size + 1, t, none⟩) HLT.out).trans HFT.out
            have g1 : (t : Int) < 64 := by have := Ht2.out; omega
            go_simp
            refine hK.out _ _ ?_
            clear hK g1
            have HM := hide hM
            clear hM q0 q1
            have ht := Ht.out
            have hlt := Ht2.out
            go_wp2_with fail
            go_roundw
            case rel =>
              refine ⟨t + 1, by omega, by omega, by go_num, ?_, ?_, ?_⟩
              · rw [HE.out, ← wds_set]
                exact (HBk.out.below HM.out HLT.out).set t _
              · exact (But.set (.refl _ _) t _).other (HRk.out.below' HM.out) (by omega)
              · exact (HBe.out.trans (HM.out.mono HBe.out.size)).setCell (p := ⟨w.heap.size + 1, t, none⟩) (by simp) _
            case measure => simp [intOf]; omega
        · obtain rfl : t = 64 := by omega
          have HBk := hide hB
          have HRk := hide hR
          have HBe := hide hbel
          clear hB hR hbel
          go_upto_region 11 with fail
          refine wp_region_lit ?_
          refine wpList_load_row rfl _ _ rfl (w.heap.size + 1) rfl 88 (wds (Dg.spread bs)) (0, 0) _ HBk.out Tryd.underlying88 rfl (by rw [wds_size, Dg.spread_length]; kernel_rfl) ?_
          refine wpList_store_row rfl _ _ _ rfl w.heap.size (wds (Dg.spread bs)) rfl rfl 88 _ HRk.out (by rw [wds_size, Dg.spread_length]; kernel_rfl) (by rw [wds_size, wds_size, Dg.spread_length]; rfl) (wds_one _) ?_
          have hR2 := HRk.out.row (wds (Dg.spread bs))
          have hb2 : Below w.heap.size w (wr.setRow w.heap.size (wds (Dg.spread bs))) := HBe.out.trans ((But.row (.refl _ _) _).to_below HBe.out.size (Nat.le_refl _))
          clear HBk HRk HBe
          generalize wr.setRow w.heap.size (wds (Dg.spread bs)) = w5 at hR2 hb2 ⊢
          simp only [wpList, Act.put]
          go_wp2_with fail
          refine bodyPost_ret (v := .agg (wds (Dg.spread bs))) ?_ rfl ⟨rfl, hb2⟩
          exact results_cell_row rfl _ _ w.heap.size 88 _ (0, 0) _ rfl hR2 Tryd.underlying88 rfl (by rw [wds_size, Dg.spread_length]; kernel_rfl)
end Go.Proofs.YtfcbooagedjkfaaDoor
