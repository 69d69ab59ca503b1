/-
  THE WALK of FrameLong (layer 10).
-/
import Derived.Test.YtgfjpbiioaahhaaFLaw
import Derived.Laws.MakeOwn
set_option linter.unusedVariables false
set_option linter.unusedSimpArgs false
set_option maxRecDepth 100000
namespace Go.Proofs.Ytgfjpbiioaahhaa
open Go.RowKit Fr

theorem run_made (w : World) (q : Nat) (hq : q ≤ 1000000) : (Instr.makeSlice 26 (.int .i64 (q : Int)) (.int .i64 (q : Int))).run Try.prog w = .ok (.slice (some ⟨w.heap.size, 0, none⟩) q q) (w.alloc (.cells (madeCells #[.int .u8 0] q) 5)) := by
  obtain ⟨i0, hi, hz0, hz1, hz2⟩ := info_parts infoU8
  have := run_make (P := Try.prog) w 26 5 i0 _ Try.underlying26 hi hz0 .i64 .i64 (q : Int) (q : Int) (by omega) (by omega) (by rw [hz2]; omega) (by omega)
  rw [hz1, show ((q : Int)).toNat = q by omega, Nat.mul_one] at this
  exact this
theorem conv_made (w : World) (q : Nat) : (convert 26 9 (.slice (some ⟨w.heap.size, 0, none⟩) q q)).run Try.prog (w.alloc (.cells (madeCells #[.int .u8 0] q) 5)) = .ok (.string (strOf (List.replicate q 0))) (w.alloc (.cells (madeCells #[.int .u8 0] q) 5)) := by
  have hb := Blk.new w (madeCells #[.int .u8 0] q) 5
  have h := run_convert_bytes_arg (P := Try.prog) (w.alloc (.cells (madeCells #[.int .u8 0] q) 5)) 26 5 Try.underlying26 Try.underlying5 w.heap.size 0 q q (List.replicate q 0) List.length_replicate
    (fun i hi => by
      rw [hb.cell, Nat.zero_add]
      have := congrArg (·[i]?) (toList_madeCells_one (Value.int .u8 0) q)
      simp only [Array.getElem?_toList] at this
      rw [this]
      simp [hi]) 9 Try.underlying9
  rw [h]
  congr 2
  apply str_ext
  show (List.map _ (List.replicate q 0)) = _
  rw [List.map_replicate]
  rfl

set_option maxHeartbeats 1000000 in
theorem frameLong_walk (a0 : Int) (w0 : (Lit.int .u32 a0).wf = true) (w : World) :
    Calls Try.prog 6 #[.int .u32 a0] w fun e w' => e = .returned (.bool true) ∧ Below w.heap.size w w' := by
  have hr : 0 ≤ a0 ∧ a0 < 4294967296 := by
    simp [Lit.wf, IntKind.min, IntKind.max, IntKind.bits, IntKind.signed] at w0
    omega
  obtain ⟨m, hm⟩ : ∃ m : Int, a0 % 140000 = m := ⟨_, rfl⟩
  obtain ⟨p, hp⟩ : ∃ p : Int, a0 / 3 % 5 = p := ⟨_, rfl⟩
  have hml : 0 ≤ m ∧ m < 140000 := by omega
  have hpl : 0 ≤ p ∧ p < 5 := by omega
  have t1 : a0.tmod 140000 = m := by rw [Int.tmod_eq_emod_of_nonneg hr.1]; exact hm
  have t3 : a0.tdiv 3 = a0 / 3 := Int.tdiv_eq_ediv_of_nonneg hr.1
  have t4 : (a0 / 3).tmod 5 = p := by rw [Int.tmod_eq_emod_of_nonneg (by omega)]; exact hp
  have t2 : a0.tmod 3 = a0 % 3 := Int.tmod_eq_emod_of_nonneg hr.1
  by_cases h3 : a0 % 3 = 0
  · obtain ⟨K, hKd⟩ : ∃ K, K = 131070 + p := ⟨_, rfl⟩
    have hKl : 0 ≤ K ∧ K ≤ 139999 := by omega
    obtain ⟨k, hkK⟩ : ∃ k : Nat, K = (k : Int) := ⟨K.toNat, by omega⟩
    have HK := hide hkK
    have hkl : k ≤ 139999 := by omega
    have HKL := hide hkl
    obtain ⟨S, hS⟩ : ∃ S, S = strOf (List.replicate k 0) := ⟨_, rfl⟩
    have hmade := fun w' => run_made w' k (by omega)
    rw [← hkK] at hmade
    have hconv := fun w' => conv_made w' k
    simp only [← hS] at hconv
    have hSz : S.size = k := by rw [hS]; show (List.replicate k (0 : UInt8)).length = k; simp
    have HSz := hide hSz
    have HFB : Hid (131072 < k → fr (bs S) = []) := fun h => by unfold fr; rw [if_pos (by rw [bs_length, HSz.out]; unfold most; omega)]
    clear hS hSz hkK hkl
    clear w0 hm hp
    by_cases hb : 131072 < k
    · skip
      have hkk : (131070 : Int) + p = K := hKd.symm
      clear hKd
      have h3b : (a0 % 3 == 0) = true := by simpa using h3
      have h3d : decide (a0 % 3 = 0) = true := decide_eq_true h3
      have hE : (⟨#[]⟩ : ByteArray) = strOf (fr (bs S)) := by rw [HFB.out hb]
      have HE := hide hE
      have hbi : (131072 : Int) < K := by have := HK.out; omega
      have hb' := hide hb
      clear hE hb
      go_enter Try.func6, Try.ntmps6
      go_wp2_with (go_at_call 14; refine (frame_is _ S ⟨#[]⟩ (by rw [HSz.out]; have := HKL.out; omega) HE.out).mono ?_; rintro e w1 ⟨rfl, b1⟩)
      go_wp2_with (go_at_call 10; refine (known_any _).mono ?_; rintro e w2 ⟨rfl, b2⟩)
      go_ret
      exact ⟨rfl, bthen (bthen (below_alloc _ _) b1) b2⟩
    · skip
      have hkk : (131070 : Int) + p = K := hKd.symm
      clear hKd
      have h3b : (a0 % 3 == 0) = true := by simpa using h3
      have h3d : decide (a0 % 3 = 0) = true := decide_eq_true h3
      obtain ⟨F, hF⟩ : ∃ F, F = strOf (fr (bs S)) := ⟨_, rfl⟩
      have hFs : (F.size : Int) = K + 8 := by rw [HK.out]; rw [hF]; show ((fr (bs S)).length : Int) = _; rw [fr_length (by rw [bs_length, HSz.out]; unfold most; omega), bs_length, HSz.out]; omega
      have hFz : F.size ≤ 1000000000 := by have := HK.out; omega
      have hnx : nx (bs F) = some (bs S) := by rw [hF, bs_strOf]; have := nx_fr (b := bs S) (by rw [bs_length, HSz.out]; unfold most; omega) []; rwa [List.append_nil] at this
      have hbi : K ≤ 131072 := by have := HK.out; omega
      have HFB2 := hide hb
      clear hb
      have HF := hide hF
      have HNX := hide hnx
      have HFz := hide hFz
      have HN : Hid (K + 8 = 8 + ((bs S).length : Int)) := by show _ = _; rw [bs_length, HSz.out, HK.out]; omega
      clear hF hnx hFz
      go_enter Try.func6, Try.ntmps6
      go_wp2_with (go_at_call 14; refine (frame_is _ S F (by rw [HSz.out]; have := HKL.out; omega) HF.out).mono ?_; rintro e w1 ⟨rfl, b1⟩)
      go_wp2_with (go_at_call 18; refine (next_some _ F S (bs S) (K + 8) HFz.out HNX.out (strOf_bs S).symm HN.out).mono ?_; rintro e w2 ⟨rfl, b2⟩)
      go_wp2_with (go_at_call 10; refine (known_any _).mono ?_; rintro e w3 ⟨rfl, b3⟩)
      go_ret
      exact ⟨rfl, bthen (bthen (bthen (below_alloc _ _) b1) b2) b3⟩
  · obtain ⟨K, hKd⟩ : ∃ K, K = m := ⟨_, rfl⟩
    subst hKd
    have hKl : 0 ≤ K ∧ K ≤ 139999 := by omega
    obtain ⟨k, hkK⟩ : ∃ k : Nat, K = (k : Int) := ⟨K.toNat, by omega⟩
    have HK := hide hkK
    have hkl : k ≤ 139999 := by omega
    have HKL := hide hkl
    obtain ⟨S, hS⟩ : ∃ S, S = strOf (List.replicate k 0) := ⟨_, rfl⟩
    have hmade := fun w' => run_made w' k (by omega)
    rw [← hkK] at hmade
    have hconv := fun w' => conv_made w' k
    simp only [← hS] at hconv
    have hSz : S.size = k := by rw [hS]; show (List.replicate k (0 : UInt8)).length = k; simp
    have HSz := hide hSz
    have HFB : Hid (131072 < k → fr (bs S) = []) := fun h => by unfold fr; rw [if_pos (by rw [bs_length, HSz.out]; unfold most; omega)]
    clear hS hSz hkK hkl
    clear w0 hm hp
    by_cases hb : 131072 < k
    · skip
      have h3b : (a0 % 3 == 0) = false := by simpa using h3
      have h3d : decide (a0 % 3 = 0) = false := decide_eq_false h3
      have hE : (⟨#[]⟩ : ByteArray) = strOf (fr (bs S)) := by rw [HFB.out hb]
      have HE := hide hE
      have hbi : (131072 : Int) < K := by have := HK.out; omega
      have hb' := hide hb
      clear hE hb
      go_enter Try.func6, Try.ntmps6
      go_wp2_with (go_at_call 14; refine (frame_is _ S ⟨#[]⟩ (by rw [HSz.out]; have := HKL.out; omega) HE.out).mono ?_; rintro e w1 ⟨rfl, b1⟩)
      go_wp2_with (go_at_call 10; refine (known_any _).mono ?_; rintro e w2 ⟨rfl, b2⟩)
      go_ret
      exact ⟨rfl, bthen (bthen (below_alloc _ _) b1) b2⟩
    · skip
      have h3b : (a0 % 3 == 0) = false := by simpa using h3
      have h3d : decide (a0 % 3 = 0) = false := decide_eq_false h3
      obtain ⟨F, hF⟩ : ∃ F, F = strOf (fr (bs S)) := ⟨_, rfl⟩
      have hFs : (F.size : Int) = K + 8 := by rw [HK.out]; rw [hF]; show ((fr (bs S)).length : Int) = _; rw [fr_length (by rw [bs_length, HSz.out]; unfold most; omega), bs_length, HSz.out]; omega
      have hFz : F.size ≤ 1000000000 := by have := HK.out; omega
      have hnx : nx (bs F) = some (bs S) := by rw [hF, bs_strOf]; have := nx_fr (b := bs S) (by rw [bs_length, HSz.out]; unfold most; omega) []; rwa [List.append_nil] at this
      have hbi : K ≤ 131072 := by have := HK.out; omega
      have HFB2 := hide hb
      clear hb
      have HF := hide hF
      have HNX := hide hnx
      have HFz := hide hFz
      have HN : Hid (K + 8 = 8 + ((bs S).length : Int)) := by show _ = _; rw [bs_length, HSz.out, HK.out]; omega
      clear hF hnx hFz
      go_enter Try.func6, Try.ntmps6
      go_wp2_with (go_at_call 14; refine (frame_is _ S F (by rw [HSz.out]; have := HKL.out; omega) HF.out).mono ?_; rintro e w1 ⟨rfl, b1⟩)
      go_wp2_with (go_at_call 18; refine (next_some _ F S (bs S) (K + 8) HFz.out HNX.out (strOf_bs S).symm HN.out).mono ?_; rintro e w2 ⟨rfl, b2⟩)
      go_wp2_with (go_at_call 10; refine (known_any _).mono ?_; rintro e w3 ⟨rfl, b3⟩)
      go_ret
      exact ⟨rfl, bthen (bthen (bthen (below_alloc _ _) b1) b2) b3⟩
end Go.Proofs.Ytgfjpbiioaahhaa
