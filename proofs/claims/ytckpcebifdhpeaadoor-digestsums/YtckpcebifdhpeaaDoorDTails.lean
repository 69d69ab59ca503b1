/-
  THE WALK of DigestTails.
-/
import Derived.Test.YtckpcebifdhpeaaDoorDKnown
import Derived.OpenShut
import Derived.Lib.EndianBits
set_option linter.unusedVariables false
set_option linter.unusedSimpArgs false
namespace Go.Proofs.YtckpcebifdhpeaaDoor
open Go.RowKit

theorem bits_or_comm (k : IntKind) (x y : Int) : bits .or k x y = bits .or k y x := by simp [bits, BitVec.or_comm]
theorem or_join {y : Int} (h0 : 0 ≤ y) (h1 : y < 18446744073709551616) : bits .or .u64 (y / 256 * 256 % 18446744073709551616) (y % 256) = y := by
  rw [bits_or_comm, u64_or8 _ _ (by omega) (by omega) (by omega) (by omega) (by omega)]
  omega
/-- what stands at each place of a tail -/
theorem tail_at (n : Int) (q : Nat) (hq : Dg.noughts n = q) (i : Nat) : (Dg.tail n)[i]?.getD 0 = if i = 0 then 128 else if i < 1 + q then 0 else (Dg.be (n * 8 % 18446744073709551616) 8)[i - 1 - q]?.getD 0 := by
  unfold Dg.tail
  rw [hq]
  cases i with
  | zero => simp
  | succ i =>
    rw [List.getElem?_cons_succ, List.getElem?_append]
    simp only [List.length_replicate]
    by_cases h : i < q
    · simp [h, show i + 1 < 1 + q by omega]
    · simp [h, show ¬ (i + 1 < 1 + q) by omega, show i + 1 - 1 - q = i - q by omega]
theorem be_at (x : Int) (m j : Nat) (h : j < m) : (Dg.be x m)[j]?.getD 0 = x / 2 ^ (8 * (m - 1 - j)) % 256 := by
  induction m generalizing j with
  | zero => omega
  | succ m ih =>
    cases j with
    | zero => simp [Dg.be]
    | succ j => rw [Dg.be, List.getElem?_cons_succ, ih j (by omega), show m + 1 - 1 - (j + 1) = m - 1 - j by omega]

set_option maxRecDepth 100000 in
set_option maxHeartbeats 1000000 in
theorem digestTails_walk (n c : Int) (hwf : (Lit.int .u32 n).wf = true) (hwc : (Lit.int .u8 c).wf = true) (w : World) (hC : Cubes w) :
    Calls Tryd.prog 5 #[.int .u32 n, .int .u8 c] w fun e w' => e = .returned (.bool true) ∧ Below w.heap.size w w' := by
  obtain ⟨h0, h1⟩ := bounds_u32 hwf
  obtain ⟨h2, h3⟩ := bounds_u8 hwc
  have HC := hide hC
  clear hC hwf hwc
  go_enter Tryd.func5, Tryd.ntmps5
  go_upto_region 2 with fail
  obtain ⟨M, hM⟩ : ∃ M, M = n + c * 72057594037927936 := ⟨_, rfl⟩
  rw [← hM]
  have m0 : 0 ≤ M := by omega
  have m1 : M < 18446744073709551616 := by omega
  clear hM h0 h1 h2 h3
  generalize c * 72057594037927936 = c7
  go_wp2_with fail
  refine (tail_any M _ m0 m1).mono ?_
  rintro e w1 ⟨gt, L, hL, rfl, hown, b1⟩
  have HB1 := hide b1
  obtain ⟨q, hq⟩ : ∃ q, Dg.noughts M = q := ⟨_, rfl⟩
  have hL2 : L = q + 9 := by rw [hL.out, Dg.tail_length, hq]
  have hq63 : q ≤ 63 := by rw [← hq]; exact Dg.noughts_le M
  have hqm : (M + (q + 9)) % 64 = 0 := by rw [← hq]; unfold Dg.noughts; omega
  obtain ⟨hI, _, hgt⟩ := own_isB hown (Dg.b8_of_mem (Dg.tail_mem _)) (by omega)
  have hmod : (IntKind.u64.wrap (M + (L : Int))).tmod 64 = 0 := by
    rw [IntKind.wrap_u64, Int.tmod_eq_emod_of_nonneg (by omega)]
    omega
  obtain ⟨e1, e2, e3, e4, ⟨hbad, _⟩ | ⟨x, hx, hR⟩⟩ := hI
  · cases hbad
  · cases hx
    obtain ⟨_, _, hx, hR⟩ := hR (by omega)
    cases hx
    have hlen : (Dg.tail M).length = L := hL.out.symm
    have hcell : ∀ i : Nat, i < L → w1.cell? ⟨gt, i, none⟩ = some (b8 ((Dg.tail M)[i]?.getD 0)) := fun i hi => by
      have := hR i (by omega)
      rw [Nat.zero_add] at this
      exact this
    have hc0 := hcell 0 (by omega)
    rw [tail_at M q hq, if_pos rfl] at hc0
    have hlo : 9 ≤ (L : Int) := by omega
    have hhi : (L : Int) ≤ 72 := by omega
    have HQ := hide hq
    have HL2 := hide hL2
    have HQM := hide hqm
    have HCL := hide hcell
    have HL := hide hlen
    clear hR hown hL hq hL2 hqm hcell b1 hlen e1 e2 e3 e4
    go_upto_region 5 with fail
    clear hc0 hmod
    obtain ⟨x, hx⟩ : ∃ x, x = M * 8 % 18446744073709551616 := ⟨_, rfl⟩
    have x0 : 0 ≤ x := by omega
    have x1 : x < 18446744073709551616 := by omega
    have HX := hide hx
    clear hx
    go_wp2_with fail
    go_loopw [7, 8] (fun lv iv wr => ∃ (j I : Nat) (l : Int), j ≤ 8 ∧ Hid (I + 8 = L + j) ∧ iv = .int .i64 I ∧ lv = .int .u64 l ∧ 0 ≤ l ∧ Hid (l = x / 2 ^ (8 * (8 - j))) ∧ w1 = wr) (fun _ iv _ => L - (intOf iv).toNat)
    case atStart =>
      refine ⟨0, L - 8, 0, by omega, by show L - 8 + 8 = L + 0; omega, ?_, rfl, by omega, ?_, rfl⟩
      · congr 1; omega
      · show (0 : Int) = x / 2 ^ (8 * (8 - 0))
        rw [show (2 : Int) ^ (8 * (8 - 0)) = 18446744073709551616 by decide]
        omega
    case round =>
      obtain ⟨j, I, l, hj, HI, rfl, rfl, l0, Hl, rfl⟩ := hrel
      by_cases hlt : I < L
      · obtain ⟨v, hv⟩ : ∃ v, v = (Dg.tail M)[I]?.getD 0 := ⟨_, rfl⟩
        have hc := HCL.out I hlt
        rw [← hv] at hc
        have hi := HI.out
        have hj8 : j < 8 := by omega
        have hv2 : v = x / 2 ^ (8 * (7 - j)) % 256 := by
          rw [hv, tail_at M q HQ.out, if_neg (by have := HL2.out; omega), if_neg (by have := HL2.out; omega), be_at _ 8 _ (by have := HL2.out; omega), ← HX.out, show 8 - 1 - (I - 1 - q) = 7 - j by have := HL2.out; omega]
        have v0 : 0 ≤ v ∧ v ≤ 255 := by omega
        have HV := hide hv2
        clear hv hv2 hi
        go_wp2_with fail
        go_roundw
        case rel =>
          have hy : ∀ e : Nat, 0 ≤ x / 2 ^ e ∧ x / 2 ^ e < 18446744073709551616 := fun e => by
            have hp : (0 : Int) < 2 ^ e := Int.pow_pos (by decide)
            exact ⟨Int.ediv_nonneg x0 (Int.le_of_lt hp), by have := Int.ediv_le_self (b := 2 ^ e) x0; omega⟩
          have hstep : bits .or .u64 (l * 256 % 18446744073709551616) v = x / 2 ^ (8 * (8 - (j + 1))) := by
            have e1 : l = x / 2 ^ (8 * (7 - j)) / 256 := by
              rw [Hl.out, Int.ediv_ediv_of_nonneg (Int.le_of_lt (Int.pow_pos (by decide))), show (256 : Int) = 2 ^ 8 by decide, ← Int.pow_add, show 8 * (7 - j) + 8 = 8 * (8 - j) by omega]
            rw [e1, HV.out, show 8 - (j + 1) = 7 - j by omega]
            exact or_join (hy _).1 (hy _).2
          refine ⟨j + 1, I + 1, x / 2 ^ (8 * (8 - (j + 1))), by omega, by have := HI.out; show I + 1 + 8 = L + (j + 1); omega, by go_num, ?_, (hy _).1, rfl, trivial⟩
          rw [← hstep, IntKind.wrap_u64]
        case measure => simp [intOf]; omega
      · have hj8 : j = 8 := by have := HI.out; omega
        have hlx : l = x := by
          have := Hl.out
          rw [hj8] at this
          simpa using this
        have HLX := hide hlx
        clear hlx Hl hj8
        go_wp2_with fail
        go_loopw [9] (fun iv wr => ∃ k : Nat, 1 ≤ k ∧ k + 8 ≤ L ∧ iv = .int .i64 k ∧ w1 = wr) (fun iv _ => L - (intOf iv).toNat)
        case atStart => exact ⟨1, by omega, by omega, rfl, rfl⟩
        case round =>
          obtain ⟨k, hk1, hk2, rfl, rfl⟩ := hrel
          by_cases hkl : k + 8 < L
          · have hc := HCL.out k (by omega)
            rw [tail_at M q HQ.out, if_neg (by omega), if_pos (by have := HL2.out; omega)] at hc
            have hkl2 : (k : Int) < (L : Int) - 8 := by omega
            go_wp2_with fail
            go_roundw
            case rel => exact ⟨k + 1, by omega, by omega, by go_num, trivial⟩
            case measure => simp [intOf]; omega
          · have hkl2 : ¬ (k : Int) < (L : Int) - 8 := by omega
            go_wp2_with fail
            refine (known_any _ (HC.out.below' HB1.out)).mono ?_
            rintro e w2 ⟨rfl, b2⟩
            have hfin : (l == IntKind.u64.wrap (M * 8)) = true := by rw [IntKind.wrap_u64, ← HX.out, HLX.out]; simp
            go_wp2_with fail
            go_ret
            exact ⟨rfl, bthen HB1.out b2⟩
end Go.Proofs.YtckpcebifdhpeaaDoor
