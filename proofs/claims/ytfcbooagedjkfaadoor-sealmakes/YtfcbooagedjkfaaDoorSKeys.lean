/-
  THE WALK of SealKeys.
-/
import Derived.Test.YtfcbooagedjkfaaDoorSLaw
import Derived.Test.YtfcbooagedjkfaaDoorDRefD
set_option linter.unusedVariables false
set_option linter.unusedSimpArgs false
namespace Go.Proofs.YtfcbooagedjkfaaDoor
open Go.RowKit

theorem whole_zeros (q : List Int) (i : Nat) (h : q.length + i ≤ 64) : Sl.whole (q ++ List.replicate i 0) = q ++ List.replicate (64 - q.length) 0 := by
  unfold Sl.whole
  simp only
  rw [if_pos (by simp; omega), List.append_assoc, List.length_append, List.length_replicate, List.replicate_append_replicate]
  congr 2
  omega
theorem code_whole {a b : List Int} (h : Sl.whole a = Sl.whole b) (msg : List Int) : Sl.code a msg = Sl.code b msg := by
  unfold Sl.code
  rw [h]

set_option maxRecDepth 100000 in
set_option maxHeartbeats 1000000 in
theorem sealKeys_walk (a0 : Option Addr) (len0 cap0 : Nat) (z0 : List Int) (a1 : Option Addr) (len1 cap1 : Nat) (z1 : List Int) (a2 : Int) (w : World) (w0 : IsRow .u8 w a0 len0 cap0 z0) (w1 : IsRow .u8 w a1 len1 cap1 z1) (w2 : (Lit.int .u8 a2).wf = true) (hC : Cubes w) (s0 : len0 ≤ 140737488355328) (s1 : len1 ≤ 140737488355328) :
    Calls Tryd.prog 6 #[.slice a0 len0 cap0, .slice a1 len1 cap1, .int .u8 a2] w fun e w' => e = .returned (.bool true) ∧ Below w.heap.size w w' := by
  have hA := w0.isB
  have hB := w1.isB
  obtain ⟨z20, z21⟩ := bounds_u8 w2
  generalize z0.take len0 = key at hA
  generalize z1.take len1 = msg at hB
  have HA := hide hA
  have HB := hide hB
  have HC := hide hC
  clear w0 w1 w2 hA hB hC
  by_cases hlen : 300 < len0 + len1
  · go_enter Tryd.func6, Tryd.ntmps6
    go_wp2_with fail
    refine (sealKnown_any _ HC.out).mono ?_
    rintro e w2 ⟨rfl, b2⟩
    go_wp2_with fail
    go_ret
    exact ⟨rfl, b2⟩
  · obtain ⟨x1, c1, W1, hrun1, hown1, hgr1⟩ := append_isB w.heap.size (.slice none 0 0) 0 [] (World.ownsRow_nil _ _ _ _) HA.out (by omega) (Nat.le_refl _)
    rw [Nat.zero_add] at hrun1 hown1
    rw [List.nil_append] at hown1
    have b1 : Below w.heap.size w W1 := (Below.refl _ _).grown hgr1 (Nat.le_refl _) (fun k hk => by cases hk)
    have HO1 := hide hown1
    have HB1 := hide b1
    clear hown1 hgr1 b1
    go_enter Tryd.func6, Tryd.ntmps6
    go_upto_if 19 with fail
    go_cut [7] from 19 to 24 (fun v wc => ∃ a' n' c', v = .slice a' n' c' ∧ n' ≤ 64 ∧ Hid (∃ q, q.length = n' ∧ wc.ownsRow w.heap.size 5 1 (.slice a' n' c') n' (q.map b8) ∧ Dg.B8 q ∧ Sl.whole key = q ++ List.replicate (64 - q.length) 0 ∧ Below w.heap.size w wc))
    case first =>
      by_cases h64 : 64 < len0
      · clear hrun1
        go_wp2_with fail
        refine (refSum_own a0 len0 cap0 key _ HA.out (by omega)).mono ?_
        rintro e w2 ⟨a', c', rfl, ho2, b2⟩
        go_wp2_with fail
        go_meet
        case rel =>
          refine ⟨a', 32, c', rfl, by omega, Dg.sha key, Dg.sha_length _, ho2, Dg.b8_of_mem (Dg.sha_mem _), ?_, b2⟩
          unfold Sl.whole
          simp only
          rw [if_neg (by rw [HA.out.1]; omega)]
      · go_wp2_with (at_builtin; refine wpList_append_run rfl _ _ 22 rfl _ _ rfl rfl hrun1 ?_)
        go_meet
        case rel =>
          refine ⟨x1, len0, c1, rfl, by omega, key, HA.out.1, HO1.out, HA.out.2.2.2.1, ?_, HB1.out⟩
          unfold Sl.whole
          simp only
          rw [if_pos (by rw [HA.out.1]; omega)]
    case rest =>
      obtain ⟨a', n', c', rfl, hn', hq⟩ := hcut
      obtain ⟨q, hql, hown, hq8, hwh, hbw⟩ := hq.out
      obtain ⟨m, hm⟩ : ∃ m : Nat, m = (a2 % (65 - (n' : Int))).toNat := ⟨_, rfl⟩
      have hm1 : a2 % (65 - (n' : Int)) < 65 - (n' : Int) := Int.emod_lt_of_pos _ (by omega)
      have hm0 : 0 ≤ a2 % (65 - (n' : Int)) := Int.emod_nonneg _ (by omega)
      have hmn : n' + m ≤ 64 := by omega
      have hme : a2 % (65 - (n' : Int)) = (m : Int) := by omega
      have hmt : a2.tmod (65 - (n' : Int)) = (m : Int) := by rw [Int.tmod_eq_emod_of_nonneg z20]; exact hme
      have HQl := hide hql
      have HOq := hide hown
      have HQ8 := hide hq8
      have HWh := hide hwh
      have HBw := hide hbw
      clear hq hrun1 hown hq8 hwh hbw HO1 HB1 hm hm1 hm0 hql
      go_upto_region 8 with fail
      clear hme hmt
      go_wp2_with fail
      go_loopw [7, 9] (fun v i wr => ∃ (k : Nat) (av : Option Addr) (cv : Nat), k ≤ m ∧ i = .int .i64 k ∧ v = .slice av (n' + k) cv ∧ Hid (wr.ownsRow w.heap.size 5 1 (.slice av (n' + k) cv) (n' + k) ((q ++ List.replicate k 0).map b8)) ∧ Hid (Below w.heap.size w wr)) (fun _ i _ => m - (intOf i).toNat)
      case atStart => exact ⟨0, a', c', by omega, rfl, rfl, by show wc.ownsRow _ _ _ _ _ ((q ++ List.replicate 0 0).map b8); rw [List.replicate_zero, List.append_nil]; exact HOq.out, HBw⟩
      case round =>
        obtain ⟨k, av, cv, hk, rfl, rfl, HO, HBr⟩ := hrel
        by_cases hlt : k < m
        · obtain ⟨x2, c2, W2, hrun2, hown2, hgr2⟩ := append_one (w := wr.alloc (.cells #[b8 0] 5)) 22 5 (.int .u8 0) 1 Tryd.underlying22 infoByte rfl w.heap.size _ (n' + k) _ (HO.out.alloc _) (lo := wr.heap.size) (m := 1) (c := 1) (news := [b8 0]) rfl (one_cell wr (b8 0) 5) (by simp [Value.oneCell']) (by omega) (by omega) (by have := HBr.out.size; simp; omega)
          have HO2 := hide hown2
          have HB2 : Hid (Below w.heap.size w W2) := (HBr.out.alloc HBr.out.size _).grown hgr2 (by have := HBr.out.size; simp; omega) (own_block HO.out)
          clear hown2 hgr2
          go_wp2_with (at_builtin; refine wpList_append_run rfl _ _ 22 rfl _ _ rfl rfl hrun2 ?_)
          go_roundw
          case rel =>
            refine ⟨k + 1, x2, c2, by omega, by go_num, by rw [← Nat.add_assoc], ?_, HB2⟩
            unfold Hid
            rw [← Nat.add_assoc]
            have e : (q ++ List.replicate (k + 1) (0 : Int)).map b8 = (q ++ List.replicate k (0 : Int)).map b8 ++ [b8 0] := by
              rw [List.replicate_succ', ← List.append_assoc, List.map_append]
              rfl
            rw [e]
            exact HO2.out
          case measure => simp [intOf]; omega
        · have hkm : k = m := by omega
          have h8 : Dg.B8 (q ++ List.replicate k 0) := Dg.b8_of_mem fun x hx => by
            rcases List.mem_append.1 hx with h | h
            · exact y8_of HQ8.out x h
            · have := List.eq_of_mem_replicate h; omega
          have HI := hide (own_isB' HO.out h8).1
          have hcode : Sl.code (q ++ List.replicate k 0) msg = Sl.code key msg := code_whole ((whole_zeros q k (by rw [HQl.out]; omega)).trans HWh.out.symm) msg
          have HCode := hide hcode
          clear h8 hcode hkm
          go_wp2_with fail
          refine (sealKnown_any _ (HC.out.below' HBr.out)).mono ?_
          rintro e w2 ⟨rfl, b2⟩
          have HB2 := hide (bthen HBr.out b2)
          have HI2 := hide (HI.out.below b2)
          clear b2
          go_wp2_with fail
          refine (code_any _ msg _ _ _ _ _ _ _ HI2.out (HB.out.below HB2.out) (HC.out.below' HB2.out) (by omega) (by omega)).mono ?_
          rintro e w3 ⟨g3, rfl, hI3, b3⟩
          rw [HCode.out] at hI3
          have HB3 := hide (bthen HB2.out b3)
          have HI3 := hide hI3
          clear b3 hI3
          go_wp2_with fail
          refine (code_any key msg _ _ _ _ _ _ _ (HA.out.below HB3.out) (HB.out.below HB3.out) (HC.out.below' HB3.out) (by omega) (by omega)).mono ?_
          rintro e w4 ⟨g4, rfl, hI4, b4⟩
          have HB4 := hide (bthen HB3.out b4)
          have HI4 := hide hI4
          have HI3' := hide (HI3.out.below b4)
          clear b4 hI4
          go_wp2_with fail
          refine (sealEqual_any _ _ _ _ _ _ _ _ _ HI3'.out HI4.out).mono ?_
          rintro e w5 ⟨rfl, n5, rfl⟩
          rw [show decide (Sl.code key msg = Sl.code key msg) = true by simp]
          go_wp2_with fail
          go_ret
          exact ⟨rfl, below_drewN HB4.out n5⟩
end Go.Proofs.YtfcbooagedjkfaaDoor
