/-
  THE WALK of FrameHead (layer 10).
-/
import Derived.Test.YtgfjpbiioaahhaaFLaw
set_option linter.unusedVariables false
set_option linter.unusedSimpArgs false
set_option maxRecDepth 100000
namespace Go.Proofs.Ytgfjpbiioaahhaa
open Go.RowKit Fr

/-- a row of four bytes just made -/
def FourB (x y z u : Int) : Fact := fun lo hi v w => v = .slice (some ⟨lo, 0, none⟩) 4 4 ∧ Hid (∀ i, i < 4 → w.cell? ⟨lo, 0 + i, none⟩ = some (.int .u8 ([x, y, z, u].getD i 0)))
theorem mono_fourB (x y z u : Int) : Mono (FourB x y z u) := by
  rintro lo hi v w w' ⟨rfl, h⟩ k
  exact ⟨rfl, fun i hi => (k.cell (p := ⟨lo, 0 + i, none⟩) (block_lt_of_cell (h.out i hi))).trans (h.out i hi)⟩
theorem fourB_fact (x y z u : Int) (w : World) : FourB x y z u w.heap.size (w.alloc (.cells #[.int .u8 x, .int .u8 y, .int .u8 z, .int .u8 u] 5)).heap.size (.slice (some ⟨w.heap.size, 0, none⟩) 4 4) (w.alloc (.cells #[.int .u8 x, .int .u8 y, .int .u8 z, .int .u8 u] 5)) :=
  ⟨rfl, fun i hi => by
    rw [(Blk.new w #[.int .u8 x, .int .u8 y, .int .u8 z, .int .u8 u] 5).cell, Nat.zero_add]
    have : i = 0 ∨ i = 1 ∨ i = 2 ∨ i = 3 := by omega
    rcases this with rfl | rfl | rfl | rfl <;> rfl⟩
theorem conv_four (w : World) (lo : Nat) (x y z u : Int) (C : ByteArray) (hc : ∀ i, i < 4 → w.cell? ⟨lo, 0 + i, none⟩ = some (.int .u8 ([x, y, z, u].getD i 0))) (hC : C = ⟨#[x.toNat.toUInt8, y.toNat.toUInt8, z.toNat.toUInt8, u.toNat.toUInt8]⟩) : (convert 26 9 (.slice (some ⟨lo, 0, none⟩) 4 4)).run Try.prog w = .ok (.string C) w := by
  subst hC
  have h := run_convert_bytes_arg (P := Try.prog) w 26 5 Try.underlying26 Try.underlying5 lo 0 4 4 [x, y, z, u] rfl hc 9 Try.underlying9
  rw [h]
  rfl
theorem nat_byte (k : Nat) : ((k : Nat) : Int).toNat.toUInt8 = UInt8.ofNat k := by rw [Int.toNat_natCast]
theorem num_cons (a b c d : UInt8) (r : Bs) : num (a :: b :: c :: d :: r) = a.toNat * 16777216 + b.toNat * 65536 + c.toNat * 256 + d.toNat := by
  simp only [num, List.getElem?_cons_zero, List.getElem?_cons_succ, Option.getD_some]
theorem num_small (d1 d0 : Nat) (h1 : d1 < 256) (h0 : d0 < 256) (r : Bs) : num (0 :: 0 :: UInt8.ofNat d1 :: UInt8.ofNat d0 :: r) = d1 * 256 + d0 := by
  rw [num_cons, UInt8.toNat_ofNat', UInt8.toNat_ofNat', show (0 : UInt8).toNat = 0 from rfl]
  simp only [Nat.zero_mul, Nat.zero_add]
  rw [Nat.mod_eq_of_lt h1, Nat.mod_eq_of_lt h0]

set_option maxHeartbeats 1000000 in
theorem frameHead_walk (a0 : ByteArray) (a1 : Int) (w0 : a0.size ≤ 140737488355328) (w1 : (Lit.int .u8 a1).wf = true) (w : World) :
    Calls Try.prog 9 #[.string a0, .int .u8 a1] w fun e w' => e = .returned (.bool true) ∧ Below w.heap.size w w' := by
  by_cases hbig : a0.size ≤ 200
  · obtain ⟨v, hv, hvl⟩ : ∃ v : Nat, a1 = (v : Int) ∧ v < 256 := by
      simp [Lit.wf, IntKind.min, IntKind.max, IntKind.bits, IntKind.signed] at w1
      exact ⟨a1.toNat, by omega, by omega⟩
    subst hv
    have hb0 : (bs a0).length ≤ most := by rw [bs_length]; unfold most; omega
    obtain ⟨F, hF⟩ : ∃ F, F = strOf (fr (bs a0)) := ⟨_, rfl⟩
    have hbF : bs F = four (bs a0).length ++ (four (sum (four (bs a0).length ++ bs a0)) ++ bs a0) := by rw [hF, bs_strOf]; unfold fr; rw [if_neg (by omega)]
    have hFs : F.size = a0.size + 8 := by rw [hF]; show (fr (bs a0)).length = _; rw [fr_length hb0, bs_length]
    have hFsI : (F.size : Int) = (a0.size : Int) + 8 := by omega
    obtain ⟨n0, hn0⟩ : ∃ n, n = a0.size := ⟨_, rfl⟩
    obtain ⟨q, hq⟩ : ∃ q, q = sum (four (bs a0).length ++ bs a0) := ⟨_, rfl⟩
    have hql : q < 4294967296 := by rw [hq]; exact sum_lt _
    rw [← hq, bs_length, ← hn0] at hbF
    have hat : ∀ j (h : j < F.size), F[j] = (bs F)[j]?.getD 0 := fun j h => by rw [List.getElem?_eq_getElem (by rw [bs_length]; exact h), bs_at F j h]; rfl
    have g0 : 0 < F.size := by omega
    have g1 : 1 < F.size := by omega
    have g2 : 2 < F.size := by omega
    have g3 : 3 < F.size := by omega
    have HF_0 : Hid ((F[0].toNat : Int) = 0) := by
      show _ = _
      rw [hat 0 g0, hbF]
      show ((UInt8.ofNat (n0 / 16777216)).toNat : Int) = 0
      rw [UInt8.toNat_ofNat']; omega
    have HF_1 : Hid ((F[1].toNat : Int) = 0) := by
      show _ = _
      rw [hat 1 g1, hbF]
      show ((UInt8.ofNat (n0 / 65536)).toNat : Int) = 0
      rw [UInt8.toNat_ofNat']; omega
    have HF_2 : Hid ((F[2].toNat : Int) = 0) := by
      show _ = _
      rw [hat 2 g2, hbF]
      show ((UInt8.ofNat (n0 / 256)).toNat : Int) = 0
      rw [UInt8.toNat_ofNat']; omega
    have HF_3 : Hid ((F[3].toNat : Int) = (n0 : Int)) := by
      show _ = _
      rw [hat 3 g3, hbF]
      show ((UInt8.ofNat n0).toNat : Int) = _
      rw [UInt8.toNat_ofNat']; omega
    obtain ⟨m, hm⟩ : ∃ m, m = a0.size + v + 1 := ⟨_, rfl⟩
    have hmi : (a0.size : Int) + (v : Int) + 1 = (m : Int) := by omega
    obtain ⟨d1, hd1⟩ : ∃ d, d = m / 256 := ⟨_, rfl⟩
    obtain ⟨d0, hd0⟩ : ∃ d, d = m % 256 := ⟨_, rfl⟩
    have hd1l : d1 < 256 := by omega
    have hd0l : d0 < 256 := by omega
    have t1 : (m : Int).tdiv 256 = (d1 : Int) := by rw [Int.tdiv_eq_ediv_of_nonneg (by omega)]; omega
    have t1e : (m : Int) / 256 = (d1 : Int) := by omega
    have t0 : (m : Int).tmod 256 = (d0 : Int) := by rw [Int.tmod_eq_emod_of_nonneg (by omega)]; omega
    have t0e : (m : Int) % 256 = (d0 : Int) := by omega
    have u1 : (d1 : Int) % 256 = (d1 : Int) := by omega
    have u0 : (d0 : Int) % 256 = (d0 : Int) := by omega
    have v1 : IntKind.u8.wrap (d1 : Int) = (d1 : Int) := by rw [IntKind.wrap_u8]; omega
    have v0 : IntKind.u8.wrap (d0 : Int) = (d0 : Int) := by rw [IntKind.wrap_u8]; omega
    obtain ⟨C4, hC4⟩ : ∃ C : ByteArray, C = ⟨#[(0 : Int).toNat.toUInt8, (0 : Int).toNat.toUInt8, (d1 : Int).toNat.toUInt8, (d0 : Int).toNat.toUInt8]⟩ := ⟨_, rfl⟩
    have hbC4 : bs C4 = [0, 0, UInt8.ofNat d1, UInt8.ofNat d0] := by rw [hC4, nat_byte, nat_byte]; rfl
    obtain ⟨F4, hF4⟩ : ∃ G, G = F.extract 4 F.size := ⟨_, rfl⟩
    have hbF4 : bs F4 = (bs F).drop 4 := by rw [hF4, bs_tail]
    obtain ⟨OT, hOT⟩ : ∃ G, G = C4 ++ F4 := ⟨_, rfl⟩
    have hbO : bs OT = [0, 0, UInt8.ofNat d1, UInt8.ofNat d0] ++ (bs F).drop 4 := by rw [hOT, bs_append, hbC4, hbF4]
    have hOl : (bs OT).length = F.size := by rw [hbO, List.length_append, List.length_drop, bs_length]; simp; omega
    have hOz : OT.size ≤ 1000000000 := by rw [← bs_length, hOl]; omega
    have hOnum : num (bs OT) = m := by
      rw [hbO]
      rw [List.cons_append, List.cons_append, List.cons_append, List.cons_append, num_small d1 d0 hd1l hd0l, hd1, hd0]
      exact Nat.div_add_mod' m 256
    have hON : nx (bs OT) = none := by
      unfold nx
      rw [hOl, hOnum, if_neg (by omega), if_pos (.inr (by omega))]
    have hC4s : C4.size = 4 := by rw [hC4]; rfl
    have hF4s : F4.size ≤ 300 := by rw [← bs_length, hbF4, List.length_drop, bs_length]; omega
    have hcat : ¬ 9223372036854775807 < C4.size + F4.size := by omega
    obtain ⟨H4, hH4⟩ : ∃ G, G = F.extract 0 4 := ⟨_, rfl⟩
    have hbH4 : bs H4 = four n0 := by rw [hH4, bs_extract, List.drop_zero, hbF]; exact List.take_left' (four_length _)
    have hH4s : H4.size = 4 := by rw [← bs_length, hbH4]; rfl
    obtain ⟨T, hT⟩ : ∃ G, G = H4 ++ a0 := ⟨_, rfl⟩
    have hbT : bs T = four n0 ++ bs a0 := by rw [hT, bs_append, hbH4]
    have hTz : T.size ≤ 1152921504606846976 := by rw [← bs_length, hbT, List.length_append, four_length, bs_length]; omega
    have hqT : q = sum (bs T) := by rw [hbT, hq, bs_length, hn0]
    have hcatT : ¬ 9223372036854775807 < H4.size + a0.size := by omega
    have hF8 : a0 = F.extract 8 F.size := str_ext (by
      rw [bs_tail, hbF, show (8 : Nat) = 4 + 4 by rfl, ← List.drop_drop, List.drop_left' (four_length _), List.drop_left' (four_length _)])
    obtain ⟨S4, hS4⟩ : ∃ G, G = F.extract 4 8 := ⟨_, rfl⟩
    have hbS4 : bs S4 = four q := by
      rw [hS4, bs_extract, ← List.drop_take (i := 4) (j := 8) |>.symm, hbF]
      rfl
    have hSQ : S4 = ⟨#[((q : Int) / 16777216).toNat.toUInt8, ((q : Int) / 65536 % 256).toNat.toUInt8, ((q : Int) / 256 % 256).toNat.toUInt8, ((q : Int) % 256).toNat.toUInt8]⟩ := by
      apply str_ext
      rw [hbS4, show (q : Int) / 16777216 = ((q / 16777216 : Nat) : Int) by omega, show (q : Int) / 65536 % 256 = ((q / 65536 % 256 : Nat) : Int) by omega, show (q : Int) / 256 % 256 = ((q / 256 % 256 : Nat) : Int) by omega, show (q : Int) % 256 = ((q % 256 : Nat) : Int) by omega, nat_byte, nat_byte, nat_byte, nat_byte, ofNat_mod, ofNat_mod, ofNat_mod]
      rfl
    have hs4I : (4 : Int) ≤ (F.size : Int) := by omega
    have hs8I : (8 : Int) ≤ (F.size : Int) := by omega
    have i0 : (0 : Int) < (F.size : Int) := by omega
    have i1 : (1 : Int) < (F.size : Int) := by omega
    have i2 : (2 : Int) < (F.size : Int) := by omega
    have i3 : (3 : Int) < (F.size : Int) := by omega
    have hne : ((F.size : Int) != (a0.size : Int) + 8) = false := by rw [hFsI]; exact bne_self_eq_false _
    have hne2 : decide ((F.size : Int) = (a0.size : Int) + 8) = true := decide_eq_true hFsI
    have hFhi : F.size ≤ 208 := by omega
    have hF8l : 8 ≤ F.size := by omega
    have HF := hide hF
    have HN0 : Hid ((a0.size : Int) = (n0 : Int)) := by show _ = _; rw [hn0]
    have hn0l : n0 ≤ 200 := by omega
    have HC4 := hide hC4
    have HF4 := hide hF4
    have HOT := hide hOT
    have HOz := hide hOz
    have HON := hide hON
    have HH4 := hide hH4
    have HT := hide hT
    have HTz := hide hTz
    have HQ := hide hqT
    have HF8 := hide hF8
    have HS4 := hide hS4
    have HSQ := hide hSQ
    have hml : m < 500 := by omega
    have HW1 : Hid (IntKind.i64.wrap (d1 : Int) = (d1 : Int)) := by show IntKind.i64.wrap (d1 : Int) = _; rw [IntKind.wrap_i64]; omega
    have HWn : Hid (IntKind.i64.wrap (n0 : Int) = (n0 : Int)) := by show IntKind.i64.wrap (n0 : Int) = _; rw [IntKind.wrap_i64]; omega
    have HWq : Hid (IntKind.u8.wrap ((q : Int) / 16777216) = (q : Int) / 16777216) := by show IntKind.u8.wrap ((q : Int) / 16777216) = _; rw [IntKind.wrap_u8]; omega
    clear hb0 hF hbF hFs hFsI hn0 hq hat hm hd1 hd0 hC4 hbC4 hF4 hbF4 hOT hbO hOl hOz hOnum hON hC4s hF4s hH4 hbH4 hH4s hT hbT hTz hqT hF8 hS4 hbS4 hSQ w1
    go_enter Try.func9, Try.ntmps9
    go_wp2_with (go_at_call 14; refine (frame_is _ a0 F (by omega) HF.out).mono ?_; rintro e w1 ⟨rfl, b1⟩)
    have HB2 := hide b1
    clear b1
    go_upto_region 7 with fail
    refine' wp_region_facts [(fun _ _ v _ => v = (.int .i64 (m : Int))), (fun _ _ v _ => v = (.int .i64 (d1 : Int))), (fun _ _ v _ => v = (.int .u8 (d1 : Int))), (fun _ _ v _ => v = (.int .i64 (m : Int))), (fun _ _ v _ => v = (.int .i64 (d0 : Int))), (fun _ _ v _ => v = (.int .u8 (d0 : Int))), (FourB 0 0 (d1 : Int) (d0 : Int)), (fun _ _ v _ => v = (.string C4)), (fun _ _ v _ => v = (.string F)), (fun _ _ v _ => v = (.string F4)), (fun _ _ v _ => v = (.string OT))] (by kernel_rfl) rfl ?hA (by kernel_rfl) (by kernel_rfl) (by kernel_rfl) rfl ?mono ?steps ?last
    case hA =>
      intro vs
      simp only [puts, Act.put, List.setIfInBounds_toArray, List.set_cons_zero, List.set_cons_succ, Nat.zero_add, Nat.reduceAdd]
      rfl
    case mono => exact ⟨mono_eq _, mono_eq _, mono_eq _, mono_eq _, mono_eq _, mono_eq _, mono_fourB _ _ _ _, mono_eq _, mono_eq _, mono_eq _, mono_eq _, trivial⟩
    case steps =>
      intro Q'
      refine And.intro ?_ ?_
      · intro vs lo hi w' hM hd K' hK
        dsimp only at hK ⊢
        simp only [Act.put, List.setIfInBounds_toArray, List.set_cons_zero, List.set_cons_succ] at hK
        go_simp
        exact hK.out _ _ rfl (Below.refl _ _)
      refine And.intro ?_ ?_
      · intro vs lo hi w' hM hd K' hK
        dsimp only at hK ⊢
        simp only [Act.put, List.setIfInBounds_toArray, List.set_cons_zero, List.set_cons_succ] at hK
        have e0 : vs 0 = (.int .i64 (m : Int)) := hd 0 (by kernel_rfl)
        simp only [e0] at hK ⊢
        clear e0
        go_simp
        exact hK.out _ _ (show Value.int .i64 (IntKind.i64.wrap (d1 : Int)) = Value.int .i64 (d1 : Int) by rw [HW1.out]) (Below.refl _ _)
      refine And.intro ?_ ?_
      · intro vs lo hi w' hM hd K' hK
        dsimp only at hK ⊢
        simp only [Act.put, List.setIfInBounds_toArray, List.set_cons_zero, List.set_cons_succ] at hK
        have e1 : vs 1 = (.int .i64 (d1 : Int)) := hd 1 (by kernel_rfl)
        simp only [e1] at hK ⊢
        clear e1
        go_simp
        exact hK.out _ _ rfl (Below.refl _ _)
      refine And.intro ?_ ?_
      · intro vs lo hi w' hM hd K' hK
        dsimp only at hK ⊢
        simp only [Act.put, List.setIfInBounds_toArray, List.set_cons_zero, List.set_cons_succ] at hK
        go_simp
        exact hK.out _ _ rfl (Below.refl _ _)
      refine And.intro ?_ ?_
      · intro vs lo hi w' hM hd K' hK
        dsimp only at hK ⊢
        simp only [Act.put, List.setIfInBounds_toArray, List.set_cons_zero, List.set_cons_succ] at hK
        have e3 : vs 3 = (.int .i64 (m : Int)) := hd 3 (by kernel_rfl)
        simp only [e3] at hK ⊢
        clear e3
        go_simp
        exact hK.out _ _ rfl (Below.refl _ _)
      refine And.intro ?_ ?_
      · intro vs lo hi w' hM hd K' hK
        dsimp only at hK ⊢
        simp only [Act.put, List.setIfInBounds_toArray, List.set_cons_zero, List.set_cons_succ] at hK
        have e4 : vs 4 = (.int .i64 (d0 : Int)) := hd 4 (by kernel_rfl)
        simp only [e4] at hK ⊢
        clear e4
        go_simp
        exact hK.out _ _ rfl (Below.refl _ _)
      refine And.intro ?_ ?_
      · intro vs lo hi w' hM hd K' hK
        dsimp only at hK ⊢
        simp only [Act.put, List.setIfInBounds_toArray, List.set_cons_zero, List.set_cons_succ] at hK
        have e2 : vs 2 = (.int .u8 (d1 : Int)) := hd 2 (by kernel_rfl)
        have e5 : vs 5 = (.int .u8 (d0 : Int)) := hd 5 (by kernel_rfl)
        simp only [e2, e5] at hK ⊢
        clear e2 e5
        go_simp
        exact hK.out _ _ (fourB_fact _ _ _ _ w') (below_alloc _ _)
      refine And.intro ?_ ?_
      · intro vs lo hi w' hM hd K' hK
        dsimp only at hK ⊢
        simp only [Act.put, List.setIfInBounds_toArray, List.set_cons_zero, List.set_cons_succ] at hK
        obtain ⟨e6, c6⟩ := hd 6 (by kernel_rfl)
        simp only [e6] at hK ⊢
        clear e6
        have hcv := conv_four w' (lo 6) _ _ _ _ C4 c6.out HC4.out
        go_simp
        exact hK.out _ _ rfl (Below.refl _ _)
      refine And.intro ?_ ?_
      · intro vs lo hi w' hM hd K' hK
        dsimp only at hK ⊢
        simp only [Act.put, List.setIfInBounds_toArray, List.set_cons_zero, List.set_cons_succ] at hK
        go_simp
        exact hK.out _ _ rfl (Below.refl _ _)
      refine And.intro ?_ ?_
      · intro vs lo hi w' hM hd K' hK
        dsimp only at hK ⊢
        simp only [Act.put, List.setIfInBounds_toArray, List.set_cons_zero, List.set_cons_succ] at hK
        have e8 : vs 8 = (.string F) := hd 8 (by kernel_rfl)
        simp only [e8] at hK ⊢
        clear e8
        go_simp
        exact hK.out _ _ (show Value.string (F.extract 4 F.size) = Value.string F4 by rw [HF4.out]) (Below.refl _ _)
      refine And.intro ?_ ?_
      · intro vs lo hi w' hM hd K' hK
        dsimp only at hK ⊢
        simp only [Act.put, List.setIfInBounds_toArray, List.set_cons_zero, List.set_cons_succ] at hK
        have e7 : vs 7 = (.string C4) := hd 7 (by kernel_rfl)
        have e9 : vs 9 = (.string F4) := hd 9 (by kernel_rfl)
        simp only [e7, e9] at hK ⊢
        clear e7 e9
        go_simp
        exact hK.out _ _ (show Value.string (C4 ++ F4) = Value.string OT by rw [HOT.out]) (Below.refl _ _)
      exact trivial
    case last =>
      intro vs lo hi w' hM hlo hap hall K' Q' hK
      obtain ⟨_, _, _, _, _, _, _, _, _, _, e10, _⟩ := hall
      dsimp only
      simp only [e10]
      clear e10 hap hlo
      go_simp
      refine hK.out _ _ ?_
      clear hK
      replace HB2 := hide (bthen HB2.out hM)
      clear hM
      go_wp2_with fail
      refine (next_none _ OT HOz.out HON.out).mono ?_
      rintro e w4 ⟨rfl, b4⟩
      replace HB2 := hide (bthen HB2.out b4)
      clear b4
      go_wp2_with fail
      rw [← HH4.out, ← HT.out]
      refine (rsum_is _ T q HQ.out HTz.out).mono ?_
      rintro e w5 ⟨rfl, rfl⟩
      go_upto_region 10 with fail
      refine' wp_region_facts [(fun _ _ v _ => v = (.bool true)), (fun _ _ v _ => v = (.bool true)), (fun _ _ v _ => v = (.string F)), (fun _ _ v _ => v = (.int .u8 0)), (fun _ _ v _ => v = (.bool true)), (fun _ _ v _ => v = (.bool true)), (fun _ _ v _ => v = (.bool true)), (fun _ _ v _ => v = (.string F)), (fun _ _ v _ => v = (.int .u8 0)), (fun _ _ v _ => v = (.bool true)), (fun _ _ v _ => v = (.bool true)), (fun _ _ v _ => v = (.bool true)), (fun _ _ v _ => v = (.string F)), (fun _ _ v _ => v = (.int .u8 0)), (fun _ _ v _ => v = (.int .i64 0)), (fun _ _ v _ => v = (.int .i64 0)), (fun _ _ v _ => v = (.string F)), (fun _ _ v _ => v = (.int .u8 (n0 : Int))), (fun _ _ v _ => v = (.int .i64 (n0 : Int))), (fun _ _ v _ => v = (.int .i64 (n0 : Int))), (fun _ _ v _ => v = (.string a0)), (fun _ _ v _ => v = (.int .i64 (n0 : Int))), (fun _ _ v _ => v = (.bool true)), (fun _ _ v _ => v = (.bool true)), (fun _ _ v _ => v = (.bool true)), (fun _ _ v _ => v = (.string F)), (fun _ _ v _ => v = (.string a0)), (fun _ _ v _ => v = (.string a0)), (fun _ _ v _ => v = (.bool true)), (fun _ _ v _ => v = (.bool true)), (fun _ _ v _ => v = (.bool true)), (fun _ _ v _ => v = (.string F)), (fun _ _ v _ => v = (.string S4)), (fun _ _ v _ => v = (u32v q)), (fun _ _ v _ => v = (.int .u32 ((q : Int) / 16777216))), (fun _ _ v _ => v = (.int .u8 ((q : Int) / 16777216))), (fun _ _ v _ => v = (u32v q)), (fun _ _ v _ => v = (.int .u32 ((q : Int) / 65536))), (fun _ _ v _ => v = (.int .u8 ((q : Int) / 65536 % 256))), (fun _ _ v _ => v = (u32v q)), (fun _ _ v _ => v = (.int .u32 ((q : Int) / 256))), (fun _ _ v _ => v = (.int .u8 ((q : Int) / 256 % 256))), (fun _ _ v _ => v = (u32v q)), (fun _ _ v _ => v = (.int .u8 ((q : Int) % 256))), (FourB ((q : Int) / 16777216) ((q : Int) / 65536 % 256) ((q : Int) / 256 % 256) ((q : Int) % 256)), (fun _ _ v _ => v = (.string S4)), (fun _ _ v _ => v = (.bool true)), (fun _ _ v _ => v = (.bool true)), (fun _ _ v _ => v = (.bool true)), (fun _ _ v _ => v = (.int .i64 0)), (fun _ _ v _ => v = (.bool true)), (fun _ _ v _ => v = (.bool true))] (by kernel_rfl) rfl ?hA (by kernel_rfl) (by kernel_rfl) (by kernel_rfl) rfl ?mono ?steps ?last
      case hA =>
        intro vs
        simp only [puts, Act.put, List.setIfInBounds_toArray, List.set_cons_zero, List.set_cons_succ, Nat.zero_add, Nat.reduceAdd]
        rfl
      case mono => exact ⟨mono_eq _, mono_eq _, mono_eq _, mono_eq _, mono_eq _, mono_eq _, mono_eq _, mono_eq _, mono_eq _, mono_eq _, mono_eq _, mono_eq _, mono_eq _, mono_eq _, mono_eq _, mono_eq _, mono_eq _, mono_eq _, mono_eq _, mono_eq _, mono_eq _, mono_eq _, mono_eq _, mono_eq _, mono_eq _, mono_eq _, mono_eq _, mono_eq _, mono_eq _, mono_eq _, mono_eq _, mono_eq _, mono_eq _, mono_eq _, mono_eq _, mono_eq _, mono_eq _, mono_eq _, mono_eq _, mono_eq _, mono_eq _, mono_eq _, mono_eq _, mono_eq _, mono_fourB _ _ _ _, mono_eq _, mono_eq _, mono_eq _, mono_eq _, mono_eq _, mono_eq _, mono_eq _, trivial⟩
      case steps =>
        intro Q'
        refine And.intro ?_ ?_
        · intro vs lo hi w' hM hd K' hK
          dsimp only at hK ⊢
          simp only [Act.put, List.setIfInBounds_toArray, List.set_cons_zero, List.set_cons_succ] at hK
          go_simp
          refine (known_any w').mono ?_
          rintro r w7 ⟨rfl, b7⟩
          exact hK.out _ _ rfl b7
        refine And.intro ?_ ?_
        · intro vs lo hi w' hM hd K' hK
          dsimp only at hK ⊢
          simp only [Act.put, List.setIfInBounds_toArray, List.set_cons_zero, List.set_cons_succ] at hK
          have e0 : vs 0 = (.bool true) := hd 0 (by kernel_rfl)
          simp only [e0] at hK ⊢
          clear e0
          go_simp
          exact hK.out _ _ rfl (Below.refl _ _)
        refine And.intro ?_ ?_
        · intro vs lo hi w' hM hd K' hK
          dsimp only at hK ⊢
          simp only [Act.put, List.setIfInBounds_toArray, List.set_cons_zero, List.set_cons_succ] at hK
          have e1 : vs 1 = (.bool true) := hd 1 (by kernel_rfl)
          simp only [e1] at hK ⊢
          clear e1
          go_simp
          exact hK.out _ _ rfl (Below.refl _ _)
        refine And.intro ?_ ?_
        · intro vs lo hi w' hM hd K' hK
          dsimp only at hK ⊢
          simp only [Act.put, List.setIfInBounds_toArray, List.set_cons_zero, List.set_cons_succ] at hK
          have e2 : vs 2 = (.string F) := hd 2 (by kernel_rfl)
          have e1 : vs 1 = (.bool true) := hd 1 (by kernel_rfl)
          simp only [e2, e1] at hK ⊢
          clear e2 e1
          go_simp
          exact hK.out _ _ (show Value.int .u8 (F[0].toNat : Int) = Value.int .u8 0 by rw [HF_0.out]) (Below.refl _ _)
        refine And.intro ?_ ?_
        · intro vs lo hi w' hM hd K' hK
          dsimp only at hK ⊢
          simp only [Act.put, List.setIfInBounds_toArray, List.set_cons_zero, List.set_cons_succ] at hK
          have e3 : vs 3 = (.int .u8 0) := hd 3 (by kernel_rfl)
          have e1 : vs 1 = (.bool true) := hd 1 (by kernel_rfl)
          simp only [e3, e1] at hK ⊢
          clear e3 e1
          go_simp
          exact hK.out _ _ rfl (Below.refl _ _)
        refine And.intro ?_ ?_
        · intro vs lo hi w' hM hd K' hK
          dsimp only at hK ⊢
          simp only [Act.put, List.setIfInBounds_toArray, List.set_cons_zero, List.set_cons_succ] at hK
          have e1 : vs 1 = (.bool true) := hd 1 (by kernel_rfl)
          have e4 : vs 4 = (.bool true) := hd 4 (by kernel_rfl)
          simp only [e1, e4] at hK ⊢
          clear e1 e4
          go_simp
          exact hK.out _ _ rfl (Below.refl _ _)
        refine And.intro ?_ ?_
        · intro vs lo hi w' hM hd K' hK
          dsimp only at hK ⊢
          simp only [Act.put, List.setIfInBounds_toArray, List.set_cons_zero, List.set_cons_succ] at hK
          have e5 : vs 5 = (.bool true) := hd 5 (by kernel_rfl)
          simp only [e5] at hK ⊢
          clear e5
          go_simp
          exact hK.out _ _ rfl (Below.refl _ _)
        refine And.intro ?_ ?_
        · intro vs lo hi w' hM hd K' hK
          dsimp only at hK ⊢
          simp only [Act.put, List.setIfInBounds_toArray, List.set_cons_zero, List.set_cons_succ] at hK
          have e6 : vs 6 = (.bool true) := hd 6 (by kernel_rfl)
          simp only [e6] at hK ⊢
          clear e6
          go_simp
          exact hK.out _ _ rfl (Below.refl _ _)
        refine And.intro ?_ ?_
        · intro vs lo hi w' hM hd K' hK
          dsimp only at hK ⊢
          simp only [Act.put, List.setIfInBounds_toArray, List.set_cons_zero, List.set_cons_succ] at hK
          have e7 : vs 7 = (.string F) := hd 7 (by kernel_rfl)
          have e6 : vs 6 = (.bool true) := hd 6 (by kernel_rfl)
          simp only [e7, e6] at hK ⊢
          clear e7 e6
          go_simp
          exact hK.out _ _ (show Value.int .u8 (F[1].toNat : Int) = Value.int .u8 0 by rw [HF_1.out]) (Below.refl _ _)
        refine And.intro ?_ ?_
        · intro vs lo hi w' hM hd K' hK
          dsimp only at hK ⊢
          simp only [Act.put, List.setIfInBounds_toArray, List.set_cons_zero, List.set_cons_succ] at hK
          have e8 : vs 8 = (.int .u8 0) := hd 8 (by kernel_rfl)
          have e6 : vs 6 = (.bool true) := hd 6 (by kernel_rfl)
          simp only [e8, e6] at hK ⊢
          clear e8 e6
          go_simp
          exact hK.out _ _ rfl (Below.refl _ _)
        refine And.intro ?_ ?_
        · intro vs lo hi w' hM hd K' hK
          dsimp only at hK ⊢
          simp only [Act.put, List.setIfInBounds_toArray, List.set_cons_zero, List.set_cons_succ] at hK
          have e6 : vs 6 = (.bool true) := hd 6 (by kernel_rfl)
          have e9 : vs 9 = (.bool true) := hd 9 (by kernel_rfl)
          simp only [e6, e9] at hK ⊢
          clear e6 e9
          go_simp
          exact hK.out _ _ rfl (Below.refl _ _)
        refine And.intro ?_ ?_
        · intro vs lo hi w' hM hd K' hK
          dsimp only at hK ⊢
          simp only [Act.put, List.setIfInBounds_toArray, List.set_cons_zero, List.set_cons_succ] at hK
          have e10 : vs 10 = (.bool true) := hd 10 (by kernel_rfl)
          simp only [e10] at hK ⊢
          clear e10
          go_simp
          exact hK.out _ _ rfl (Below.refl _ _)
        refine And.intro ?_ ?_
        · intro vs lo hi w' hM hd K' hK
          dsimp only at hK ⊢
          simp only [Act.put, List.setIfInBounds_toArray, List.set_cons_zero, List.set_cons_succ] at hK
          have e11 : vs 11 = (.bool true) := hd 11 (by kernel_rfl)
          simp only [e11] at hK ⊢
          clear e11
          go_simp
          exact hK.out _ _ rfl (Below.refl _ _)
        refine And.intro ?_ ?_
        · intro vs lo hi w' hM hd K' hK
          dsimp only at hK ⊢
          simp only [Act.put, List.setIfInBounds_toArray, List.set_cons_zero, List.set_cons_succ] at hK
          have e12 : vs 12 = (.string F) := hd 12 (by kernel_rfl)
          have e11 : vs 11 = (.bool true) := hd 11 (by kernel_rfl)
          simp only [e12, e11] at hK ⊢
          clear e12 e11
          go_simp
          exact hK.out _ _ (show Value.int .u8 (F[2].toNat : Int) = Value.int .u8 0 by rw [HF_2.out]) (Below.refl _ _)
        refine And.intro ?_ ?_
        · intro vs lo hi w' hM hd K' hK
          dsimp only at hK ⊢
          simp only [Act.put, List.setIfInBounds_toArray, List.set_cons_zero, List.set_cons_succ] at hK
          have e13 : vs 13 = (.int .u8 0) := hd 13 (by kernel_rfl)
          have e11 : vs 11 = (.bool true) := hd 11 (by kernel_rfl)
          simp only [e13, e11] at hK ⊢
          clear e13 e11
          go_simp
          exact hK.out _ _ rfl (Below.refl _ _)
        refine And.intro ?_ ?_
        · intro vs lo hi w' hM hd K' hK
          dsimp only at hK ⊢
          simp only [Act.put, List.setIfInBounds_toArray, List.set_cons_zero, List.set_cons_succ] at hK
          have e14 : vs 14 = (.int .i64 0) := hd 14 (by kernel_rfl)
          have e11 : vs 11 = (.bool true) := hd 11 (by kernel_rfl)
          simp only [e14, e11] at hK ⊢
          clear e14 e11
          go_simp
          exact hK.out _ _ rfl (Below.refl _ _)
        refine And.intro ?_ ?_
        · intro vs lo hi w' hM hd K' hK
          dsimp only at hK ⊢
          simp only [Act.put, List.setIfInBounds_toArray, List.set_cons_zero, List.set_cons_succ] at hK
          have e11 : vs 11 = (.bool true) := hd 11 (by kernel_rfl)
          simp only [e11] at hK ⊢
          clear e11
          go_simp
          exact hK.out _ _ rfl (Below.refl _ _)
        refine And.intro ?_ ?_
        · intro vs lo hi w' hM hd K' hK
          dsimp only at hK ⊢
          simp only [Act.put, List.setIfInBounds_toArray, List.set_cons_zero, List.set_cons_succ] at hK
          have e16 : vs 16 = (.string F) := hd 16 (by kernel_rfl)
          have e11 : vs 11 = (.bool true) := hd 11 (by kernel_rfl)
          simp only [e16, e11] at hK ⊢
          clear e16 e11
          go_simp
          exact hK.out _ _ (show Value.int .u8 (F[3].toNat : Int) = Value.int .u8 (n0 : Int) by rw [HF_3.out]) (Below.refl _ _)
        refine And.intro ?_ ?_
        · intro vs lo hi w' hM hd K' hK
          dsimp only at hK ⊢
          simp only [Act.put, List.setIfInBounds_toArray, List.set_cons_zero, List.set_cons_succ] at hK
          have e17 : vs 17 = (.int .u8 (n0 : Int)) := hd 17 (by kernel_rfl)
          have e11 : vs 11 = (.bool true) := hd 11 (by kernel_rfl)
          simp only [e17, e11] at hK ⊢
          clear e17 e11
          go_simp
          exact hK.out _ _ (show Value.int .i64 (IntKind.i64.wrap (n0 : Int)) = Value.int .i64 (n0 : Int) by rw [HWn.out]) (Below.refl _ _)
        refine And.intro ?_ ?_
        · intro vs lo hi w' hM hd K' hK
          dsimp only at hK ⊢
          simp only [Act.put, List.setIfInBounds_toArray, List.set_cons_zero, List.set_cons_succ] at hK
          have e15 : vs 15 = (.int .i64 0) := hd 15 (by kernel_rfl)
          have e18 : vs 18 = (.int .i64 (n0 : Int)) := hd 18 (by kernel_rfl)
          have e11 : vs 11 = (.bool true) := hd 11 (by kernel_rfl)
          simp only [e15, e18, e11] at hK ⊢
          clear e15 e18 e11
          go_simp
          exact hK.out _ _ (show Value.int .i64 (IntKind.i64.wrap (n0 : Int)) = Value.int .i64 (n0 : Int) by rw [HWn.out]) (Below.refl _ _)
        refine And.intro ?_ ?_
        · intro vs lo hi w' hM hd K' hK
          dsimp only at hK ⊢
          simp only [Act.put, List.setIfInBounds_toArray, List.set_cons_zero, List.set_cons_succ] at hK
          have e11 : vs 11 = (.bool true) := hd 11 (by kernel_rfl)
          simp only [e11] at hK ⊢
          clear e11
          go_simp
          exact hK.out _ _ rfl (Below.refl _ _)
        refine And.intro ?_ ?_
        · intro vs lo hi w' hM hd K' hK
          dsimp only at hK ⊢
          simp only [Act.put, List.setIfInBounds_toArray, List.set_cons_zero, List.set_cons_succ] at hK
          have e20 : vs 20 = (.string a0) := hd 20 (by kernel_rfl)
          have e11 : vs 11 = (.bool true) := hd 11 (by kernel_rfl)
          simp only [e20, e11] at hK ⊢
          clear e20 e11
          go_simp
          exact hK.out _ _ (show Value.int .i64 (a0.size : Int) = Value.int .i64 (n0 : Int) by rw [HN0.out]) (Below.refl _ _)
        refine And.intro ?_ ?_
        · intro vs lo hi w' hM hd K' hK
          dsimp only at hK ⊢
          simp only [Act.put, List.setIfInBounds_toArray, List.set_cons_zero, List.set_cons_succ] at hK
          have e19 : vs 19 = (.int .i64 (n0 : Int)) := hd 19 (by kernel_rfl)
          have e21 : vs 21 = (.int .i64 (n0 : Int)) := hd 21 (by kernel_rfl)
          have e11 : vs 11 = (.bool true) := hd 11 (by kernel_rfl)
          simp only [e19, e21, e11] at hK ⊢
          clear e19 e21 e11
          go_simp
          exact hK.out _ _ rfl (Below.refl _ _)
        refine And.intro ?_ ?_
        · intro vs lo hi w' hM hd K' hK
          dsimp only at hK ⊢
          simp only [Act.put, List.setIfInBounds_toArray, List.set_cons_zero, List.set_cons_succ] at hK
          have e11 : vs 11 = (.bool true) := hd 11 (by kernel_rfl)
          have e22 : vs 22 = (.bool true) := hd 22 (by kernel_rfl)
          simp only [e11, e22] at hK ⊢
          clear e11 e22
          go_simp
          exact hK.out _ _ rfl (Below.refl _ _)
        refine And.intro ?_ ?_
        · intro vs lo hi w' hM hd K' hK
          dsimp only at hK ⊢
          simp only [Act.put, List.setIfInBounds_toArray, List.set_cons_zero, List.set_cons_succ] at hK
          have e23 : vs 23 = (.bool true) := hd 23 (by kernel_rfl)
          simp only [e23] at hK ⊢
          clear e23
          go_simp
          exact hK.out _ _ rfl (Below.refl _ _)
        refine And.intro ?_ ?_
        · intro vs lo hi w' hM hd K' hK
          dsimp only at hK ⊢
          simp only [Act.put, List.setIfInBounds_toArray, List.set_cons_zero, List.set_cons_succ] at hK
          have e24 : vs 24 = (.bool true) := hd 24 (by kernel_rfl)
          simp only [e24] at hK ⊢
          clear e24
          go_simp
          exact hK.out _ _ rfl (Below.refl _ _)
        refine And.intro ?_ ?_
        · intro vs lo hi w' hM hd K' hK
          dsimp only at hK ⊢
          simp only [Act.put, List.setIfInBounds_toArray, List.set_cons_zero, List.set_cons_succ] at hK
          have e25 : vs 25 = (.string F) := hd 25 (by kernel_rfl)
          have e24 : vs 24 = (.bool true) := hd 24 (by kernel_rfl)
          simp only [e25, e24] at hK ⊢
          clear e25 e24
          go_simp
          exact hK.out _ _ (show Value.string (F.extract 8 F.size) = Value.string a0 by rw [← HF8.out]) (Below.refl _ _)
        refine And.intro ?_ ?_
        · intro vs lo hi w' hM hd K' hK
          dsimp only at hK ⊢
          simp only [Act.put, List.setIfInBounds_toArray, List.set_cons_zero, List.set_cons_succ] at hK
          have e24 : vs 24 = (.bool true) := hd 24 (by kernel_rfl)
          simp only [e24] at hK ⊢
          clear e24
          go_simp
          exact hK.out _ _ rfl (Below.refl _ _)
        refine And.intro ?_ ?_
        · intro vs lo hi w' hM hd K' hK
          dsimp only at hK ⊢
          simp only [Act.put, List.setIfInBounds_toArray, List.set_cons_zero, List.set_cons_succ] at hK
          have e26 : vs 26 = (.string a0) := hd 26 (by kernel_rfl)
          have e27 : vs 27 = (.string a0) := hd 27 (by kernel_rfl)
          have e24 : vs 24 = (.bool true) := hd 24 (by kernel_rfl)
          simp only [e26, e27, e24] at hK ⊢
          clear e26 e27 e24
          go_simp
          exact hK.out _ _ rfl (Below.refl _ _)
        refine And.intro ?_ ?_
        · intro vs lo hi w' hM hd K' hK
          dsimp only at hK ⊢
          simp only [Act.put, List.setIfInBounds_toArray, List.set_cons_zero, List.set_cons_succ] at hK
          have e24 : vs 24 = (.bool true) := hd 24 (by kernel_rfl)
          have e28 : vs 28 = (.bool true) := hd 28 (by kernel_rfl)
          simp only [e24, e28] at hK ⊢
          clear e24 e28
          go_simp
          exact hK.out _ _ rfl (Below.refl _ _)
        refine And.intro ?_ ?_
        · intro vs lo hi w' hM hd K' hK
          dsimp only at hK ⊢
          simp only [Act.put, List.setIfInBounds_toArray, List.set_cons_zero, List.set_cons_succ] at hK
          have e29 : vs 29 = (.bool true) := hd 29 (by kernel_rfl)
          simp only [e29] at hK ⊢
          clear e29
          go_simp
          exact hK.out _ _ rfl (Below.refl _ _)
        refine And.intro ?_ ?_
        · intro vs lo hi w' hM hd K' hK
          dsimp only at hK ⊢
          simp only [Act.put, List.setIfInBounds_toArray, List.set_cons_zero, List.set_cons_succ] at hK
          have e30 : vs 30 = (.bool true) := hd 30 (by kernel_rfl)
          simp only [e30] at hK ⊢
          clear e30
          go_simp
          exact hK.out _ _ rfl (Below.refl _ _)
        refine And.intro ?_ ?_
        · intro vs lo hi w' hM hd K' hK
          dsimp only at hK ⊢
          simp only [Act.put, List.setIfInBounds_toArray, List.set_cons_zero, List.set_cons_succ] at hK
          have e31 : vs 31 = (.string F) := hd 31 (by kernel_rfl)
          have e30 : vs 30 = (.bool true) := hd 30 (by kernel_rfl)
          simp only [e31, e30] at hK ⊢
          clear e31 e30
          go_simp
          exact hK.out _ _ (show Value.string (F.extract 4 8) = Value.string S4 by rw [HS4.out]) (Below.refl _ _)
        refine And.intro ?_ ?_
        · intro vs lo hi w' hM hd K' hK
          dsimp only at hK ⊢
          simp only [Act.put, List.setIfInBounds_toArray, List.set_cons_zero, List.set_cons_succ] at hK
          have e30 : vs 30 = (.bool true) := hd 30 (by kernel_rfl)
          simp only [e30] at hK ⊢
          clear e30
          go_simp
          exact hK.out _ _ rfl (Below.refl _ _)
        refine And.intro ?_ ?_
        · intro vs lo hi w' hM hd K' hK
          dsimp only at hK ⊢
          simp only [Act.put, List.setIfInBounds_toArray, List.set_cons_zero, List.set_cons_succ] at hK
          have e33 : vs 33 = (u32v q) := hd 33 (by kernel_rfl)
          have e30 : vs 30 = (.bool true) := hd 30 (by kernel_rfl)
          simp only [e33, e30] at hK ⊢
          clear e33 e30
          go_simp
          exact hK.out _ _ rfl (Below.refl _ _)
        refine And.intro ?_ ?_
        · intro vs lo hi w' hM hd K' hK
          dsimp only at hK ⊢
          simp only [Act.put, List.setIfInBounds_toArray, List.set_cons_zero, List.set_cons_succ] at hK
          have e34 : vs 34 = (.int .u32 ((q : Int) / 16777216)) := hd 34 (by kernel_rfl)
          have e30 : vs 30 = (.bool true) := hd 30 (by kernel_rfl)
          simp only [e34, e30] at hK ⊢
          clear e34 e30
          go_simp
          exact hK.out _ _ (show Value.int .u8 (IntKind.u8.wrap ((q : Int) / 16777216)) = Value.int .u8 ((q : Int) / 16777216) by rw [HWq.out]) (Below.refl _ _)
        refine And.intro ?_ ?_
        · intro vs lo hi w' hM hd K' hK
          dsimp only at hK ⊢
          simp only [Act.put, List.setIfInBounds_toArray, List.set_cons_zero, List.set_cons_succ] at hK
          have e30 : vs 30 = (.bool true) := hd 30 (by kernel_rfl)
          simp only [e30] at hK ⊢
          clear e30
          go_simp
          exact hK.out _ _ rfl (Below.refl _ _)
        refine And.intro ?_ ?_
        · intro vs lo hi w' hM hd K' hK
          dsimp only at hK ⊢
          simp only [Act.put, List.setIfInBounds_toArray, List.set_cons_zero, List.set_cons_succ] at hK
          have e36 : vs 36 = (u32v q) := hd 36 (by kernel_rfl)
          have e30 : vs 30 = (.bool true) := hd 30 (by kernel_rfl)
          simp only [e36, e30] at hK ⊢
          clear e36 e30
          go_simp
          exact hK.out _ _ rfl (Below.refl _ _)
        refine And.intro ?_ ?_
        · intro vs lo hi w' hM hd K' hK
          dsimp only at hK ⊢
          simp only [Act.put, List.setIfInBounds_toArray, List.set_cons_zero, List.set_cons_succ] at hK
          have e37 : vs 37 = (.int .u32 ((q : Int) / 65536)) := hd 37 (by kernel_rfl)
          have e30 : vs 30 = (.bool true) := hd 30 (by kernel_rfl)
          simp only [e37, e30] at hK ⊢
          clear e37 e30
          go_simp
          exact hK.out _ _ rfl (Below.refl _ _)
        refine And.intro ?_ ?_
        · intro vs lo hi w' hM hd K' hK
          dsimp only at hK ⊢
          simp only [Act.put, List.setIfInBounds_toArray, List.set_cons_zero, List.set_cons_succ] at hK
          have e30 : vs 30 = (.bool true) := hd 30 (by kernel_rfl)
          simp only [e30] at hK ⊢
          clear e30
          go_simp
          exact hK.out _ _ rfl (Below.refl _ _)
        refine And.intro ?_ ?_
        · intro vs lo hi w' hM hd K' hK
          dsimp only at hK ⊢
          simp only [Act.put, List.setIfInBounds_toArray, List.set_cons_zero, List.set_cons_succ] at hK
          have e39 : vs 39 = (u32v q) := hd 39 (by kernel_rfl)
          have e30 : vs 30 = (.bool true) := hd 30 (by kernel_rfl)
          simp only [e39, e30] at hK ⊢
          clear e39 e30
          go_simp
          exact hK.out _ _ rfl (Below.refl _ _)
        refine And.intro ?_ ?_
        · intro vs lo hi w' hM hd K' hK
          dsimp only at hK ⊢
          simp only [Act.put, List.setIfInBounds_toArray, List.set_cons_zero, List.set_cons_succ] at hK
          have e40 : vs 40 = (.int .u32 ((q : Int) / 256)) := hd 40 (by kernel_rfl)
          have e30 : vs 30 = (.bool true) := hd 30 (by kernel_rfl)
          simp only [e40, e30] at hK ⊢
          clear e40 e30
          go_simp
          exact hK.out _ _ rfl (Below.refl _ _)
        refine And.intro ?_ ?_
        · intro vs lo hi w' hM hd K' hK
          dsimp only at hK ⊢
          simp only [Act.put, List.setIfInBounds_toArray, List.set_cons_zero, List.set_cons_succ] at hK
          have e30 : vs 30 = (.bool true) := hd 30 (by kernel_rfl)
          simp only [e30] at hK ⊢
          clear e30
          go_simp
          exact hK.out _ _ rfl (Below.refl _ _)
        refine And.intro ?_ ?_
        · intro vs lo hi w' hM hd K' hK
          dsimp only at hK ⊢
          simp only [Act.put, List.setIfInBounds_toArray, List.set_cons_zero, List.set_cons_succ] at hK
          have e42 : vs 42 = (u32v q) := hd 42 (by kernel_rfl)
          have e30 : vs 30 = (.bool true) := hd 30 (by kernel_rfl)
          simp only [e42, e30] at hK ⊢
          clear e42 e30
          go_simp
          exact hK.out _ _ rfl (Below.refl _ _)
        refine And.intro ?_ ?_
        · intro vs lo hi w' hM hd K' hK
          dsimp only at hK ⊢
          simp only [Act.put, List.setIfInBounds_toArray, List.set_cons_zero, List.set_cons_succ] at hK
          have e35 : vs 35 = (.int .u8 ((q : Int) / 16777216)) := hd 35 (by kernel_rfl)
          have e38 : vs 38 = (.int .u8 ((q : Int) / 65536 % 256)) := hd 38 (by kernel_rfl)
          have e41 : vs 41 = (.int .u8 ((q : Int) / 256 % 256)) := hd 41 (by kernel_rfl)
          have e43 : vs 43 = (.int .u8 ((q : Int) % 256)) := hd 43 (by kernel_rfl)
          have e30 : vs 30 = (.bool true) := hd 30 (by kernel_rfl)
          simp only [e35, e38, e41, e43, e30] at hK ⊢
          clear e35 e38 e41 e43 e30
          go_simp
          exact hK.out _ _ (fourB_fact _ _ _ _ w') (below_alloc _ _)
        refine And.intro ?_ ?_
        · intro vs lo hi w' hM hd K' hK
          dsimp only at hK ⊢
          simp only [Act.put, List.setIfInBounds_toArray, List.set_cons_zero, List.set_cons_succ] at hK
          obtain ⟨e44, c44⟩ := hd 44 (by kernel_rfl)
          have e30 : vs 30 = (.bool true) := hd 30 (by kernel_rfl)
          simp only [e44, e30] at hK ⊢
          clear e44 e30
          have hcv := conv_four w' (lo 44) _ _ _ _ S4 c44.out HSQ.out
          go_simp
          exact hK.out _ _ rfl (Below.refl _ _)
        refine And.intro ?_ ?_
        · intro vs lo hi w' hM hd K' hK
          dsimp only at hK ⊢
          simp only [Act.put, List.setIfInBounds_toArray, List.set_cons_zero, List.set_cons_succ] at hK
          have e32 : vs 32 = (.string S4) := hd 32 (by kernel_rfl)
          have e45 : vs 45 = (.string S4) := hd 45 (by kernel_rfl)
          have e30 : vs 30 = (.bool true) := hd 30 (by kernel_rfl)
          simp only [e32, e45, e30] at hK ⊢
          clear e32 e45 e30
          go_simp
          exact hK.out _ _ rfl (Below.refl _ _)
        refine And.intro ?_ ?_
        · intro vs lo hi w' hM hd K' hK
          dsimp only at hK ⊢
          simp only [Act.put, List.setIfInBounds_toArray, List.set_cons_zero, List.set_cons_succ] at hK
          have e30 : vs 30 = (.bool true) := hd 30 (by kernel_rfl)
          have e46 : vs 46 = (.bool true) := hd 46 (by kernel_rfl)
          simp only [e30, e46] at hK ⊢
          clear e30 e46
          go_simp
          exact hK.out _ _ rfl (Below.refl _ _)
        refine And.intro ?_ ?_
        · intro vs lo hi w' hM hd K' hK
          dsimp only at hK ⊢
          simp only [Act.put, List.setIfInBounds_toArray, List.set_cons_zero, List.set_cons_succ] at hK
          have e47 : vs 47 = (.bool true) := hd 47 (by kernel_rfl)
          simp only [e47] at hK ⊢
          clear e47
          go_simp
          exact hK.out _ _ rfl (Below.refl _ _)
        refine And.intro ?_ ?_
        · intro vs lo hi w' hM hd K' hK
          dsimp only at hK ⊢
          simp only [Act.put, List.setIfInBounds_toArray, List.set_cons_zero, List.set_cons_succ] at hK
          have e48 : vs 48 = (.bool true) := hd 48 (by kernel_rfl)
          simp only [e48] at hK ⊢
          clear e48
          go_simp
          exact hK.out _ _ rfl (Below.refl _ _)
        refine And.intro ?_ ?_
        · intro vs lo hi w' hM hd K' hK
          dsimp only at hK ⊢
          simp only [Act.put, List.setIfInBounds_toArray, List.set_cons_zero, List.set_cons_succ] at hK
          have e49 : vs 49 = (.int .i64 0) := hd 49 (by kernel_rfl)
          have e48 : vs 48 = (.bool true) := hd 48 (by kernel_rfl)
          simp only [e49, e48] at hK ⊢
          clear e49 e48
          go_simp
          exact hK.out _ _ rfl (Below.refl _ _)
        refine And.intro ?_ ?_
        · intro vs lo hi w' hM hd K' hK
          dsimp only at hK ⊢
          simp only [Act.put, List.setIfInBounds_toArray, List.set_cons_zero, List.set_cons_succ] at hK
          have e48 : vs 48 = (.bool true) := hd 48 (by kernel_rfl)
          have e50 : vs 50 = (.bool true) := hd 50 (by kernel_rfl)
          simp only [e48, e50] at hK ⊢
          clear e48 e50
          go_simp
          exact hK.out _ _ rfl (Below.refl _ _)
        exact trivial
      case last =>
        intro vs lo hi w' hM hlo hap hall K' Q' hK
        obtain ⟨_, _, _, _, _, _, _, _, _, _, _, _, _, _, _, _, _, _, _, _, _, _, _, _, _, _, _, _, _, _, _, _, _, _, _, _, _, _, _, _, _, _, _, _, _, _, _, _, _, _, _, e51, _⟩ := hall
        dsimp only
        simp only [e51]
        clear e51 hap hlo
        go_simp
        refine hK.out _ _ ?_
        clear hK
        replace HB2 := hide (bthen HB2.out hM)
        clear hM
        go_wp2_with fail
        go_ret
        exact ⟨rfl, HB2.out⟩
  · have hbi : (200 : Int) < (a0.size : Int) := by omega
    go_enter Try.func9, Try.ntmps9
    go_wp2_with (go_at_call 10; refine (known_any _).mono ?_; rintro e w1 ⟨rfl, b1⟩)
    go_ret
    exact ⟨rfl, b1⟩
end Go.Proofs.Ytgfjpbiioaahhaa
