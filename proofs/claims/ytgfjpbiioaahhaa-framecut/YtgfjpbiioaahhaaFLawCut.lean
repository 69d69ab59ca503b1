/-
  THE WALK of FrameCut (layer 10).
-/
import Derived.Test.YtgfjpbiioaahhaaFLaw
set_option linter.unusedVariables false
set_option linter.unusedSimpArgs false
set_option maxRecDepth 100000
namespace Go.Proofs.Ytgfjpbiioaahhaa
open Go.RowKit Fr

/-- a row of one byte just made -/
def OneB (x : Int) : Fact := fun lo hi v w => v = .slice (some ⟨lo, 0, none⟩) 1 1 ∧ Hid (w.cell? ⟨lo, 0, none⟩ = some (.int .u8 x))
theorem mono_oneB (x : Int) : Mono (OneB x) := by
  rintro lo hi v w w' ⟨rfl, h⟩ k
  exact ⟨rfl, (k.cell (p := ⟨lo, 0, none⟩) (block_lt_of_cell h.out)).trans h.out⟩
theorem oneB_fact (x : Int) (w : World) : OneB x w.heap.size (w.alloc (.cells #[.int .u8 x] 5)).heap.size (.slice (some ⟨w.heap.size, 0, none⟩) 1 1) (w.alloc (.cells #[.int .u8 x] 5)) :=
  ⟨rfl, (Blk.new w #[.int .u8 x] 5).cell 0⟩
theorem conv_one (w : World) (lo : Nat) (x : Int) (C : ByteArray) (hc : w.cell? ⟨lo, 0, none⟩ = some (.int .u8 x)) (hC : C = ⟨#[x.toNat.toUInt8]⟩) : (convert 26 9 (.slice (some ⟨lo, 0, none⟩) 1 1)).run Try.prog w = .ok (.string C) w := by
  subst hC
  have h := run_convert_bytes_arg (P := Try.prog) w 26 5 Try.underlying26 Try.underlying5 lo 0 1 1 [x] rfl
    (fun i hi => by
      have : i = 0 := by omega
      subst this
      exact hc) 9 Try.underlying9
  rw [h]
  rfl
theorem or8 {a b : Nat} (ha : a < 256) (hb : b < 256) : bits .or .u8 (a : Int) (b : Int) = ((a ||| b : Nat) : Int) := by
  have hx : a ||| b < 2 ^ 8 := Nat.or_lt_two_pow (n := 8) ha hb
  show IntKind.u8.wrap ((BitVec.ofInt 8 (a : Int) ||| BitVec.ofInt 8 (b : Int)).toNat : Int) = _
  rw [BitVec.toNat_or, ofInt_nat ha, ofInt_nat hb, IntKind.wrap_u8]
  omega
theorem xor_ne {c d : Nat} (h : d ≠ 0) : c ^^^ d ≠ c := fun e => h (by
  have : c ^^^ (c ^^^ d) = c ^^^ c := by rw [e]
  rwa [← Nat.xor_assoc, Nat.xor_self, Nat.zero_xor] at this)
theorem or_one (v : Nat) : v ||| 1 ≠ 0 := by
  intro h
  have : (v ||| 1).testBit 0 = true := by rw [Nat.testBit_or]; simp
  rw [h] at this
  simp at this
set_option maxHeartbeats 1000000 in
theorem frameCut_walk (a0 : ByteArray) (a1 : Int) (a2 : Int) (w0 : a0.size ≤ 140737488355328) (w1 : (Lit.int .u16 a1).wf = true) (w2 : (Lit.int .u8 a2).wf = true) (w : World) :
    Calls Try.prog 5 #[.string a0, .int .u16 a1, .int .u8 a2] w fun e w' => e = .returned (.bool true) ∧ Below w.heap.size w w' := by
  by_cases hbig : a0.size ≤ 300
  · obtain ⟨n, hn, hnl⟩ : ∃ n : Nat, a1 = (n : Int) ∧ n < 65536 := by
      simp [Lit.wf, IntKind.min, IntKind.max, IntKind.bits, IntKind.signed] at w1
      exact ⟨a1.toNat, by omega, by omega⟩
    obtain ⟨u, hv, hvl⟩ : ∃ u : Nat, a2 = (u : Int) ∧ u < 256 := by
      simp [Lit.wf, IntKind.min, IntKind.max, IntKind.bits, IntKind.signed] at w2
      exact ⟨a2.toNat, by omega, by omega⟩
    subst hn
    subst hv
    have hb0 : (bs a0).length ≤ most := by rw [bs_length]; unfold most; omega
    obtain ⟨F, hF⟩ : ∃ F, F = strOf (fr (bs a0)) := ⟨_, rfl⟩
    have hbF : bs F = fr (bs a0) := by rw [hF]
    have hFs : F.size = a0.size + 8 := by rw [hF]; show (fr (bs a0)).length = _; rw [fr_length hb0, bs_length]
    obtain ⟨k, hk⟩ : ∃ k, k = n % F.size := ⟨_, rfl⟩
    have hkl : k < F.size := by rw [hk]; exact Nat.mod_lt _ (by omega)
    have t1 : (n : Int).tmod (F.size : Int) = (k : Int) := by rw [hk, Int.tmod_eq_emod_of_nonneg (by omega)]; simp
    have t1e : (n : Int) % (F.size : Int) = (k : Int) := by rw [hk]; simp
    obtain ⟨q, hq⟩ : ∃ q, q = n % (F.size - 4) := ⟨_, rfl⟩
    have hql : q < F.size - 4 := by rw [hq]; exact Nat.mod_lt _ (by omega)
    have t2 : (n : Int).tmod ((F.size : Int) - 4) = (q : Int) := by
      rw [hq, Int.tmod_eq_emod_of_nonneg (by omega), show (F.size : Int) - 4 = ((F.size - 4 : Nat) : Int) by omega]
      simp
    have t2e : (n : Int) % ((F.size : Int) - 4) = (q : Int) := by
      rw [hq, show (F.size : Int) - 4 = ((F.size - 4 : Nat) : Int) by omega]
      simp
    obtain ⟨i, hi⟩ : ∃ i, i = 4 + q := ⟨_, rfl⟩
    have hi4 : 4 ≤ i := by omega
    have hiF : i < F.size := by omega
    have hiq : (4 : Int) + (q : Int) = (i : Int) := by omega
    obtain ⟨i1, hi1⟩ : ∃ j, j = i + 1 := ⟨_, rfl⟩
    have hi1q : (i : Int) + 1 = (i1 : Int) := by omega
    obtain ⟨K1, hK1⟩ : ∃ K, K = F.extract 0 k := ⟨_, rfl⟩
    have hbK1 : bs K1 = (fr (bs a0)).take k := by rw [hK1, bs_extract, List.drop_zero, hbF]
    have hK1z : K1.size ≤ 1000000000 := by rw [← bs_length, hbK1, List.length_take]; omega
    have hK1n : nx (bs K1) = none := by rw [hbK1]; exact nx_cut hb0 (by rw [bs_length, ← hFs]; exact hkl)
    obtain ⟨c, hc⟩ : ∃ c : Nat, c = (F[i]'hiF).toNat := ⟨_, rfl⟩
    have hcl : c < 256 := by rw [hc]; exact (F[i]'hiF).toNat_lt
    obtain ⟨d, hd⟩ : ∃ d, d = u ||| 1 := ⟨_, rfl⟩
    have hdl : d < 256 := by rw [hd]; exact Nat.or_lt_two_pow (n := 8) hvl (by decide)
    have hor : bits .or .u8 (u : Int) 1 = (d : Int) := by rw [hd]; exact or8 (b := 1) hvl (by decide)
    obtain ⟨x, hx⟩ : ∃ x, x = c ^^^ d := ⟨_, rfl⟩
    have hxl : x < 256 := by rw [hx]; exact xor_lt8 hcl hdl
    have hxr : bits .xor .u8 (c : Int) (d : Int) = (x : Int) := by rw [hx]; exact xor8 hcl hdl
    have hxc : x ≠ c := by rw [hx]; exact xor_ne (by rw [hd]; exact or_one u)
    obtain ⟨C, hC⟩ : ∃ C : ByteArray, C = ⟨#[(x : Int).toNat.toUInt8]⟩ := ⟨_, rfl⟩
    have hbC : bs C = [UInt8.ofNat x] := by rw [hC, Int.toNat_natCast]
    have hCs : C.size = 1 := by rw [hC]; rfl
    obtain ⟨G0, hG0⟩ : ∃ G, G = F.extract 0 i := ⟨_, rfl⟩
    have hbG0 : bs G0 = (fr (bs a0)).take i := by rw [hG0, bs_extract, List.drop_zero, hbF]
    obtain ⟨G1, hG1⟩ : ∃ G, G = G0 ++ C := ⟨_, rfl⟩
    obtain ⟨G2, hG2⟩ : ∃ G, G = F.extract i1 F.size := ⟨_, rfl⟩
    have hbG2 : bs G2 = (fr (bs a0)).drop (i + 1) := by rw [hG2, bs_tail, hbF, hi1]
    obtain ⟨G, hG⟩ : ∃ G, G = G1 ++ G2 := ⟨_, rfl⟩
    have hbG : bs G = (fr (bs a0)).take i ++ UInt8.ofNat x :: (fr (bs a0)).drop (i + 1) := by rw [hG, bs_append, hG1, bs_append, hbG0, hbC, hbG2, List.append_assoc]; rfl
    have hGn : nx (bs G) = none := by
      rw [hbG]
      refine nx_other hb0 hi4 (by rw [bs_length]; omega) ?_
      intro h
      rw [← hbF, List.getElem?_eq_getElem (by rw [bs_length]; exact hiF), bs_at F i hiF] at h
      simp only [Option.some.injEq] at h
      apply hxc
      rw [hc, h, UInt8.toNat_ofNat']
      omega
    have z0 : G0.size ≤ 308 := by rw [← bs_length, hbG0, List.length_take]; omega
    have z2 : G2.size ≤ 308 := by rw [← bs_length, hbG2, List.length_drop, fr_length hb0, bs_length]; omega
    have z1 : G1.size ≤ 309 := by rw [← bs_length, hG1, bs_append, List.length_append, bs_length, bs_length]; omega
    have hGz : G.size ≤ 1000000000 := by rw [← bs_length, hG, bs_append, List.length_append, bs_length, bs_length]; omega
    have hcat1 : ¬ 9223372036854775807 < G0.size + C.size := by omega
    have hcat2 : ¬ 9223372036854775807 < G1.size + G2.size := by omega
    have hFn : nx (bs F) = some (bs a0) := by rw [hbF]; have := nx_fr hb0 []; rwa [List.append_nil] at this
    have HN : Hid ((F.size : Int) = 8 + ((bs a0).length : Int)) := by show _ = _; rw [hFs, bs_length]; omega
    have HFz : Hid (F.size ≤ 1000000000) := by show F.size ≤ _; omega
    have HF := hide hF
    have HK1 := hide hK1
    have HK1z := hide hK1z
    have HK1n := hide hK1n
    have HC := hide hc
    have HCC := hide hC
    have HG0 := hide hG0
    have HG1 := hide hG1
    have HG2 := hide hG2
    have HG := hide hG
    have HGz := hide hGz
    have HGN := hide hGn
    have HFN := hide hFn
    have hkF : (k : Int) ≤ (F.size : Int) := by omega
    have hkN : k ≤ F.size := by omega
    have hiFi : (i : Int) ≤ (F.size : Int) := by omega
    have hiFl : (i : Int) < (F.size : Int) := by omega
    have hiFn : i ≤ F.size := by omega
    have hi1F : (i1 : Int) ≤ (F.size : Int) := by omega
    have hFsI : (F.size : Int) = (a0.size : Int) + 8 := by omega
    have HFs := hide hFs
    have hi1l : i1 < 400 := by omega
    have hil : i < 400 := by omega
    have HW1 : Hid (IntKind.i64.wrap (i1 : Int) = (i1 : Int)) := by show IntKind.i64.wrap (i1 : Int) = _; rw [IntKind.wrap_i64]; omega
    clear hF hbF hk hq hi hi1 hK1 hbK1 hK1z hK1n hc hd hx hxc hC hbC hG0 hbG0 hG1 hG2 hbG2 hG hbG hGn hGz hFn hCs z0 z1 z2 w1 w2 hb0
    have hne : ((F.size : Int) != (a0.size : Int) + 8) = false := by rw [hFsI]; exact bne_self_eq_false _
    have hne2 : decide ((F.size : Int) = (a0.size : Int) + 8) = true := decide_eq_true hFsI
    clear hFsI
    have hFhi : F.size ≤ 308 := by omega
    have hF8 : 8 ≤ F.size := by omega
    clear hFs
    go_enter Try.func5, Try.ntmps5
    go_wp2_with (go_at_call 14; refine (frame_is _ a0 F (by omega) HF.out).mono ?_; rintro e w1 ⟨rfl, b1⟩)
    rw [← HK1.out]
    refine (next_none _ K1 HK1z.out HK1n.out).mono ?_
    rintro e w2 ⟨rfl, b2⟩
    have HB2 := hide (bthen b1 b2)
    clear b1 b2
    go_upto_region 9 with fail
    refine' wp_region_facts [(fun _ _ v _ => v = (.string F)), (fun _ _ v _ => v = (.int .i64 (i : Int))), (fun _ _ v _ => v = (.string G0)), (fun _ _ v _ => v = (.string F)), (fun _ _ v _ => v = (.int .i64 (i : Int))), (fun _ _ v _ => v = (.int .u8 (c : Int))), (fun _ _ v _ => v = (.int .u8 (u : Int))), (fun _ _ v _ => v = (.int .u8 (d : Int))), (fun _ _ v _ => v = (.int .u8 (x : Int))), (OneB (x : Int)), (fun _ _ v _ => v = (.string C)), (fun _ _ v _ => v = (.string G1)), (fun _ _ v _ => v = (.string F)), (fun _ _ v _ => v = (.int .i64 (i : Int))), (fun _ _ v _ => v = (.int .i64 (i1 : Int))), (fun _ _ v _ => v = (.string G2)), (fun _ _ v _ => v = (.string G))] (by kernel_rfl) rfl ?hA (by kernel_rfl) (by kernel_rfl) (by kernel_rfl) rfl ?mono ?steps ?last
    case hA =>
      intro vs
      simp only [puts, Act.put, List.setIfInBounds_toArray, List.set_cons_zero, List.set_cons_succ, Nat.zero_add, Nat.reduceAdd]
      rfl
    case mono => exact ⟨mono_eq _, mono_eq _, mono_eq _, mono_eq _, mono_eq _, mono_eq _, mono_eq _, mono_eq _, mono_eq _, mono_oneB _, mono_eq _, mono_eq _, mono_eq _, mono_eq _, mono_eq _, mono_eq _, mono_eq _, trivial⟩
    case steps =>
      intro Q'
      refine And.intro ?_ ?_
      · intro vs lo hi w' hM hd K' hK
        dsimp only at hK ⊢
        simp only [Act.put, List.setIfInBounds_toArray, List.set_cons_zero, List.set_cons_succ] at hK
        go_simp
        exact hK.out _ _ rfl (Below.refl _ _)
      refine And.intro ?_ ?_
      · intro vs lo hi w' hM hd K' hK
        dsimp only at hK ⊢
        simp only [Act.put, List.setIfInBounds_toArray, List.set_cons_zero, List.set_cons_succ] at hK
        go_simp
        exact hK.out _ _ rfl (Below.refl _ _)
      refine And.intro ?_ ?_
      · intro vs lo hi w' hM hd K' hK
        dsimp only at hK ⊢
        simp only [Act.put, List.setIfInBounds_toArray, List.set_cons_zero, List.set_cons_succ] at hK
        have e0 : vs 0 = (.string F) := hd 0 (by kernel_rfl)
        have e1 : vs 1 = (.int .i64 (i : Int)) := hd 1 (by kernel_rfl)
        simp only [e0, e1] at hK ⊢
        clear e0 e1
        go_simp
        exact hK.out _ _ (show Value.string (F.extract 0 i) = Value.string G0 by rw [HG0.out]) (Below.refl _ _)
      refine And.intro ?_ ?_
      · intro vs lo hi w' hM hd K' hK
        dsimp only at hK ⊢
        simp only [Act.put, List.setIfInBounds_toArray, List.set_cons_zero, List.set_cons_succ] at hK
        go_simp
        exact hK.out _ _ rfl (Below.refl _ _)
      refine And.intro ?_ ?_
      · intro vs lo hi w' hM hd K' hK
        dsimp only at hK ⊢
        simp only [Act.put, List.setIfInBounds_toArray, List.set_cons_zero, List.set_cons_succ] at hK
        go_simp
        exact hK.out _ _ rfl (Below.refl _ _)
      refine And.intro ?_ ?_
      · intro vs lo hi w' hM hd K' hK
        dsimp only at hK ⊢
        simp only [Act.put, List.setIfInBounds_toArray, List.set_cons_zero, List.set_cons_succ] at hK
        have e3 : vs 3 = (.string F) := hd 3 (by kernel_rfl)
        have e4 : vs 4 = (.int .i64 (i : Int)) := hd 4 (by kernel_rfl)
        simp only [e3, e4] at hK ⊢
        clear e3 e4
        go_simp
        exact hK.out _ _ (show Value.int .u8 (F[i].toNat : Int) = Value.int .u8 (c : Int) by rw [HC.out]) (Below.refl _ _)
      refine And.intro ?_ ?_
      · intro vs lo hi w' hM hd K' hK
        dsimp only at hK ⊢
        simp only [Act.put, List.setIfInBounds_toArray, List.set_cons_zero, List.set_cons_succ] at hK
        go_simp
        exact hK.out _ _ rfl (Below.refl _ _)
      refine And.intro ?_ ?_
      · intro vs lo hi w' hM hd K' hK
        dsimp only at hK ⊢
        simp only [Act.put, List.setIfInBounds_toArray, List.set_cons_zero, List.set_cons_succ] at hK
        have e6 : vs 6 = (.int .u8 (u : Int)) := hd 6 (by kernel_rfl)
        simp only [e6] at hK ⊢
        clear e6
        go_simp
        exact hK.out _ _ rfl (Below.refl _ _)
      refine And.intro ?_ ?_
      · intro vs lo hi w' hM hd K' hK
        dsimp only at hK ⊢
        simp only [Act.put, List.setIfInBounds_toArray, List.set_cons_zero, List.set_cons_succ] at hK
        have e5 : vs 5 = (.int .u8 (c : Int)) := hd 5 (by kernel_rfl)
        have e7 : vs 7 = (.int .u8 (d : Int)) := hd 7 (by kernel_rfl)
        simp only [e5, e7] at hK ⊢
        clear e5 e7
        go_simp
        exact hK.out _ _ rfl (Below.refl _ _)
      refine And.intro ?_ ?_
      · intro vs lo hi w' hM hd K' hK
        dsimp only at hK ⊢
        simp only [Act.put, List.setIfInBounds_toArray, List.set_cons_zero, List.set_cons_succ] at hK
        have e8 : vs 8 = (.int .u8 (x : Int)) := hd 8 (by kernel_rfl)
        simp only [e8] at hK ⊢
        clear e8
        go_simp
        exact hK.out _ _ (oneB_fact _ w') (below_alloc _ _)
      refine And.intro ?_ ?_
      · intro vs lo hi w' hM hd K' hK
        dsimp only at hK ⊢
        simp only [Act.put, List.setIfInBounds_toArray, List.set_cons_zero, List.set_cons_succ] at hK
        obtain ⟨e9, c9⟩ := hd 9 (by kernel_rfl)
        simp only [e9] at hK ⊢
        clear e9
        have hcv := conv_one w' (lo 9) (x : Int) C c9.out HCC.out
        go_simp
        exact hK.out _ _ rfl (Below.refl _ _)
      refine And.intro ?_ ?_
      · intro vs lo hi w' hM hd K' hK
        dsimp only at hK ⊢
        simp only [Act.put, List.setIfInBounds_toArray, List.set_cons_zero, List.set_cons_succ] at hK
        have e2 : vs 2 = (.string G0) := hd 2 (by kernel_rfl)
        have e10 : vs 10 = (.string C) := hd 10 (by kernel_rfl)
        simp only [e2, e10] at hK ⊢
        clear e2 e10
        go_simp
        exact hK.out _ _ (show Value.string (G0 ++ C) = Value.string G1 by rw [HG1.out]) (Below.refl _ _)
      refine And.intro ?_ ?_
      · intro vs lo hi w' hM hd K' hK
        dsimp only at hK ⊢
        simp only [Act.put, List.setIfInBounds_toArray, List.set_cons_zero, List.set_cons_succ] at hK
        go_simp
        exact hK.out _ _ rfl (Below.refl _ _)
      refine And.intro ?_ ?_
      · intro vs lo hi w' hM hd K' hK
        dsimp only at hK ⊢
        simp only [Act.put, List.setIfInBounds_toArray, List.set_cons_zero, List.set_cons_succ] at hK
        go_simp
        exact hK.out _ _ rfl (Below.refl _ _)
      refine And.intro ?_ ?_
      · intro vs lo hi w' hM hd K' hK
        dsimp only at hK ⊢
        simp only [Act.put, List.setIfInBounds_toArray, List.set_cons_zero, List.set_cons_succ] at hK
        have e13 : vs 13 = (.int .i64 (i : Int)) := hd 13 (by kernel_rfl)
        simp only [e13] at hK ⊢
        clear e13
        go_simp
        exact hK.out _ _ (show Value.int .i64 (IntKind.i64.wrap (i1 : Int)) = Value.int .i64 (i1 : Int) by rw [HW1.out]) (Below.refl _ _)
      refine And.intro ?_ ?_
      · intro vs lo hi w' hM hd K' hK
        dsimp only at hK ⊢
        simp only [Act.put, List.setIfInBounds_toArray, List.set_cons_zero, List.set_cons_succ] at hK
        have e12 : vs 12 = (.string F) := hd 12 (by kernel_rfl)
        have e14 : vs 14 = (.int .i64 (i1 : Int)) := hd 14 (by kernel_rfl)
        simp only [e12, e14] at hK ⊢
        clear e12 e14
        go_simp
        exact hK.out _ _ (show Value.string (F.extract i1 F.size) = Value.string G2 by rw [HG2.out]) (Below.refl _ _)
      refine And.intro ?_ ?_
      · intro vs lo hi w' hM hd K' hK
        dsimp only at hK ⊢
        simp only [Act.put, List.setIfInBounds_toArray, List.set_cons_zero, List.set_cons_succ] at hK
        have e11 : vs 11 = (.string G1) := hd 11 (by kernel_rfl)
        have e15 : vs 15 = (.string G2) := hd 15 (by kernel_rfl)
        simp only [e11, e15] at hK ⊢
        clear e11 e15
        go_simp
        exact hK.out _ _ (show Value.string (G1 ++ G2) = Value.string G by rw [HG.out]) (Below.refl _ _)
      exact trivial
    case last =>
      intro vs lo hi w' hM hlo hap hall K' Q' hK
      obtain ⟨_, _, _, _, _, _, _, _, _, _, _, _, _, _, _, _, e16, _⟩ := hall
      dsimp only
      simp only [e16]
      clear e16 hap hlo
      go_simp
      refine hK.out _ _ ?_
      clear hK
      replace HB2 := hide (bthen HB2.out hM)
      clear hM
      go_wp2_with fail
      refine (next_none _ G HGz.out HGN.out).mono ?_
      rintro e w4 ⟨rfl, b4⟩
      go_wp2_with fail
      refine (next_some _ F a0 (bs a0) F.size HFz.out HFN.out (strOf_bs a0).symm HN.out).mono ?_
      rintro e w5 ⟨rfl, b5⟩
      go_wp2_with (go_at_call 10; refine (known_any _).mono ?_; rintro e w6 ⟨rfl, b6⟩)
      go_ret
      exact ⟨rfl, bthen (bthen (bthen HB2.out b4) b5) b6⟩
  · have hbi : (300 : Int) < (a0.size : Int) := by omega
    go_enter Try.func5, Try.ntmps5
    go_wp2_with (go_at_call 10; refine (known_any _).mono ?_; rintro e w1 ⟨rfl, b1⟩)
    go_ret
    exact ⟨rfl, b1⟩
end Go.Proofs.Ytgfjpbiioaahhaa
