/-
  THE WALK of SealBack.
-/
import Derived.Test.YtfcbooagedjkfaaDoorSLaw
import Derived.Laws.BytesArg
set_option linter.unusedVariables false
set_option linter.unusedSimpArgs false
namespace Go.Proofs.YtfcbooagedjkfaaDoor
open Go.RowKit

theorem conv_one (w : World) (g : Nat) (x : Int) (c8 : UInt8) (hc8 : c8 = x.toNat.toUInt8) (hb : Blk w g 5 #[.int .u8 x]) :
    (convert 22 9 (.slice (some ⟨g, 0, none⟩) 1 1)).run Tryd.prog w = .ok (.string ⟨#[c8]⟩) w := by
  rw [hc8]
  have h := run_convert_bytes_arg (P := Tryd.prog) w 22 5 Tryd.underlying22 Tryd.underlying5 g 0 1 1 [x] rfl
    (fun i hi => by
      have h0 : i = 0 := by simp at hi; omega
      subst h0
      exact hb.cell 0) 9 Tryd.underlying9
  rw [h]
  rfl
theorem ba_ext {a b : ByteArray} (h : a.toList = b.toList) : a = b := by
  rw [ByteArray.toList_eq, ByteArray.toList_eq] at h
  cases a
  cases b
  simp at h
  rw [h]
theorem slice_to (s : ByteArray) (i : Nat) (h : i ≤ s.size) (w : World) : (Instr.sliceAt 9 (.string s) none (some (.int .i64 (i : Int))) none).run Tryd.prog w = .ok (.string (s.extract 0 i)) w := by
  have hu : (Tryd.prog.underlying 9) = some .string := Tryd.underlying9
  have h1 : (i : Int) ≤ s.size := by omega
  simp [Instr.sliceAt, Instr.slice, run_underlying hu, Instr.sliceBounds, run_sliceBound, h1]
theorem str_eq {S : ByteArray} {l : List UInt8} (h : S.data.toList = l) : S = ⟨l.toArray⟩ := by
  cases S
  simp at h
  subst h
  simp
theorem ext_take (S : ByteArray) (i : Nat) (h : i ≤ S.size) : (S.extract 0 i).data.toList = S.data.toList.take i := by
  rw [Lib.extract_data]
  simp
theorem ext_drop (S : ByteArray) (i : Nat) : (S.extract i S.size).data.toList = S.data.toList.drop i := by
  rw [Lib.extract_data, List.take_of_length_le]
  rw [List.length_drop, ← Lib.size_eq]
  exact Nat.le_refl _

set_option maxRecDepth 100000 in
set_option maxHeartbeats 1000000 in
theorem sealBack_walk (a0 : Option Addr) (len0 cap0 : Nat) (z0 : List Int) (a1 : Int) (a2 : Int) (w : World) (w0 : IsRow .u8 w a0 len0 cap0 z0) (w1 : (Lit.int .u8 a1).wf = true) (w2 : (Lit.int .u8 a2).wf = true) (hC : Cubes w) :
    Calls Tryd.prog 4 #[.slice a0 len0 cap0, .int .u8 a1, .int .u8 a2] w fun e w' => e = .returned (.bool true) ∧ Below w.heap.size w w' := by
  have hA := w0.isB
  obtain ⟨z10, z11⟩ := bounds_u8 w1
  obtain ⟨z20, z21⟩ := bounds_u8 w2
  generalize z0.take len0 = bs at hA
  have HA := hide hA
  have HC := hide hC
  have hYY := y8_isB hA
  have HYY := hide hYY
  clear w0 w1 w2 hA hC hYY
  by_cases hlen : 200 < len0
  · go_enter Tryd.func4, Tryd.ntmps4
    go_wp2_with fail
    refine (sealKnown_any _ HC.out).mono ?_
    rintro e w2 ⟨rfl, b2⟩
    go_wp2_with fail
    go_ret
    exact ⟨rfl, b2⟩
  go_enter Tryd.func4, Tryd.ntmps4
  go_wp2_with fail
  refine (sealText_any bs _ _ _ _ HA.out (by omega)).mono ?_
  rintro e w1 ⟨rfl, b1⟩
  obtain ⟨S, hS⟩ : ∃ S : ByteArray, S = ⟨(Sl.text bs).toArray⟩ := ⟨_, rfl⟩
  have hSl : S.data.toList = Sl.text bs := by rw [hS]
  have hSz : S.size = (len0 * 4 + 2) / 3 := by rw [Lib.size_eq, hSl, Sl.text_length, HA.out.1]
  rw [← hS]
  have HSl := hide hSl
  have HSz := hide hSz
  have HB1 := hide b1
  have hSn : S.size ≤ 1000 := by omega
  clear hS hSl hSz b1
  go_wp2_with fail
  refine (sealBytes_any S _ (by omega)).mono ?_
  rintro e w2 ⟨hres, b2⟩
  have HB2 := hide (bthen HB1.out b2)
  clear b2 HB1
  rw [HSl.out] at hres
  rcases hres with ⟨bs', a, c, rfl, hbs, hown⟩ | ⟨rfl, hbs⟩
  case inr =>
    rw [Sl.bytes_text HYY.out] at hbs
    cases hbs
  rw [Sl.bytes_text HYY.out] at hbs
  cases hbs
  have HO2 := hide (own_isB' hown HA.out.2.2.2.1).1
  rw [HA.out.1] at HO2
  have hbl := HA.out.1
  rw [hbl]
  clear hown hbl
  go_wp2_with fail
  refine (same_true bs _ _ _ _ _ _ HO2.out (HA.out.below HB2.out)).mono ?_
  rintro e w3 ⟨rfl, b3⟩
  have HB3 := hide (bthen HB2.out b3)
  clear b3 HB2 HO2
  by_cases hz : S.size = 0
  · go_wp2_with fail
    refine (sealKnown_any _ (HC.out.below' HB3.out)).mono ?_
    rintro e w4 ⟨rfl, b4⟩
    have HB4 := hide (bthen HB3.out b4)
    clear b4
    go_wp2_with fail
    go_ret
    exact ⟨rfl, HB4.out⟩
  · have hz0 : ((S.size : Int) == 0) = false := by rw [beq_eq_false_iff_ne]; omega
    obtain ⟨i, hi⟩ : ∃ i : Nat, i = (a1 % (S.size : Int)).toNat := ⟨_, rfl⟩
    have hm1 : a1 % (S.size : Int) < S.size := Int.emod_lt_of_pos _ (by omega)
    have hm0 : 0 ≤ a1 % (S.size : Int) := Int.emod_nonneg _ (by omega)
    have hii : i < S.size := by omega
    have hme : a1 % (S.size : Int) = (i : Int) := by omega
    have hmt : a1.tmod (S.size : Int) = (i : Int) := by rw [Int.tmod_eq_emod_of_nonneg z10]; exact hme
    have hnz : ¬ (S.size : Int) = 0 := by omega
    clear hi hm1 hm0
    obtain ⟨c8, hc8⟩ : ∃ c8, c8 = a2.toNat.toUInt8 := ⟨_, rfl⟩
    have HC8 := hide hc8
    clear hc8
    go_upto_region 10 with fail
    clear hme hmt hz0 hnz
    generalize ((S.size : Int) == 0) = bz
    generalize decide (200 < (len0 : Int)) = bz2
    clear hlen hz z10 z11
    refine' wp_region_facts [(fun _ _ v _ => v = .string S), (fun _ _ v _ => v = .int .i64 (i : Int)), (fun _ _ v _ => v = .string (S.extract 0 i)), (fun _ _ v _ => v = .int .u8 a2), (fun lo _ v w => v = .slice (some ⟨lo, 0, none⟩) 1 1 ∧ Hid (Blk w lo 5 #[.int .u8 a2])), (fun _ _ v _ => v = .string ⟨#[c8]⟩), (fun _ _ v _ => v = .string (S.extract 0 i ++ ⟨#[c8]⟩)), (fun _ _ v _ => v = .string S), (fun _ _ v _ => v = .int .i64 (i : Int)), (fun _ _ v _ => v = .int .i64 ((i : Int) + 1)), (fun _ _ v _ => v = .string (S.extract (i + 1) S.size)), (fun _ _ v _ => v = .string (S.extract 0 i ++ ⟨#[c8]⟩ ++ S.extract (i + 1) S.size))] (by kernel_rfl) rfl ?hA (by kernel_rfl) (by kernel_rfl) (by kernel_rfl) rfl ?mono ?steps ?last
    case hA =>
      intro vs
      simp only [puts, Act.put, List.setIfInBounds_toArray, List.set_cons_zero, List.set_cons_succ, Nat.zero_add, Nat.reduceAdd]
      rfl
    case mono => exact ⟨mono_eq _, mono_eq _, mono_eq _, mono_eq _, (fun lo hi x w w' h b => ⟨h.1, h.2.out.below' b⟩), mono_eq _, mono_eq _, mono_eq _, mono_eq _, mono_eq _, mono_eq _, mono_eq _, trivial⟩
    case steps =>
      intro Q'
      refine And.intro ?_ ?_
      · intro vs lo hi w' hM hd K' hK
        dsimp only at hK ⊢
        simp only [Act.put, List.setIfInBounds_toArray, List.set_cons_zero, List.set_cons_succ] at hK
        go_simp
        exact hK.out _ _ rfl (Below.refl _ _)
      refine And.intro ?_ ?_
      · intro vs lo hi w' hM hd K' hK
        dsimp only at hK ⊢
        simp only [Act.put, List.setIfInBounds_toArray, List.set_cons_zero, List.set_cons_succ] at hK
        go_simp
        exact hK.out _ _ rfl (Below.refl _ _)
      refine And.intro ?_ ?_
      · intro vs lo hi w' hM hd K' hK
        dsimp only at hK ⊢
        simp only [Act.put, List.setIfInBounds_toArray, List.set_cons_zero, List.set_cons_succ] at hK
        have e0 : vs 0 = .string S := hd 0 (by kernel_rfl)
        have e1 : vs 1 = .int .i64 (i : Int) := hd 1 (by kernel_rfl)
        simp only [e0, e1] at hK ⊢
        clear e0 e1
        have hs0 := slice_to S i (by omega) w'
        go_simp
        exact hK.out _ _ rfl (Below.refl _ _)
      refine And.intro ?_ ?_
      · intro vs lo hi w' hM hd K' hK
        dsimp only at hK ⊢
        simp only [Act.put, List.setIfInBounds_toArray, List.set_cons_zero, List.set_cons_succ] at hK
        go_simp
        exact hK.out _ _ rfl (Below.refl _ _)
      refine And.intro ?_ ?_
      · intro vs lo hi w' hM hd K' hK
        dsimp only at hK ⊢
        simp only [Act.put, List.setIfInBounds_toArray, List.set_cons_zero, List.set_cons_succ] at hK
        have e3 : vs 3 = .int .u8 a2 := hd 3 (by kernel_rfl)
        simp only [e3] at hK ⊢
        clear e3
        go_simp
        exact hK.out _ _ ⟨rfl, blk_new w' 5 #[.int .u8 a2]⟩ ((Below.refl _ _).alloc (Nat.le_refl _) _)
      refine And.intro ?_ ?_
      · intro vs lo hi w' hM hd K' hK
        dsimp only at hK ⊢
        simp only [Act.put, List.setIfInBounds_toArray, List.set_cons_zero, List.set_cons_succ] at hK
        obtain ⟨e4, hb4⟩ : vs 4 = .slice (some ⟨lo 4, 0, none⟩) 1 1 ∧ Hid (Blk w' (lo 4) 5 #[.int .u8 a2]) := hd 4 (by kernel_rfl)
        simp only [e4] at hK ⊢
        clear e4
        have hcv := conv_one w' (lo 4) a2 c8 HC8.out hb4.out
        go_simp
        exact hK.out _ _ rfl (Below.refl _ _)
      refine And.intro ?_ ?_
      · intro vs lo hi w' hM hd K' hK
        dsimp only at hK ⊢
        simp only [Act.put, List.setIfInBounds_toArray, List.set_cons_zero, List.set_cons_succ] at hK
        have e2 : vs 2 = .string (S.extract 0 i) := hd 2 (by kernel_rfl)
        have e5 : vs 5 = .string ⟨#[c8]⟩ := hd 5 (by kernel_rfl)
        simp only [e2, e5] at hK ⊢
        clear e2 e5
        have hz1 : (S.extract 0 i).size = i := by rw [ByteArray.size_extract]; omega
        have hz2 : (⟨#[c8]⟩ : ByteArray).size = 1 := rfl
        have hno : ¬ 9223372036854775807 < i + 1 := by omega
        go_simp
        exact hK.out _ _ rfl (Below.refl _ _)
      refine And.intro ?_ ?_
      · intro vs lo hi w' hM hd K' hK
        dsimp only at hK ⊢
        simp only [Act.put, List.setIfInBounds_toArray, List.set_cons_zero, List.set_cons_succ] at hK
        go_simp
        exact hK.out _ _ rfl (Below.refl _ _)
      refine And.intro ?_ ?_
      · intro vs lo hi w' hM hd K' hK
        dsimp only at hK ⊢
        simp only [Act.put, List.setIfInBounds_toArray, List.set_cons_zero, List.set_cons_succ] at hK
        go_simp
        exact hK.out _ _ rfl (Below.refl _ _)
      refine And.intro ?_ ?_
      · intro vs lo hi w' hM hd K' hK
        dsimp only at hK ⊢
        simp only [Act.put, List.setIfInBounds_toArray, List.set_cons_zero, List.set_cons_succ] at hK
        have e8 : vs 8 = .int .i64 (i : Int) := hd 8 (by kernel_rfl)
        simp only [e8] at hK ⊢
        clear e8
        have hwi : IntKind.i64.wrap ((i : Int) + 1) = (i : Int) + 1 := by rw [IntKind.wrap_i64]; omega
        go_simp
        exact hK.out _ _ rfl (Below.refl _ _)
      refine And.intro ?_ ?_
      · intro vs lo hi w' hM hd K' hK
        dsimp only at hK ⊢
        simp only [Act.put, List.setIfInBounds_toArray, List.set_cons_zero, List.set_cons_succ] at hK
        have e7 : vs 7 = .string S := hd 7 (by kernel_rfl)
        have e9 : vs 9 = .int .i64 ((i : Int) + 1) := hd 9 (by kernel_rfl)
        simp only [e7, e9] at hK ⊢
        clear e7 e9
        have hs0 := slice_str S i (by omega) w'
        go_simp
        exact hK.out _ _ rfl (Below.refl _ _)
      refine And.intro ?_ ?_
      · intro vs lo hi w' hM hd K' hK
        dsimp only at hK ⊢
        simp only [Act.put, List.setIfInBounds_toArray, List.set_cons_zero, List.set_cons_succ] at hK
        have e6 : vs 6 = .string (S.extract 0 i ++ ⟨#[c8]⟩) := hd 6 (by kernel_rfl)
        have e10 : vs 10 = .string (S.extract (i + 1) S.size) := hd 10 (by kernel_rfl)
        simp only [e6, e10] at hK ⊢
        clear e6 e10
        have hz1 : (S.extract 0 i ++ ⟨#[c8]⟩ : ByteArray).size = i + 1 := by rw [ByteArray.size_append, ByteArray.size_extract]; show min i S.size - 0 + 1 = i + 1; omega
        have hz2 : (S.extract (i + 1) S.size).size = S.size - (i + 1) := by rw [ByteArray.size_extract]; omega
        have hno : ¬ 9223372036854775807 < i + 1 + (S.size - (i + 1)) := by omega
        go_simp
        exact hK.out _ _ rfl (Below.refl _ _)
      exact trivial
    case last =>
      intro vs lo hi w' hM hlo hap hall K' Q' hK
      have e11 : vs 11 = .string (S.extract 0 i ++ ⟨#[c8]⟩ ++ S.extract (i + 1) S.size) := hall.2.2.2.2.2.2.2.2.2.2.2.1
      dsimp only
      simp only [e11]
      clear e11 hall hap hlo
      go_simp
      refine hK.out _ _ ?_
      clear hK
      have HB5 := hide (bthen HB3.out hM)
      clear hM HB3
      obtain ⟨T, hT⟩ : ∃ T, T = S.extract 0 i ++ ⟨#[c8]⟩ ++ S.extract (i + 1) S.size := ⟨_, rfl⟩
      have hTz : T.size = S.size := by
        rw [hT, ByteArray.size_append, ByteArray.size_append, ByteArray.size_extract, ByteArray.size_extract]
        show min i S.size - 0 + 1 + (min S.size S.size - (i + 1)) = S.size
        omega
      rw [← hT]
      clear hT
      go_wp2_with fail
      refine (sealBytes_any T _ (by omega)).mono ?_
      rintro e w6 ⟨hres, b6⟩
      have HB6 := hide (bthen HB5.out b6)
      clear b6 HB5
      have hSz := HSz.out
      have hlast : ((S.size : Int) == ((len0 : Int) * 4 + 2) / 3) = true := by
        rw [beq_iff_eq]
        omega
      clear hSz
      have HTz := hide hTz
      clear hTz
      rcases hres with ⟨ys, ay, cy, rfl, hys, hown⟩ | ⟨rfl, hys⟩
      · obtain ⟨htx, hy8⟩ := Sl.text_bytes hys
        have HO6 := hide (own_isB' hown (Dg.b8_of_mem hy8)).1
        have hyl : ys.length ≤ 1000 := by
          have h1 := Sl.text_length ys
          rw [htx, ← Lib.size_eq, HTz.out] at h1
          omega
        have hTe := str_eq htx.symm
        have HTe := hide hTe
        have HTx := hide htx
        have HY8 := hide hy8
        clear hown hys htx hy8 hTe
        obtain ⟨n, hn⟩ : ∃ n, n = ys.length := ⟨_, rfl⟩
        rw [← hn] at HO6 hyl ⊢
        clear hn
        by_cases heq : ys = bs
        · have hTS : T = S := by rw [HTe.out, heq]; exact (str_eq HSl.out).symm
          have hd : decide (ys = bs) = true := by simp [heq]
          have HD := hide hd
          clear heq hd
          subst hTS
          go_wp2_with fail
          refine (sealKnown_any _ (HC.out.below' HB6.out)).mono ?_
          rintro e w7 ⟨rfl, b7⟩
          have HB7 := hide (bthen HB6.out b7)
          have HO7 := hide (HO6.out.below b7)
          clear b7 HB6 HO6
          go_wp2_with fail
          refine (same_any ys bs _ _ _ _ _ _ _ HO7.out (HA.out.below HB7.out)).mono ?_
          rintro e w8 ⟨rfl, b8'⟩
          rw [HD.out]
          have HB8 := hide (bthen HB7.out b8')
          have HO8 := hide (HO7.out.below b8')
          clear b8' HB7 HO7
          go_wp2_with fail
          refine (sealText_any ys _ _ _ _ HO8.out (by omega)).mono ?_
          rintro e w9 ⟨rfl, b9⟩
          rw [← HTe.out]
          have HB9 := hide (bthen HB8.out b9)
          clear b9
          go_wp2_with fail
          go_ret
          exact ⟨rfl, HB9.out⟩
        · have hTS : ¬ T = S := fun e => heq (by
            have h1 : Sl.text ys = Sl.text bs := by rw [HTx.out, e, HSl.out]
            exact Sl.text_inj HY8.out HYY.out h1)
          replace hTS : ¬ T.toList = S.toList := fun e => hTS (ba_ext e)
          have hd : decide (ys = bs) = false := by simp [heq]
          have HD := hide hd
          clear heq hd
          go_wp2_with fail
          refine (sealKnown_any _ (HC.out.below' HB6.out)).mono ?_
          rintro e w7 ⟨rfl, b7⟩
          have HB7 := hide (bthen HB6.out b7)
          have HO7 := hide (HO6.out.below b7)
          clear b7 HB6 HO6
          go_wp2_with fail
          refine (same_any ys bs _ _ _ _ _ _ _ HO7.out (HA.out.below HB7.out)).mono ?_
          rintro e w8 ⟨rfl, b8'⟩
          rw [HD.out]
          have HB8 := hide (bthen HB7.out b8')
          have HO8 := hide (HO7.out.below b8')
          clear b8' HB7 HO7
          go_wp2_with fail
          refine (sealText_any ys _ _ _ _ HO8.out (by omega)).mono ?_
          rintro e w9 ⟨rfl, b9⟩
          rw [← HTe.out]
          have HB9 := hide (bthen HB8.out b9)
          clear b9
          go_wp2_with fail
          go_ret
          refine ⟨?_, HB9.out⟩
          have hb : (T.toList == S.toList) = false := by rw [beq_eq_false_iff_ne]; exact hTS
          show Ending.returned (.bool (!(T.toList == S.toList))) = _
          rw [hb]
          rfl
      · clear hys
        go_wp2_with fail
        refine (sealKnown_any _ (HC.out.below' HB6.out)).mono ?_
        rintro e w7 ⟨rfl, b7⟩
        have HB7 := hide (bthen HB6.out b7)
        clear b7
        go_wp2_with fail
        go_ret
        exact ⟨rfl, HB7.out⟩
end Go.Proofs.YtfcbooagedjkfaaDoor
