/-
  THE WALK of SealMakes.
-/
import Derived.Test.YtfcbooagedjkfaaDoorSRefN
import Derived.Lib.AppendZeros
set_option linter.unusedVariables false
set_option linter.unusedSimpArgs false
namespace Go.Proofs.YtfcbooagedjkfaaDoor
open Go.RowKit

theorem zeros_own (w : World) (n : Nat) (hn : n ≤ 64) :
    ∃ a c W, (Builtin.append_ #[22, 3] 22 #[.slice none 0 0, .int .i64 (n : Int)]).run Tryd.prog w = .ok (.slice a n c) W ∧ W.ownsRow w.heap.size 5 1 (.slice a n c) n ((List.replicate n (0 : Int)).map b8) ∧ Below w.heap.size w W := by
  obtain ⟨i0, hi, hz0, hz1, hz2⟩ := info_parts infoByte
  rcases Nat.eq_zero_or_pos n with h | h
  · subst h
    refine ⟨none, 0, w, ?_, World.ownsRow_nil _ _ _ _, Below.refl _ _⟩
    have hw0 : IntKind.i64.wrap 0 = 0 := by rw [IntKind.wrap_i64]; omega
    simp [Builtin.append_, run_underlying Tryd.underlying22, run_underlying Tryd.underlying3, sizeOf, typeInfo, zeroValue, hi, hz0, asInt, asIntOf, hw0, hz1, hz2]
  · have hr := Lib.run_append_nil_zeros (P := Tryd.prog) w 22 3 22 5 i0 _ .i64 .i64 Tryd.underlying22 Tryd.underlying3 hi hz0 n h (by rw [hz1]; omega) (by omega) (by rw [hz2]; omega)
    have hg := grownCap_ge w n 0 5
    have hg2 := grownCap_le_maxLen w n 0 5 (by simp [maxLen]; omega)
    have hzc : ∀ m, (Builtin.zeroCells (Value.int .u8 0).cells m).toList = List.replicate m (b8 0) := fun m => by
      apply List.ext_getElem
      · simp [size_zeroCells, Value.cells]
      · intro i h1 h2
        simp [Builtin.zeroCells, Value.cells, Nat.mod_one]
    have hzs : ∀ m, (Builtin.zeroCells (Value.int .u8 0).cells m).size = m := fun m => by rw [size_zeroCells]; simp [Value.cells]
    refine ⟨_, _, _, hr, ⟨by simp, .inr ⟨w.heap.size, grownCap w n 0 5, Builtin.zeroCells (Value.int .u8 0).cells n ++ Builtin.zeroCells (Value.int .u8 0).cells (grownCap w n 0 5 - n), rfl, Nat.le_refl _, blk_new w.drew 5 _, hg, hg2, ?_, ?_⟩⟩, (below_drewN (Below.refl _ _) 1).alloc (Nat.le_refl _) _⟩
    · rw [Array.size_append, hzs, hzs]
      omega
    · rw [Array.toList_append, hzc, hzc, Nat.mul_one, List.take_append_of_le_length (by simp), List.take_of_length_le (by simp)]
      simp

theorem eqb_comm (a b : Bool) (h : a = b) : (a == b) = true := by rw [h]; simp

set_option maxRecDepth 100000 in
set_option maxHeartbeats 2000000 in
theorem sealMakes_walk (a0 : Option Addr) (len0 cap0 : Nat) (z0 : List Int) (a1 : Option Addr) (len1 cap1 : Nat) (z1 : List Int) (a2 : Option Addr) (len2 cap2 : Nat) (z2 : List Int) (a3 : ByteArray) (a4 : Bool) (w : World) (w0 : IsRow .u8 w a0 len0 cap0 z0) (w1 : IsRow .u8 w a1 len1 cap1 z1) (w2 : IsRow .u8 w a2 len2 cap2 z2) (w3 : a3.size ≤ maxLen) (hC : Cubes w) (s0 : len0 ≤ 140737488355328) (s1 : len1 ≤ 140737488355328) (s2 : len2 ≤ 140737488355328) (s3 : a3.size ≤ 140737488355328) :
    Calls Tryd.prog 3 #[.slice a0 len0 cap0, .slice a1 len1 cap1, .slice a2 len2 cap2, .string a3, .bool a4] w fun e w' => e = .returned (.bool true) ∧ Below w.heap.size w w' := by
  have hA := w0.isB
  have hB := w1.isB
  have hD := w2.isB
  generalize z0.take len0 = key at hA
  generalize z1.take len1 = msg at hB
  generalize z2.take len2 = oth at hD
  have HA := hide hA
  have HB := hide hB
  have HD := hide hD
  have HC := hide hC
  clear w0 w1 w2 w3 hA hB hD hC
  by_cases hlen : 400 < len0 + len1 + len2 + a3.size
  · go_enter Tryd.func3, Tryd.ntmps3
    go_wp2_with fail
    refine (sealKnown_any _ HC.out).mono ?_
    rintro e w2 ⟨rfl, b2⟩
    go_wp2_with fail
    go_ret
    exact ⟨rfl, b2⟩
  go_enter Tryd.func3, Tryd.ntmps3
  go_wp2_with fail
  refine (sealKnown_any _ HC.out).mono ?_
  rintro e w1 ⟨rfl, b1⟩
  have HB1 := hide b1
  clear b1
  go_upto_if 31 with fail
  go_cut [11] from 31 to 37 (fun v wc => ∃ a' n' c', v = .slice a' n' c' ∧ n' ≤ 64 ∧ Hid (∃ q : List Int, q.length = n' ∧ wc.ownsRow w1.heap.size 5 1 (.slice a' n' c') n' (q.map b8) ∧ Dg.B8 q ∧ Below w1.heap.size w1 wc))
  case first =>
    cases a4 with
    | true =>
      obtain ⟨n, hn⟩ : ∃ n, n = 64 - min len0 64 := ⟨_, rfl⟩
      obtain ⟨xz, cz, WZ, hrz, hoz, bz⟩ := zeros_own w1 n (by omega)
      have hnz : (64 : Int) - min (len0 : Int) 64 = (n : Int) := by omega
      have HOz := hide hoz
      have HBz := hide bz
      have hn64 : n ≤ 64 := by omega
      rw [← hnz] at hrz
      clear hoz bz hn hnz
      go_wp2_with (at_builtin; refine Lib.wpList_append_run _ rfl _ _ _ _ rfl _ _ rfl rfl _ _ hrz ?_)
      go_meet
      case rel => exact ⟨xz, n, cz, rfl, hn64, List.replicate n 0, by simp, HOz.out, Dg.b8_of_mem fun x hx => by (have := List.eq_of_mem_replicate hx; omega), HBz.out⟩
    | false =>
      go_wp2_with fail
      go_meet
      case rel => exact ⟨none, 0, 0, rfl, by omega, [], rfl, World.ownsRow_nil _ _ _ _, Dg.b8_of_mem (by simp), Below.refl _ _⟩
  case rest =>
    obtain ⟨a', n', c', rfl, hn', hq⟩ := hcut
    obtain ⟨q, hql, hown, hq8, hbw⟩ := hq.out
    have HB2 := hide (bthen HB1.out hbw)
    obtain ⟨x2, c2, W2, hrun2, hown2, hgr2⟩ := append_isB w1.heap.size _ n' _ hown (HA.out.below HB2.out) (by omega) hbw.size
    have b2 : Below w1.heap.size w1 W2 := hbw.grown hgr2 hbw.size (own_block hown)
    have h8 : Dg.B8 (q ++ key) := Dg.b8_of_mem fun x hx => by
      rcases List.mem_append.1 hx with h | h
      · exact y8_of hq8 x h
      · exact y8_of HA.out.2.2.2.1 x h
    have HK := hide (own_isB' hown2 h8).1
    have HB3 := hide (bthen HB1.out b2)
    obtain ⟨nk, hnk⟩ : ∃ nk, nk = n' + len0 := ⟨_, rfl⟩
    have hnkb : nk ≤ 500 := by omega
    rw [← hnk] at HK hrun2
    generalize q ++ key = kk at HK
    clear hq hown hbw hown2 hgr2 h8 b2 hq8 hql HB2 hnk
    go_upto_region 7 with (at_builtin; refine wpList_append_run rfl _ _ 22 rfl _ _ rfl rfl hrun2 ?_)
    clear hrun2
    go_wp2_with fail
    refine (refCode_any kk msg _ _ _ _ _ _ _ HK.out (HB.out.below HB3.out) (by omega) (by omega)).mono ?_
    rintro e w4 ⟨x4, c4, rfl, hI4, b4⟩
    have HB4 := hide (bthen HB3.out b4)
    have HK4 := hide (HK.out.below b4)
    have HI4 := hide hI4
    clear b4 hI4 HB3 HK
    go_wp2_with fail
    refine (refText_any msg _ _ _ _ (HB.out.below HB4.out) (by omega)).mono ?_
    rintro e w4 ⟨rfl, rfl⟩
    obtain ⟨T, hT⟩ : ∃ T : ByteArray, T = ⟨(Sl.text msg).toArray⟩ := ⟨_, rfl⟩
    have hTz : T.size ≤ 2000 := by rw [hT, str_size, Sl.text_length, HB.out.1]; omega
    rw [← hT]
    have HT := hide hT
    clear hT
    go_wp2_with fail
    refine (code_any kk msg _ _ _ _ _ _ _ HK4.out (HB.out.below HB4.out) (HC.out.below' HB4.out) (by omega) (by omega)).mono ?_
    rintro e w5 ⟨g5, rfl, hI5, b5⟩
    have HB5 := hide (bthen HB4.out b5)
    have HK5 := hide (HK4.out.below b5)
    have HI5 := hide (HI4.out.below b5)
    have HS5 := hide hI5
    clear b5 hI5 HB4 HK4 HI4
    go_wp2_with fail
    refine (same_true (Sl.code kk msg) _ _ _ _ _ _ HS5.out HI5.out).mono ?_
    rintro e w6 ⟨rfl, b6⟩
    have HB6 := hide (bthen HB5.out b6)
    have HK6 := hide (HK5.out.below b6)
    have HI6 := hide (HI5.out.below b6)
    clear b6 HB5 HK5 HI5 HS5
    go_wp2_with fail
    generalize hd1 : decide (Sl.code kk msg = oth) = d1
    have HD1 := hide hd1
    clear hd1
    have hdd1 : (d1 == d1) = true := by simp
    refine (sealEqual_any (Sl.code kk msg) oth _ _ _ _ _ _ _ HI6.out (HD.out.below HB6.out)).mono ?_
    rintro e w7 ⟨rfl, n7, rfl⟩
    rw [HD1.out]
    have HB7 := hide (below_drewN HB6.out n7)
    have HK7 := hide (HK6.out.below (below_drewN (Below.refl _ _) n7))
    have HI7 := hide (HI6.out.below (below_drewN (Below.refl _ _) n7))
    clear HB6 HK6 HI6
    generalize w6.drewN n7 = w7 at HB7 HK7 HI7 ⊢
    go_wp2_with fail
    refine (same_any (Sl.code kk msg) oth _ _ _ _ _ _ _ HI7.out (HD.out.below HB7.out)).mono ?_
    rintro e w8 ⟨rfl, b8'⟩
    rw [HD1.out]
    have HB8 := hide (bthen HB7.out b8')
    have HK8 := hide (HK7.out.below b8')
    have HI8 := hide (HI7.out.below b8')
    clear b8' HB7 HK7 HI7
    go_wp2_with fail
    clear hdd1
    generalize hd2 : decide (msg = oth) = d2
    have HD2 := hide hd2
    clear hd2
    have hdd2 : (d2 == d2) = true := by simp
    refine (sealEqual_any msg oth _ _ _ _ _ _ _ (HB.out.below HB8.out) (HD.out.below HB8.out)).mono ?_
    rintro e w9 ⟨rfl, n9, rfl⟩
    rw [HD2.out]
    have HB9 := hide (below_drewN HB8.out n9)
    have HK9 := hide (HK8.out.below (below_drewN (Below.refl _ _) n9))
    have HI9 := hide (HI8.out.below (below_drewN (Below.refl _ _) n9))
    clear HB8 HK8 HI8
    generalize w8.drewN n9 = w9 at HB9 HK9 HI9 ⊢
    go_wp2_with fail
    refine (same_any msg oth _ _ _ _ _ _ _ (HB.out.below HB9.out) (HD.out.below HB9.out)).mono ?_
    rintro e w10 ⟨rfl, b10⟩
    rw [HD2.out]
    have HB10 := hide (bthen HB9.out b10)
    have HK10 := hide (HK9.out.below b10)
    have HI10 := hide (HI9.out.below b10)
    clear b10 HB9 HK9 HI9
    go_wp2_with fail
    clear hdd2
    refine (refCode_any kk msg _ _ _ _ _ _ _ HK10.out (HB.out.below HB10.out) (by omega) (by omega)).mono ?_
    rintro e w11 ⟨x11, c11, rfl, hI11, b11⟩
    have HB11 := hide (bthen HB10.out b11)
    have HI11 := hide (HI10.out.below b11)
    have HS11 := hide hI11
    clear b11 hI11 HB10 HK10 HI10
    go_wp2_with fail
    refine (sealEqual_any (Sl.code kk msg) (Sl.code kk msg) _ _ _ _ _ _ _ HI11.out HS11.out).mono ?_
    rintro e w12 ⟨rfl, n12, rfl⟩
    rw [show decide (Sl.code kk msg = Sl.code kk msg) = true by simp]
    have HB12 := hide (below_drewN HB11.out n12)
    clear HB11 HI11 HS11
    generalize w11.drewN n12 = w12 at HB12 ⊢
    go_wp2_with fail
    refine (sealText_any msg _ _ _ _ (HB.out.below HB12.out) (by omega)).mono ?_
    rintro e w13 ⟨rfl, b13⟩
    rw [← HT.out]
    have HB13 := hide (bthen HB12.out b13)
    clear b13 HB12
    go_wp2_with fail
    refine (lawBytes_any a3 _ (by omega)).mono ?_
    rintro e w14 ⟨rfl, b14⟩
    have HB14 := hide (bthen HB13.out b14)
    clear b14 HB13
    go_wp2_with fail
    refine (lawBytes_any T _ (by omega)).mono ?_
    rintro e w15 ⟨rfl, b15⟩
    have HB15 := hide (bthen HB14.out b15)
    clear b15 HB14
    have h65 : (⟨#[65]⟩ : ByteArray).size = 1 := rfl
    go_wp2_with fail
    obtain ⟨U, hU⟩ : ∃ U, U = T ++ ({ data := #[65] } : ByteArray) := ⟨_, rfl⟩
    have hUz : U.size ≤ 10000 := by rw [hU, ByteArray.size_append, h65]; omega
    rw [← hU]
    refine (lawBytes_any U _ hUz).mono ?_
    rintro e w16 ⟨rfl, b16⟩
    have HB16 := hide (bthen HB15.out b16)
    clear b16 HB15 h65 hUz hU
    go_wp2_with fail
    refine (ident_any a3 _ (by omega) (HC.out.below' HB16.out)).mono ?_
    rintro e w17 ⟨rfl, b17⟩
    have HB17 := hide (bthen HB16.out b17)
    clear b17 HB16
    obtain ⟨J, hJ⟩ : ∃ J : ByteArray, J = ⟨(Sl.ident a3.data.toList).toArray⟩ := ⟨_, rfl⟩
    rw [← hJ]
    have HJ := hide hJ
    clear hJ
    go_wp2_with fail
    refine (refIdent_any a3 _ (by omega)).mono ?_
    rintro e w18 ⟨rfl, b18⟩
    rw [← HJ.out]
    have HB18 := hide (bthen HB17.out b18)
    clear b18 HB17
    go_wp2_with fail
    generalize hd3 : Sl.named a3.data.toList = d3
    have HD3 := hide hd3
    clear hd3
    have hdd3 : (d3 == d3) = true := by simp
    refine (named_any a3 _ (by omega)).mono ?_
    rintro e w19 ⟨rfl, b19⟩
    rw [HD3.out]
    have HB19 := hide (bthen HB18.out b19)
    clear b19 HB18
    go_wp2_with fail
    refine (refNamed_any a3 _ (by omega)).mono ?_
    rintro e w20 ⟨rfl, b20⟩
    rw [HD3.out]
    have HB20 := hide (bthen HB19.out b20)
    clear b20 HB19
    have h36 : (⟨#[36]⟩ : ByteArray).size = 1 := rfl
    go_wp2_with fail
    clear hdd3
    obtain ⟨V, hV⟩ : ∃ V, V = ({ data := #[36] } : ByteArray) ++ T := ⟨_, rfl⟩
    have hVz : V.size ≤ 10000 := by rw [hV, ByteArray.size_append, h36]; omega
    rw [← hV]
    have HV := hide hV
    clear hV
    generalize hd4 : Sl.named V.data.toList = d4
    have HD4 := hide hd4
    clear hd4
    have hdd4 : (d4 == d4) = true := by simp
    refine (named_any V _ (by omega)).mono ?_
    rintro e w21 ⟨rfl, b21⟩
    rw [HD4.out]
    have HB21 := hide (bthen HB20.out b21)
    clear b21 HB20
    go_wp2_with fail
    rw [← HV.out]
    refine (refNamed_any V _ hVz).mono ?_
    rintro e w22 ⟨rfl, b22⟩
    rw [HD4.out]
    have HB22 := hide (bthen HB21.out b22)
    clear b22 HB21
    go_wp2_with fail
    go_ret
    exact ⟨rfl, HB22.out⟩
end Go.Proofs.YtfcbooagedjkfaaDoor
