/-
  THE WALK of SealNamed.
-/
import Derived.Test.YtfcbooagedjkfaaDoorSRef
set_option linter.unusedVariables false
set_option linter.unusedSimpArgs false
namespace Go.Proofs.YtfcbooagedjkfaaDoor
open Go.RowKit

theorem named_cons (l : List UInt8) : Sl.named (36 :: l) = is32 (Sl.bytes l) := by
  simp only [Sl.named, if_true]
  cases Sl.bytes l <;> rfl
theorem named_signs {l : List Int} (h : Sl.S6 l) : Sl.named (36 :: l.map Sl.sgn) = is32 (Sl.back l) := by
  rw [named_cons]
  unfold Sl.bytes
  rw [Sl.numsOf_map l h]
  rfl
theorem named_text {b : List Int} (h : Sl.Y8 b) : Sl.named (36 :: Sl.text b) = decide (b.length = 32) := by
  rw [named_cons, Sl.bytes_text h]
  rfl
theorem is32_len {l : List Int} (h : l.length * 3 / 4 ≠ 32) : is32 (Sl.back l) = false := by
  cases hb : Sl.back l with
  | none => rfl
  | some b =>
    have := Sl.back_length _ _ hb
    simp [is32]
    omega
theorem is32_43 {l : List Int} (h : l.length = 43) : is32 (Sl.back l) = (l[42]?.getD 0 % 4 == 0) := by
  have hs := Sl.back_isSome l
  unfold Sl.ends at hs
  rw [h] at hs
  rw [if_neg (by omega), if_neg (by omega), if_pos (by omega)] at hs
  rw [← hs]
  cases hb : Sl.back l with
  | none => rfl
  | some b =>
    have := Sl.back_length _ _ hb
    simp [is32]
    omega
theorem sgn_not {n : Int} (h0 : 0 ≤ n) (h1 : n < 64) : ¬ Sl.sgn n = 36 := by
  intro e
  have := Sl.num_sgn h0 h1
  rw [e, Sl.num_dollar] at this
  cases this
theorem named_not {l : List Int} (h : Sl.S6 l) : Sl.named (l.map Sl.sgn) = false := by
  cases l with
  | nil => rfl
  | cons n t =>
    have h1 := h n (by simp)
    simp only [List.map_cons, Sl.named]
    rw [if_neg (sgn_not h1.1 h1.2)]
/-- numbers of choices, so many, 0 where there is none -/
def ch (cs : List Int) (k : Nat) : List Int := (List.range k).map fun i => cs[i]?.getD 0 % 64
theorem ch_succ (cs : List Int) (k : Nat) : ch cs (k + 1) = ch cs k ++ [cs[k]?.getD 0 % 64] := by simp [ch, List.range_succ]
theorem ch_length (cs : List Int) (k : Nat) : (ch cs k).length = k := by simp [ch]
theorem ch_s6 (cs : List Int) (k : Nat) : Sl.S6 (ch cs k) := by
  intro n hn
  obtain ⟨i, _, rfl⟩ := List.mem_map.1 hn
  exact ⟨Int.emod_nonneg _ (by omega), Int.emod_lt_of_pos _ (by omega)⟩
theorem s6_snoc {l : List Int} {n : Int} (h : Sl.S6 l) (h0 : 0 ≤ n) (h1 : n < 64) : Sl.S6 (l ++ [n]) := by
  intro x hx
  rcases List.mem_append.1 hx with hx | hx
  · exact h x hx
  · simp at hx; omega
theorem s6_tail {n : Int} {l : List Int} (h : Sl.S6 (n :: l)) : Sl.S6 l := fun x hx => h x (by simp [hx])

/-- the name of no row of bytes -/
def fake (a b : Int) : List Int := ((List.replicate 32 0).set 0 a).set 31 b
theorem fake_b8 {a b : Int} (h0 : 0 ≤ a) (h1 : a ≤ 255) (h2 : 0 ≤ b) (h3 : b ≤ 255) : Dg.B8 (fake a b) := by
  refine Dg.b8_of_mem fun x hx => ?_
  unfold fake at hx
  rcases List.mem_or_eq_of_mem_set hx with hx | hx
  · rcases List.mem_or_eq_of_mem_set hx with hx | hx
    · have := List.eq_of_mem_replicate hx; omega
    · omega
  · omega

set_option maxRecDepth 100000 in
set_option maxHeartbeats 1000000 in
theorem fake_any (a b : Int) (w : World) (h0 : 0 ≤ a) (h1 : a ≤ 255) (h2 : 0 ≤ b) (h3 : b ≤ 255) :
    Calls Tryd.prog 24 #[.int .u8 a, .int .u8 b] w fun e w' => e = .returned (.string ⟨(36 :: Sl.text (fake a b)).toArray⟩) ∧ Below w.heap.size w w' := by
  have hmk : (Instr.makeSlice 22 (.int .i64 32) (.int .i64 32)).run Tryd.prog w = .ok (.slice (some ⟨w.heap.size, 0, none⟩) 32 32) (w.alloc (.cells (by8 (List.replicate 32 0)) 5)) := by
    obtain ⟨i0, hi, hz0, hz1, hz2⟩ := info_parts infoByte
    have := run_make (P := Tryd.prog) w 22 5 i0 _ Tryd.underlying22 hi hz0 .i64 .i64 32 32 (by omega) (by omega) (by rw [hz2]; omega) (by omega)
    rw [hz1] at this
    refine this.trans ?_
    have e : by8 (List.replicate 32 0) = madeCells #[b8 0] 32 := by
      apply Array.ext'
      rw [toList_madeCells_one]
      simp [by8]
    rw [e]
    rfl
  have hb0 := blk_new w 5 (by8 (List.replicate 32 0))
  have bel0 : Below w.heap.size w (w.alloc (.cells (by8 (List.replicate 32 0)) 5)) := (Below.refl _ _).alloc (Nat.le_refl _) _
  have hc0 := (hb0.cell 0).trans (by8_at (l := List.replicate 32 0) (by simp))
  have hf0 := hb0.frozen 0
  have hb1 := blk_new w 5 ((by8 (List.replicate 32 0)).setIfInBounds 0 (.int .u8 a))
  have hs1 : (by8 (List.replicate 32 0)).setIfInBounds 0 (.int .u8 a) = by8 ((List.replicate 32 0).set 0 a) := by8_set _ _ _
  have hc31 := (hb1.cell 31).trans ((congrArg (·[31]?) hs1).trans (by8_at (by simp)))
  have hf31 := hb1.frozen 31
  clear hs1
  clear hb0 hb1 bel0
  have hset : ((by8 (List.replicate 32 0)).setIfInBounds 0 (.int .u8 a)).setIfInBounds 31 (.int .u8 b) = by8 (fake a b) := by
    rw [by8_set, by8_set]
    rfl
  have HSet := hide hset
  clear hset
  generalize (List.replicate 32 (0 : Int))[0]?.getD 0 = y0 at hc0
  generalize ((List.replicate 32 (0 : Int)).set 0 a)[31]?.getD 0 = y31 at hc31
  generalize by8 (List.replicate 32 0) = Z at hmk hc0 hf0 hc31 hf31 HSet
  go_enter Tryd.func24, Tryd.ntmps24
  go_wp2_with fail
  rw [HSet.out]
  have HB2 := hide (blk_new w 5 (by8 (fake a b)))
  have HBel : Hid (Below w.heap.size w (w.alloc (.cells (by8 (fake a b)) 5))) := (Below.refl _ _).alloc (Nat.le_refl _) _
  generalize w.alloc (.cells (by8 (fake a b)) 5) = w1 at HB2 HBel ⊢
  have hI : IsB w1 (some ⟨w.heap.size, 0, none⟩) 32 32 (fake a b) := by
    have hfl : (fake a b).length = 32 := by simp [fake]
    refine ⟨hfl, Nat.le_refl _, by omega, fake_b8 h0 h1 h2 h3, .inr ⟨_, rfl, fun _ => ⟨_, 0, rfl, fun i hi => ?_⟩⟩⟩
    rw [Nat.zero_add, HB2.out.cell i]
    exact by8_at hi
  refine (refText_any (fake a b) _ _ _ _ hI (by omega)).mono ?_
  rintro e w2 ⟨rfl, rfl⟩
  have hl : (Sl.text (fake a b)).length ≤ 43 := by rw [Sl.text_length]; simp [fake]
  have hz := str_size (Sl.text (fake a b))
  have happ := str_app [36] (Sl.text (fake a b))
  have HApp := hide happ
  clear happ hmk hc0 hf0 hc31 hf31
  generalize hT : (⟨(Sl.text (fake a b)).toArray⟩ : ByteArray) = T at hz HApp ⊢
  go_wp2_with fail
  go_ret
  refine ⟨?_, HBel.out⟩
  show Ending.returned (.string (({ data := #[36] } : ByteArray) ++ T)) = _
  rw [show (({ data := #[36] } : ByteArray) ++ T) = _ from HApp.out]
  rfl

theorem drop_one (S : ByteArray) (c : UInt8) (l : List UInt8) (h : S = ⟨(c :: l).toArray⟩) : S.extract 1 S.size = ⟨l.toArray⟩ := by
  have h1 : (S.extract 1 S.size).data.toList = l := by
    rw [Lib.extract_data, List.take_of_length_le]
    · rw [h]
      simp
    · rw [List.length_drop, ← Lib.size_eq]
      exact Nat.le_refl _
  generalize S.extract 1 S.size = X at h1 ⊢
  cases X
  simp at h1
  subst h1
  simp

set_option maxRecDepth 100000 in
set_option maxHeartbeats 2000000 in
theorem sealNamed_walk (a0 : Option Addr) (len0 cap0 : Nat) (z0 : List Int) (a1 : Option Addr) (len1 cap1 : Nat) (z1 : List Int) (a2 : Int) (w : World) (w0 : IsRow .u8 w a0 len0 cap0 z0) (w1 : IsRow .u8 w a1 len1 cap1 z1) (w2 : (Lit.int .u8 a2).wf = true) (hC : Cubes w) :
    Calls Tryd.prog 8 #[.slice a0 len0 cap0, .slice a1 len1 cap1, .int .u8 a2] w fun e w' => e = .returned (.bool true) ∧ Below w.heap.size w w' := by
  have hA := w0.isB
  have hB := w1.isB
  obtain ⟨z20, z21⟩ := bounds_u8 w2
  generalize z0.take len0 = bs at hA
  generalize z1.take len1 = cs at hB
  have HA := hide hA
  have HB := hide hB
  have HC := hide hC
  have hlc := hB.2.1
  have hcx := hB.2.2.1
  clear w0 w1 w2 hA hB hC
  by_cases hlen : 50 < len0
  · go_enter Tryd.func8, Tryd.ntmps8
    go_wp2_with fail
    refine (sealKnown_any _ HC.out).mono ?_
    rintro e w2 ⟨rfl, b2⟩
    go_wp2_with fail
    go_ret
    exact ⟨rfl, b2⟩
  go_enter Tryd.func8, Tryd.ntmps8
  go_wp2_with fail
  go_loop [7, 8] (fun s i => ∃ (k : Nat) (S : ByteArray), k ≤ 42 ∧ i = .int .i64 k ∧ s = .string S ∧ Hid (S = ⟨(36 :: (ch cs k).map Sl.sgn).toArray⟩) ∧ S.size = k + 1) (fun _ i => 42 - (intOf i).toNat)
  case atStart => exact ⟨0, ⟨#[36]⟩, by omega, rfl, rfl, rfl, rfl⟩
  case round =>
    obtain ⟨k, S, hk, rfl, rfl, HS, hsz⟩ := hrel
    by_cases hk42 : k < 42
    · have key : ∀ p : Int, p = cs[k]?.getD 0 % 64 → 0 ≤ p ∧ p < 64 ∧ S ++ signsB.extract p.toNat (p + 1).toNat = ⟨(36 :: (ch cs (k + 1)).map Sl.sgn).toArray⟩ ∧ (S ++ signsB.extract p.toNat (p + 1).toNat).size = k + 1 + 1 := fun p hp => by
        have hp0 : 0 ≤ p ∧ p < 64 := by rw [hp]; exact ⟨Int.emod_nonneg _ (by omega), Int.emod_lt_of_pos _ (by omega)⟩
        refine ⟨hp0.1, hp0.2, ?_, ?_⟩
        · rw [signs_one hp0.1 hp0.2, HS.out, str_app, ch_succ, List.map_append, ← hp]
          rfl
        · rw [ByteArray.size_append, ByteArray.size_extract, hsz]
          show k + 1 + (min (p + 1).toNat 64 - p.toNat) = k + 1 + 1
          omega
      by_cases hkl : k < len1
      · obtain ⟨h1, h2, h3, h4, h5⟩ := HB.out
        rcases h5 with ⟨_, h5⟩ | ⟨x, rfl, h6⟩
        · omega
        · obtain ⟨b, o, rfl, hR⟩ := h6 (by omega)
          have hc := hR k (by omega)
          have h8 := h4 k
          obtain ⟨v, hv⟩ : ∃ v, v = cs[k]?.getD 0 := ⟨_, rfl⟩
          obtain ⟨q1, q2, q3, q4⟩ := key (v % 64) (by rw [hv])
          rw [← hv] at hc h8
          have HQ3 := hide q3
          have HQ4 := hide q4
          clear hv h1 h4 h6 hR key q3 q4
          go_wp2_with fail
          go_round
          case rel => exact ⟨k + 1, S ++ signsB.extract (v % 64).toNat (v % 64 + 1).toNat, by omega, by go_num, rfl, HQ3, HQ4.out⟩
          case measure => simp [intOf]; omega
      · have hcz : cs[k]?.getD 0 = 0 := by rw [List.getElem?_eq_none (by rw [HB.out.1]; omega)]; rfl
        obtain ⟨q1, q2, q3, q4⟩ := key 0 (by rw [hcz]; rfl)
        have HQ3 := hide q3
        have HQ4 := hide q4
        clear key q3 q4 hcz
        go_wp2_with fail
        go_round
        case rel => exact ⟨k + 1, S ++ signsB.extract (0 : Int).toNat (0 + 1 : Int).toNat, by omega, by go_num, rfl, HQ3, HQ4.out⟩
        case measure => simp [intOf]; omega
    · obtain rfl : k = 42 := by omega
      have hT : S ++ signsB.extract (a2 % 64).toNat (a2 % 64 + 1).toNat = ⟨(36 :: (ch cs 42 ++ [a2 % 64]).map Sl.sgn).toArray⟩ := by
        rw [signs_one (by omega) (by omega), HS.out, str_app, List.map_append]
        rfl
      have h6 := ch_s6 cs 42
      have hl6 := ch_length cs 42
      generalize ch cs 42 = ns at HS hT h6 hl6
      obtain ⟨T, hTd⟩ : ∃ T, T = S ++ signsB.extract (a2 % 64).toNat (a2 % 64 + 1).toNat := ⟨_, rfl⟩
      rw [← hTd] at hT
      have hTz : T.size = 44 := by rw [hT, str_size]; simp [hl6]
      have h7 : Sl.S6 (ns ++ [a2 % 64]) := s6_snoc h6 (by omega) (by omega)
      have n1 : Sl.named S.data.toList = false := by
        rw [HS.out, str_of, named_signs h6]
        exact is32_len (by rw [hl6]; decide)
      have n2 : Sl.named T.data.toList = (a2 % 4 == 0) := by
        rw [hT, str_of, named_signs h7, is32_43 (by simp [hl6])]
        have : (ns ++ [a2 % 64])[42]?.getD 0 = a2 % 64 := by
          rw [List.getElem?_append_right (by omega), hl6]
          rfl
        rw [this, show a2 % 64 % 4 = a2 % 4 by omega]
      have hTA : T ++ ⟨#[65]⟩ = ⟨(36 :: (ns ++ [a2 % 64] ++ [0]).map Sl.sgn).toArray⟩ := by
        have e65 : (⟨#[65]⟩ : ByteArray) = ⟨[Sl.sgn 0].toArray⟩ := rfl
        rw [e65, hT, str_app, List.map_append (l₁ := ns ++ [a2 % 64])]
        rfl
      have n3 : Sl.named (T ++ ⟨#[65]⟩).data.toList = false := by
        rw [hTA, str_of, named_signs (s6_snoc h7 (by omega) (by omega))]
        exact is32_len (by simp [hl6])
      have n4 : Sl.named (T.extract 1 T.size).data.toList = false := by
        rw [drop_one T 36 _ hT, str_of]
        exact named_not h7
      have n5 : Sl.named (36 :: Sl.text bs) = decide (len0 = 32) := by rw [named_text (y8_isB HA.out), HA.out.1]
      have n6 : Sl.named (36 :: Sl.text (fake a2 1)) = true := by
        rw [named_text (y8_of (fake_b8 z20 z21 (by omega) (by omega)))]
        simp [fake]
      have N1 := hide n1
      have N2 := hide n2
      have N3 := hide n3
      have N4 := hide n4
      have N5 := hide n5
      have N6 := hide n6
      clear n1 n2 n3 n4 n5 n6 hTA h7 h6 hl6 hT
      have hsl : ∀ w, (Instr.sliceAt 9 (.string T) (some (.int .i64 1)) none none).run Tryd.prog w = .ok (.string (T.extract 1 T.size)) w := fun w => slice_str T 0 (by omega) w
      have hTl : S ++ ({ data := #[65, 66, 67, 68, 69, 70, 71, 72, 73, 74, 75, 76, 77, 78, 79, 80, 81, 82, 83, 84, 85, 86, 87, 88, 89, 90, 97, 98, 99, 100, 101, 102, 103, 104, 105, 106, 107, 108, 109, 110, 111, 112, 113, 114, 115, 116, 117, 118, 119, 120, 121, 122, 48, 49, 50, 51, 52, 53, 54, 55, 56, 57, 45, 95] } : ByteArray).extract (a2 % 64).toNat (a2 % 64 + 1).toNat = T := hTd.symm
      have HTz := hide hTz
      clear hTd hTz
      go_upto_region 12 with fail
      clear hTl
      go_wp2_with fail
      refine (sealKnown_any _ HC.out).mono ?_
      rintro e w2 ⟨rfl, b2⟩
      have HB2 := hide b2
      clear b2
      go_wp2_with fail
      refine (sealText_any bs _ _ _ _ (HA.out.below HB2.out) (by omega)).mono ?_
      rintro e w3 ⟨rfl, b3⟩
      have HB3 := hide (bthen HB2.out b3)
      clear b3 HB2
      have hl : (Sl.text bs).length ≤ 400 := by rw [Sl.text_length, HA.out.1]; omega
      have hz := str_size (Sl.text bs)
      have happ := str_app [36] (Sl.text bs)
      have HApp := hide happ
      clear happ
      generalize hX : (⟨(Sl.text bs).toArray⟩ : ByteArray) = X at hz HApp ⊢
      clear hX
      go_wp2_with fail
      have happ : ({ data := #[36] } : ByteArray) ++ X = ⟨(36 :: Sl.text bs).toArray⟩ := HApp.out
      rw [happ]
      clear happ
      refine (named_any _ _ (by rw [str_size, List.length_cons]; omega)).mono ?_
      rintro e w4 ⟨rfl, b4⟩
      rw [str_of, N5.out]
      have HB4 := hide (bthen HB3.out b4)
      clear b4 HB3 hz
      have h32 : ((len0 : Int) == 32) = decide (len0 = 32) := by
        rw [Bool.eq_iff_iff]
        simp only [beq_iff_eq, decide_eq_true_eq]
        omega
      generalize hq : decide (len0 = 32) = q at h32 ⊢
      clear hq
      have hqq : (q == q) = true := by simp
      go_wp2_with fail
      refine (named_any T _ (by rw [HTz.out]; omega)).mono ?_
      rintro e w5 ⟨rfl, b5⟩
      rw [N2.out]
      have HB5 := hide (bthen HB4.out b5)
      clear b5 HB4 h32 hqq
      generalize hq2 : (a2 % 4 == 0) = q2
      have hqq2 : (q2 == q2) = true := by simp
      go_wp2_with fail
      refine (named_any S _ (by omega)).mono ?_
      rintro e w6 ⟨rfl, b6⟩
      rw [N1.out]
      have HB6 := hide (bthen HB5.out b6)
      clear b6 HB5 hqq2 hq2
      have hTz2 := HTz.out
      have h65 : (⟨#[65]⟩ : ByteArray).size = 1 := rfl
      go_wp2_with fail
      obtain ⟨U, hU⟩ : ∃ U, U = T ++ ({ data := #[65] } : ByteArray) := ⟨_, rfl⟩
      have hUz : U.size ≤ 1000000 := by rw [hU, ByteArray.size_append, HTz.out, h65]; omega
      have n3 : Sl.named U.data.toList = false := by rw [hU]; exact N3.out
      rw [← hU]
      refine (named_any U _ hUz).mono ?_
      rintro e w7 ⟨rfl, b7⟩
      rw [n3]
      clear n3 hUz hU
      have HB7 := hide (bthen HB6.out b7)
      clear b7 HB6 h65 hTz2
      have hsl2 : ∀ w, (Instr.sliceAt 9 (.string T) (some (.int .i64 1)) none none).run Tryd.prog w = .ok (.string (T.extract 1 T.size)) w := hsl
      go_wp2_with fail
      refine (named_any (T.extract 1 T.size) _ (by rw [ByteArray.size_extract, HTz.out]; omega)).mono ?_
      rintro e w8 ⟨rfl, b8'⟩
      rw [N4.out]
      have HB8 := hide (bthen HB7.out b8')
      clear b8' HB7
      go_wp2_with fail
      refine (ident_any T _ (by rw [HTz.out]; omega) (HC.out.below' HB8.out)).mono ?_
      rintro e w9 ⟨rfl, b9⟩
      have HB9 := hide (bthen HB8.out b9)
      clear b9 HB8
      go_wp2_with fail
      refine (named_any _ _ (by rw [str_size, Sl.ident, List.length_cons, Sl.text_length, Dg.sha_length]; omega)).mono ?_
      rintro e w10 ⟨rfl, b10⟩
      rw [str_of, named_ident]
      have HB10 := hide (bthen HB9.out b10)
      clear b10 HB9
      go_wp2_with fail
      refine (fake_any a2 1 _ z20 z21 (by omega) (by omega)).mono ?_
      rintro e w11 ⟨rfl, b11⟩
      have HB11 := hide (bthen HB10.out b11)
      clear b11 HB10
      go_wp2_with fail
      refine (named_any _ _ (by rw [str_size, List.length_cons, Sl.text_length]; simp [fake])).mono ?_
      rintro e w12 ⟨rfl, b12⟩
      rw [str_of, N6.out]
      have HB12 := hide (bthen HB11.out b12)
      clear b12 HB11
      go_wp2_with fail
      go_ret
      exact ⟨rfl, HB12.out⟩
end Go.Proofs.YtfcbooagedjkfaaDoor
