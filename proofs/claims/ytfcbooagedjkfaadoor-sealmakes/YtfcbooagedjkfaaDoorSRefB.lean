/-
  THE WALKS of the document's sign, key and Code (layer 5).
-/
import Derived.Test.YtfcbooagedjkfaaDoorSRef
import Derived.Test.YtfcbooagedjkfaaDoorSKeys
set_option linter.unusedVariables false
set_option linter.unusedSimpArgs false
namespace Go.Proofs.YtfcbooagedjkfaaDoor
open Go.RowKit

/-- a sign's number; below 0: it is none -/
def numZ (c : UInt8) : Int := match Sl.num c with | none => -1 | some n => n
theorem numZ_some {c : UInt8} {n : Int} (h : Sl.num c = some n) : numZ c = n := by unfold numZ; rw [h]
theorem numZ_none {c : UInt8} (h : Sl.num c = none) : numZ c = -1 := by unfold numZ; rw [h]

theorem sign_eq (k : Nat) (c : UInt8) (h : k < ({ data := #[65, 66, 67, 68, 69, 70, 71, 72, 73, 74, 75, 76, 77, 78, 79, 80, 81, 82, 83, 84, 85, 86, 87, 88, 89, 90, 97, 98, 99, 100, 101, 102, 103, 104, 105, 106, 107, 108, 109, 110, 111, 112, 113, 114, 115, 116, 117, 118, 119, 120, 121, 122, 48, 49, 50, 51, 52, 53, 54, 55, 56, 57, 45, 95] } : ByteArray).size) (b : Bool) (hb : decide (Sl.sgn (k : Int) = c) = b) : ((((({ data := #[65, 66, 67, 68, 69, 70, 71, 72, 73, 74, 75, 76, 77, 78, 79, 80, 81, 82, 83, 84, 85, 86, 87, 88, 89, 90, 97, 98, 99, 100, 101, 102, 103, 104, 105, 106, 107, 108, 109, 110, 111, 112, 113, 114, 115, 116, 117, 118, 119, 120, 121, 122, 48, 49, 50, 51, 52, 53, 54, 55, 56, 57, 45, 95] } : ByteArray)[k]'h).toNat : Nat) : Int) == ((c.toNat : Nat) : Int)) = b := by
  rw [signs_at k h, ← hb, Bool.eq_iff_iff]
  simp only [beq_iff_eq, decide_eq_true_eq]
  have e : Sl.sgn (k : Int) = Sl.signs[k]?.getD 0 := rfl
  rw [e]
  constructor
  · intro h1
    exact UInt8.toNat_inj.1 (by omega)
  · intro h1
    rw [h1]

set_option maxHeartbeats 1000000 in
theorem sign_any (c : UInt8) (w : World) :
    Calls Tryd.prog 46 #[.int .u8 (c.toNat : Int)] w fun e w' => e = .returned (.int .i64 (numZ c)) ∧ w' = w := by
  go_enter Tryd.func46, Tryd.ntmps46
  go_wp2_with fail
  go_loop [3] (fun i => ∃ k : Nat, k ≤ 64 ∧ i = .int .i64 k ∧ Hid (∀ j : Nat, j < k → ¬ Sl.sgn (j : Int) = c)) (fun i => 64 - (intOf i).toNat)
  case atStart => exact ⟨0, by omega, rfl, fun j hj => by omega⟩
  case round =>
    obtain ⟨k, hk, rfl, HN⟩ := hrel
    by_cases hk64 : k < 64
    · by_cases hs : Sl.sgn (k : Int) = c
      · have hb := fun h => sign_eq k c h true (by simp [hs])
        have hnum : Sl.num c = some (k : Int) := by rw [← hs]; exact Sl.num_sgn (by omega) (by omega)
        have HNum := hide hnum
        clear hs hnum
        go_wp2_with fail
        go_ret
        exact ⟨by rw [numZ_some HNum.out]; rfl, rfl⟩
      · have hb := fun h => sign_eq k c h false (by simp [hs])
        have HS := hide hs
        clear hs
        go_wp2_with fail
        go_round
        case rel =>
          refine ⟨k + 1, by omega, by go_num, fun j hj => ?_⟩
          by_cases hjk : j = k
          · subst hjk; exact HS.out
          · exact HN.out j (by omega)
        case measure => simp [intOf]; omega
    · have hnone : Sl.num c = none := by
        cases hn : Sl.num c with
        | none => rfl
        | some n =>
          obtain ⟨h1, h2, h3⟩ := Sl.sgn_num hn
          exfalso
          refine HN.out n.toNat (by omega) ?_
          rw [show ((n.toNat : Nat) : Int) = n by omega]
          exact h1
      have HNone := hide hnone
      clear hnone
      go_wp2_with fail
      go_ret
      exact ⟨by rw [numZ_none HNone.out]; rfl, rfl⟩

/-- a key's first i bytes, turned by a mask, and noughts behind -/
def kz (m : Int) (K : List Int) (i : Nat) : List Int := Sl.mask m (K.take i) ++ List.replicate (64 - i) 0
theorem kz_length (m : Int) (K : List Int) (i : Nat) (h : i ≤ 64) (hK : K.length = 64) : (kz m K i).length = 64 := by simp [kz, Sl.mask]; omega
theorem kz_set (m : Int) (K : List Int) (i : Nat) (h : i < 64) (hK : K.length = 64) : (kz m K i).set i (bits .xor .u8 (K[i]?.getD 0) m) = kz m K (i + 1) := by
  unfold kz Sl.mask
  rw [List.set_append_right _ _ (by simp; omega)]
  simp only [List.length_map, List.length_take]
  rw [show i - min i K.length = 0 by omega, show 64 - i = (64 - (i + 1)) + 1 by omega, List.replicate_succ, List.set_cons_zero, List.take_succ_eq_append_getElem (by omega), List.map_append, List.getElem?_eq_getElem (by omega)]
  simp

set_option maxRecDepth 100000 in
set_option maxHeartbeats 2000000 in
theorem key_any (bs : List Int) (m : Int) (a : Option Addr) (len cap : Nat) (w : World) (hB : IsB w a len cap bs) (hl : len ≤ 900000) (hm0 : 0 ≤ m) (hm1 : m ≤ 255) :
    Calls Tryd.prog 25 #[.slice a len cap, .int .u8 m] w fun e w' => ∃ g, e = .returned (.slice (some ⟨g, 0, none⟩) 64 64) ∧ w'.ownsRow w.heap.size 5 1 (.slice (some ⟨g, 0, none⟩) 64 64) 64 ((Sl.mask m (Sl.whole bs)).map b8) ∧ Below w.heap.size w w' := by
  have HB := hide hB
  clear hB
  go_enter Tryd.func25, Tryd.ntmps25
  go_upto_if 10 with fail
  go_cut [0] from 10 to 12 (fun v wc => ∃ a' n' c', v = .slice a' n' c' ∧ n' ≤ 64 ∧ Hid (∃ q, IsB wc a' n' c' q ∧ Sl.whole bs = q ++ List.replicate (64 - q.length) 0 ∧ Below w.heap.size w wc))
  case first =>
    by_cases h64 : 64 < len
    · go_wp2_with fail
      refine (refSum_any a len cap bs _ HB.out (by omega)).mono ?_
      rintro e w2 ⟨a', c', rfl, hI2, b2⟩
      go_wp2_with fail
      go_meet
      case rel =>
        refine ⟨a', 32, c', rfl, by omega, Dg.sha bs, hI2, ?_, b2⟩
        unfold Sl.whole
        simp only
        rw [if_neg (by rw [HB.out.1]; omega)]
    · go_wp2_with fail
      go_meet
      case rel =>
        refine ⟨a, len, cap, rfl, by omega, bs, HB.out, ?_, Below.refl _ _⟩
        unfold Sl.whole
        simp only
        rw [if_pos (by rw [HB.out.1]; omega)]
  case rest =>
    obtain ⟨a', n', c', rfl, hn', hq⟩ := hcut
    obtain ⟨q, hI, hwh, hbw⟩ := hq.out
    obtain ⟨K, hK⟩ : ∃ K, K = Sl.whole bs := ⟨_, rfl⟩
    have hKl : K.length = 64 := by rw [hK]; exact whole_length bs
    rw [← hK] at hwh
    have HI := hide hI
    have HWh := hide hwh
    have HBw := hide hbw
    have HK := hide hK
    have HKl := hide hKl
    have hcx := hI.2.2.1
    have hlc := hI.2.1
    clear hq hI hwh hbw hK hKl
    have hmk : (Instr.makeSlice 22 (.int .i64 64) (.int .i64 64)).run Tryd.prog wc = .ok (.slice (some ⟨wc.heap.size, 0, none⟩) 64 64) (wc.alloc (.cells (by8 zero64) 5)) := by
      obtain ⟨i0, hi, hz0, hz1, hz2⟩ := info_parts infoByte
      have := run_make (P := Tryd.prog) wc 22 5 i0 _ Tryd.underlying22 hi hz0 .i64 .i64 64 64 (by omega) (by omega) (by rw [hz2]; omega) (by omega)
      rw [hz1] at this
      refine this.trans ?_
      have e : by8 zero64 = madeCells #[b8 0] 64 := by
        apply Array.ext'
        rw [toList_madeCells_one]
        simp [by8, zero64]
      rw [e]
      rfl
    go_upto_region 4 with fail
    have hnew := blk_new wc 5 (by8 zero64)
    have b1 : Below wc.heap.size wc (wc.alloc (.cells (by8 zero64) 5)) := (Below.refl _ _).alloc (Nat.le_refl _) _
    have HN := hide hnew
    have HB1 := hide b1
    clear hmk hnew b1
    generalize wc.alloc (.cells (by8 zero64) 5) = w1 at HN HB1 ⊢
    obtain ⟨g, hg⟩ : ∃ g, g = wc.heap.size := ⟨_, rfl⟩
    rw [← hg] at HN HB1 ⊢
    have HG := hide hg
    clear hg
    go_wp2_with fail
    go_loopw [6] (fun i wr => ∃ k : Nat, k ≤ 64 ∧ i = .int .i64 k ∧ Hid (Blk wr g 5 (by8 (kz m K k))) ∧ Hid (Below g wc wr)) (fun i _ => 64 - (intOf i).toNat)
    case atStart =>
      refine ⟨0, by omega, rfl, ?_, HB1⟩
      show Blk w1 g _ (by8 (kz m K 0))
      rw [show kz m K 0 = zero64 by simp [kz, Sl.mask, zero64]]
      exact HN.out
    case round =>
      obtain ⟨k, hk, rfl, HBk, HBr⟩ := hrel
      by_cases hlt : k < 64
      · have hc := (HBk.out.cell k).trans (by8_at (by rw [kz_length m K k hk HKl.out]; exact hlt))
        have hf := HBk.out.frozen k
        have hset := by8_set (kz m K k) k (bits .xor .u8 (K[k]?.getD 0) m)
        rw [kz_set m K k hlt HKl.out] at hset
        have hB2 := HBk.out.set k (b8 (bits .xor .u8 (K[k]?.getD 0) m))
        rw [hset] at hB2
        obtain ⟨x, hx⟩ : ∃ x, x = K[k]?.getD 0 := ⟨_, rfl⟩
        rw [← hx] at hB2
        have HX := hide hx
        have HB2 := hide hB2
        have HBn : Hid (Below g wc (wr.setCell ⟨g, k, none⟩ (b8 (bits .xor .u8 x m)))) := HBr.out.setCell (p := ⟨g, k, none⟩) (Nat.le_refl _) _
        generalize (kz m K k)[k]?.getD 0 = y0 at hc
        clear hset hB2 hx
        by_cases hkn : k < n'
        · have hIw : IsB wr a' n' c' q := by
            have hb : Below wc.heap.size wc wr := by have := HBr.out; rw [HG.out] at this; exact this
            exact HI.out.below hb
          obtain ⟨l1, _, _, _, ⟨_, l5⟩ | ⟨xa, rfl, l6⟩⟩ := hIw
          · omega
          · obtain ⟨b, o, rfl, hR⟩ := l6 (by omega)
            have hcq := hR k (by omega)
            have hqx : q[k]?.getD 0 = x := by rw [HX.out, HWh.out, List.getElem?_append_left (by omega)]
            rw [hqx] at hcq
            clear hqx hR l6 l1
            go_wp2_with fail
            go_roundw
            case rel => exact ⟨k + 1, by omega, by go_num, HB2, HBn⟩
            case measure => simp [intOf]; omega
        · have hx0 : x = 0 := by
            rw [HX.out, HWh.out, List.getElem?_append_right (by rw [HI.out.1]; omega), List.getElem?_replicate]
            split <;> rfl
          subst hx0
          go_wp2_with fail
          go_roundw
          case rel => exact ⟨k + 1, by omega, by go_num, HB2, HBn⟩
          case measure => simp [intOf]; omega
      · have hk64 : k = 64 := by omega
        go_wp2_with fail
        go_ret
        have hbk := HBk.out
        rw [hk64] at hbk
        have hkz : kz m K 64 = Sl.mask m K := by
          unfold kz
          rw [List.take_of_length_le (by rw [HKl.out]; omega)]
          simp
        rw [hkz, HK.out] at hbk
        have hsz := HBw.out.size
        have hg := HG.out
        refine ⟨g, rfl, ⟨by simp [Sl.mask, whole_length], .inr ⟨g, 64, _, rfl, by omega, hbk, by omega, by simp [maxLen], by simp [by8, Sl.mask, whole_length], List.take_of_length_le (by simp [by8, Sl.mask, whole_length])⟩⟩, HBw.out.trans (HBr.out.mono (by omega))⟩

set_option maxRecDepth 100000 in
set_option maxHeartbeats 1000000 in
theorem refCode_any (key msg : List Int) (a a' : Option Addr) (len cap len' cap' : Nat) (w : World) (hB : IsB w a len cap key) (hB' : IsB w a' len' cap' msg) (hmax : len ≤ 10000) (hmax' : len' ≤ 10000) :
    Calls Tryd.prog 11 #[.slice a len cap, .slice a' len' cap'] w fun e w' => ∃ x c, e = .returned (.slice x 32 c) ∧ IsB w' x 32 c (Sl.code key msg) ∧ Below w.heap.size w w' := by
  have HB := hide hB
  have HB' := hide hB'
  clear hB hB'
  go_enter Tryd.func11, Tryd.ntmps11
  go_wp2_with fail
  refine (key_any key 54 a len cap _ HB.out (by omega) (by omega) (by omega)).mono ?_
  rintro e w1 ⟨g1, rfl, ho1, b1⟩
  obtain ⟨x2, c2, W2, hrun2, hown2, hgr2⟩ := append_isB w.heap.size _ 64 _ ho1 (HB'.out.below b1) (by omega) b1.size
  have HB2 : Hid (Below w.heap.size w W2) := b1.grown hgr2 b1.size (own_block ho1)
  have h8a : Dg.B8 (Sl.mask 54 (Sl.whole key) ++ msg) := Dg.b8_of_mem fun x hx => by
    rcases List.mem_append.1 hx with h | h
    · exact y8_of (b8_mask (whole_b8 HB.out.2.2.2.1) (by omega) (by omega)) x h
    · exact y8_of HB'.out.2.2.2.1 x h
  have HI2 := hide (own_isB' hown2 h8a).1
  clear ho1 b1 hown2 hgr2 h8a
  go_upto_region 3 with (at_builtin; refine wpList_append_run rfl _ _ 22 rfl _ _ rfl rfl hrun2 ?_)
  clear hrun2
  go_wp2_with fail
  refine (key_any key 92 a len cap _ (HB.out.below HB2.out) (by omega) (by omega) (by omega)).mono ?_
  rintro e w3 ⟨g3, rfl, ho3, b3⟩
  have HO3 := hide ho3
  have HB3 := hide (bthen HB2.out b3)
  have HI3 := hide (HI2.out.below b3)
  have HS3 := hide b3
  clear ho3 b3 HI2
  go_wp2_with fail
  refine (refSum_any _ _ _ _ _ HI3.out (by omega)).mono ?_
  rintro e w4 ⟨x4, c4, rfl, hI4, b4⟩
  have HO4 := hide (own_below HO3.out b4)
  have hsz : W2.heap.size ≤ w4.heap.size := Nat.le_trans HS3.out.size b4.size
  obtain ⟨x5, c5, W5, hrun5, hown5, hgr5⟩ := append_isB W2.heap.size _ 64 _ HO4.out hI4 (by omega) hsz
  have HB4 := hide (bthen HB3.out b4)
  have HB5 : Hid (Below w.heap.size w W5) := HB4.out.grown hgr5 HB4.out.size (fun k hk => Nat.le_trans HB2.out.size (own_block HO4.out k hk))
  have h8b : Dg.B8 (Sl.mask 92 (Sl.whole key) ++ Dg.sha (Sl.mask 54 (Sl.whole key) ++ msg)) := Dg.b8_of_mem fun x hx => by
    rcases List.mem_append.1 hx with h | h
    · exact y8_of (b8_mask (whole_b8 HB.out.2.2.2.1) (by omega) (by omega)) x h
    · exact Dg.sha_mem _ x h
  have HI5 := hide (own_isB' hown5 h8b).1
  clear b4 hI4 hown5 hgr5 h8b HO3 HO4 hsz
  go_upto_region 6 with (at_builtin; refine wpList_append_run rfl _ _ 22 rfl _ _ rfl rfl hrun5 ?_)
  clear hrun5
  go_wp2_with fail
  refine (refSum_any _ _ _ _ _ HI5.out (by omega)).mono ?_
  rintro e w6 ⟨x6, c6, rfl, hI6, b6⟩
  go_wp2_with fail
  go_ret
  exact ⟨x6, c6, rfl, hI6, bthen HB5.out b6⟩

set_option maxHeartbeats 1000000 in
theorem refIdent_any (s : ByteArray) (w : World) (hs : s.size ≤ 10000) :
    Calls Tryd.prog 19 #[.string s] w fun e w' => e = .returned (.string ⟨(Sl.ident s.data.toList).toArray⟩) ∧ Below w.heap.size w w' := by
  have hcv := Lib.run_convert_string_bytes (P := Tryd.prog) w 9 22 5 s Tryd.underlying9 Tryd.underlying22 Tryd.underlying5
  have HI := hide (bytes_isB w s (by omega))
  have b0 := below_bytes w s
  have HB0 := hide b0
  clear b0
  generalize Lib.bytesWorld w 5 s = w1 at hcv HI HB0
  generalize grownCap w s.size 0 5 = c1 at hcv HI
  go_enter Tryd.func19, Tryd.ntmps19
  go_wp2_with fail
  refine (refSum_any _ _ _ _ _ HI.out (by omega)).mono ?_
  rintro e w2 ⟨x2, c2, rfl, hI2, b2⟩
  have HI2 := hide hI2
  have HB2 := hide (bthen HB0.out b2)
  clear hI2 b2 hcv
  go_wp2_with fail
  refine (refText_any _ _ _ _ _ HI2.out (by omega)).mono ?_
  rintro e w2 ⟨rfl, rfl⟩
  have hl : (Sl.text (Dg.sha (Sl.ints s.data.toList))).length ≤ 43 := by rw [Sl.text_length, Dg.sha_length]; omega
  have hz := str_size (Sl.text (Dg.sha (Sl.ints s.data.toList)))
  have happ := str_app [36] (Sl.text (Dg.sha (Sl.ints s.data.toList)))
  have HApp := hide happ
  clear happ
  generalize hT : (⟨(Sl.text (Dg.sha (Sl.ints s.data.toList))).toArray⟩ : ByteArray) = T at hz HApp ⊢
  go_wp2_with fail
  go_ret
  refine ⟨?_, HB2.out⟩
  show Ending.returned (.string (({ data := #[36] } : ByteArray) ++ T)) = _
  rw [show (({ data := #[36] } : ByteArray) ++ T) = _ from HApp.out]
  rfl
end Go.Proofs.YtfcbooagedjkfaaDoor
