/-
  THE WALK of DigestBytes.
-/
import Derived.Test.YtckpcebifdhpeaaDoorDLaw
set_option linter.unusedVariables false
set_option linter.unusedSimpArgs false
namespace Go.Proofs.YtckpcebifdhpeaaDoor
open Go.RowKit

theorem run_slice_one (w : World) (b o len cap k : Nat) (hk : k < len) (hl : len ≤ cap) : (Instr.sliceAt 24 (.slice (some ⟨b, o, none⟩) len cap) (some (.int .i64 k)) (some (.int .i64 ((k : Int) + 1))) none).run Tryd.prog w = .ok (.slice (some ⟨b, o + k, none⟩) 1 (cap - k)) w := by
  have hu : (Tryd.prog.underlying 24) = some (.slice 5) := Tryd.underlying24
  have hs : (sizeOf 5).run Tryd.prog w = .ok 1 w := by
    cases hq : Tryd.prog.info? 5 with
    | none => have := infoByte; simp [hq] at this
    | some j =>
      have hj : j.size = 1 := by have := infoByte; simp [hq] at this; exact this.2.1
      simp [sizeOf, typeInfo, hq, hj]
  have h1 : (k : Int) + 1 ≤ cap := by omega
  have h2 : (k : Int) ≤ (k : Int) + 1 := by omega
  have h3 : (0 : Int) ≤ (k : Int) + 1 := by omega
  have h4 : ((k : Int) + 1).toNat = k + 1 := by omega
  have h5 : ¬ cap = k := by omega
  have h6 : k + 1 - k = 1 := by omega
  simp [Instr.sliceAt, Instr.slice, run_underlying hu, Instr.sliceBounds, run_sliceBound, hs, h1, h2, h3, h4, h5, h6, Addr.add]

theorem IsB.one {w : World} {b o len cap k : Nat} {bs : List Int} (h : IsB w (some ⟨b, o, none⟩) len cap bs) (hR : Rd w b o bs) (hk : k < len) : IsB w (some ⟨b, o + k, none⟩) 1 (cap - k) [bs[k]?.getD 0] := by
  obtain ⟨h1, h2, h3, h4, _⟩ := h
  refine ⟨rfl, by omega, by omega, Dg.b8_of_mem (fun y hy => by rw [List.mem_singleton] at hy; rw [hy]; exact h4 k), .inr ⟨_, rfl, fun _ => ⟨b, o + k, rfl, fun i hi => ?_⟩⟩⟩
  have hi0 : i = 0 := by simp at hi; exact hi
  subst hi0
  exact hR k (by omega)

set_option maxRecDepth 100000 in
set_option maxHeartbeats 2000000 in
theorem digestBytes_walk (a : Option Addr) (len cap : Nat) (zs : List Int) (c : Int) (w : World) (h0 : IsRow .u8 w a len cap zs) (h1 : (Lit.int .u8 c).wf = true) (hC : Cubes w) :
    Calls Tryd.prog 7 #[.slice a len cap, .int .u8 c] w fun e w' => e = .returned (.bool true) ∧ Below w.heap.size w w' := by
  obtain ⟨c0, c1⟩ := bounds_u8 h1
  obtain ⟨bs, hbs⟩ : ∃ bs, bs = zs.take len := ⟨_, rfl⟩
  have hB := h0.isB
  rw [← hbs] at hB
  have hlc := hB.2.1
  have hcx := hB.2.2.1
  have HB := hide hB
  have HC := hide hC
  have HL : Hid (bs.length = len) := hB.1
  clear hbs h0 h1 hC hB
  by_cases h500 : 200 < len
  · go_enter Tryd.func7, Tryd.ntmps7
    go_wp2_with fail
    refine (known_any _ HC.out).mono ?_
    rintro e w1 ⟨rfl, b1⟩
    go_wp2_with fail
    go_ret
    exact ⟨rfl, b1⟩
  · go_enter Tryd.func7, Tryd.ntmps7
    go_wp2_with fail
    refine (new_any _).mono ?_
    rintro e w1 ⟨rfl, b1, hn⟩
    have HB1 := hide b1
    have HH1 := hide (hs_new hn)
    clear hn b1
    go_wp2_with fail
    obtain ⟨N, hN⟩ : ∃ N, N = w.heap.size := ⟨_, rfl⟩
    rw [← hN] at HH1 ⊢
    have HN := hide hN
    clear hN
    have hcN : 0 ≠ N := by have := HC.out.lt; have := HN.out; omega
    go_loopw [6] (fun i wr => ∃ k : Nat, k ≤ len ∧ i = .int .i64 k ∧ Hid (Below w.heap.size w wr) ∧ Hid (Hs wr N (bs.take k))) (fun i _ => len - (intOf i).toNat)
    case atStart => exact ⟨0, by omega, rfl, HB1, HH1⟩
    case round =>
      obtain ⟨k, hk, rfl, HBw, HHw⟩ := hrel
      by_cases hlt : k < len
      · obtain ⟨_, _, _, _, ⟨_, z1⟩ | ⟨x1, rfl, r1⟩⟩ := id HB.out
        · omega
        obtain ⟨b1, o1, rfl, q1⟩ := r1 (by omega)
        have HR := hide q1
        clear q1 r1
        have hone := fun w => run_slice_one w b1 o1 len cap k hlt hlc
        go_wp2_with fail
        refine (write_any N (bs.take k) [bs[k]?.getD 0] _ 1 (cap - k) _ HHw.out ((HB.out.one HR.out hlt).below HBw.out) ((HB.out.one HR.out hlt).off (by rw [HN.out]; exact Nat.le_refl _)) hcN (HC.out.below' HBw.out) (by rw [List.length_take]; omega)).mono ?_
        rintro e w2 ⟨rfl, b2, hH2⟩
        have htk : bs.take k ++ [bs[k]?.getD 0] = bs.take (k + 1) := by
          rw [List.take_succ_eq_append_getElem (by rw [HL.out]; exact hlt), List.getElem?_eq_getElem (by rw [HL.out]; exact hlt)]
          rfl
        rw [htk] at hH2
        have HB2 : Hid (Below w.heap.size w w2) := HBw.out.trans (b2.to_below HBw.out.size (by rw [HN.out]; exact Nat.le_refl _))
        have HH2 := hide hH2
        clear hH2 b2 htk hone
        go_wp2_with fail
        refine (write_any N (bs.take (k + 1)) [] none 0 0 _ HH2.out (isB_nil _) (fun h => absurd h (by omega)) hcN (HC.out.below' HB2.out) (by rw [List.length_take]; omega)).mono ?_
        rintro e w3 ⟨rfl, b3, hH3⟩
        rw [List.append_nil] at hH3
        have HB3 : Hid (Below w.heap.size w w3) := HB2.out.trans (b3.to_below HB2.out.size (by rw [HN.out]; exact Nat.le_refl _))
        have HH3 := hide hH3
        clear hH3 b3
        by_cases hask : (k : Int) % 7 = c % 7
        · have hab : ((k : Int) % 7 == c % 7) = true := by rw [hask]; simp
          clear hask
          go_wp2_with fail
          refine (sumI N (bs.take (k + 1)) _ HH3.out (HC.out.below' HB3.out) (by rw [List.length_take]; omega)).mono ?_
          rintro e w4 ⟨g4, rfl, _, _, b4⟩
          go_wp2_with fail
          go_roundw
          case rel => exact ⟨k + 1, by omega, by go_num, bthen HB3.out b4, HH3.out.below b4⟩
          case measure => simp [intOf]; omega
        · have hab : ((k : Int) % 7 == c % 7) = false := by simpa using hask
          go_wp2_with fail
          go_roundw
          case rel => exact ⟨k + 1, by omega, by go_num, HB3.out, HH3.out⟩
          case measure => simp [intOf]; omega
      · have hkl : k = len := by omega
        have htk : bs.take k = bs := List.take_of_length_le (by rw [HL.out]; omega)
        rw [htk] at HHw
        clear htk hkl
        go_wp2_with fail
        refine (known_any _ (HC.out.below' HBw.out)).mono ?_
        rintro e w5 ⟨rfl, b5⟩
        have HB5 := hide (bthen HBw.out b5)
        have HH5 := hide (HHw.out.below b5)
        clear b5
        go_wp2_with fail
        refine (sumI N bs _ HH5.out (HC.out.below' HB5.out) (by rw [HL.out]; omega)).mono ?_
        rintro e w6 ⟨g6, rfl, hI6, hg6, b6⟩
        have HB6 := hide (bthen HB5.out b6)
        have HI6 := hide hI6
        have HH6 := hide (HH5.out.below b6)
        clear b6 hI6 hg6
        go_wp2_with fail
        refine (digestI bs _ len cap _ (HB.out.below HB6.out) (HC.out.below' HB6.out) (by omega)).mono ?_
        rintro e w7 ⟨g7, rfl, hI7, hg7, b7⟩
        have HB7 := hide (bthen HB6.out b7)
        have HI7 := hide (HI6.out.below b7)
        have HJ7 := hide hI7
        have HH7 := hide (HH6.out.below b7)
        clear b7 hI7 hg7
        go_wp2_with fail
        refine (same_true (Dg.sha bs) _ _ 32 32 32 _ HI7.out HJ7.out).mono ?_
        rintro e w8 ⟨rfl, b8'⟩
        have HB8 := hide (bthen HB7.out b8')
        have HH8 := hide (HH7.out.below b8')
        clear b8'
        obtain ⟨s8, r8, hb8, hs8, hr8, _⟩ := id HH8.out
        rw [HL.out] at hb8
        go_wp2_with fail
        refine (long_any N s8 r8 len _ hs8 hr8 hb8).mono ?_
        rintro e w8 ⟨rfl, rfl⟩
        clear hb8 hs8 hr8
        go_wp2_with fail
        refine (sumI N bs _ HH8.out (HC.out.below' HB8.out) (by rw [HL.out]; omega)).mono ?_
        rintro e w9 ⟨g9, rfl, hI9, hg9, b9⟩
        have HB9 := hide (bthen HB8.out b9)
        have HI9 := hide hI9
        clear b9 hI9 hg9
        go_wp2_with fail
        refine (digestI bs _ len cap _ (HB.out.below HB9.out) (HC.out.below' HB9.out) (by omega)).mono ?_
        rintro e w10 ⟨g10, rfl, hI10, hg10, b10⟩
        have HB10 := hide (bthen HB9.out b10)
        have HI10 := hide (HI9.out.below b10)
        have HJ10 := hide hI10
        clear b10 hI10 hg10
        go_wp2_with fail
        refine (same_true (Dg.sha bs) _ _ 32 32 32 _ HI10.out HJ10.out).mono ?_
        rintro e w11 ⟨rfl, b11⟩
        go_wp2_with fail
        go_ret
        exact ⟨rfl, bthen HB10.out b11⟩
end Go.Proofs.YtckpcebifdhpeaaDoor
