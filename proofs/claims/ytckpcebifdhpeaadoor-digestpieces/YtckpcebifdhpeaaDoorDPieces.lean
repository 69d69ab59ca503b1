/-
  THE WALK of DigestPieces.
-/
import Derived.Test.YtckpcebifdhpeaaDoorDLaw
set_option linter.unusedVariables false
set_option linter.unusedSimpArgs false
namespace Go.Proofs.YtckpcebifdhpeaaDoor
open Go.RowKit

theorem run_slice_front (w : World) (a : Option Addr) (len cap m : Nat) (hm : m ≤ len) (hl : len ≤ cap) : (Instr.sliceAt 24 (.slice a len cap) none (some (.int .i64 m)) none).run Tryd.prog w = .ok (.slice (cutA a 0 cap) m cap) w := by
  have hu : (Tryd.prog.underlying 24) = some (.slice 5) := Tryd.underlying24
  have hs : (sizeOf 5).run Tryd.prog w = .ok 1 w := by
    cases hq : Tryd.prog.info? 5 with
    | none => have := infoByte; simp [hq] at this
    | some j =>
      have hj : j.size = 1 := by have := infoByte; simp [hq] at this; exact this.2.1
      simp [sizeOf, typeInfo, hq, hj]
  have h1 : (m : Int) ≤ cap := by omega
  simp [Instr.sliceAt, Instr.slice, run_underlying hu, Instr.sliceBounds, run_sliceBound, hs, h1, cutA]
theorem IsB.cut0 {w : World} {a : Option Addr} {len cap : Nat} {bs : List Int} (h : IsB w a len cap bs) : IsB w (cutA a 0 cap) len cap bs := by
  have := h.cut (m := 0) (Nat.zero_le _)
  simpa using this

set_option maxRecDepth 100000 in
set_option maxHeartbeats 1000000 in
theorem digestPieces_walk (a : Option Addr) (len cap : Nat) (zs : List Int) (c : Int) (w : World) (h0 : IsRow .u8 w a len cap zs) (h1 : (Lit.int .u16 c).wf = true) (hC : Cubes w) :
    Calls Tryd.prog 4 #[.slice a len cap, .int .u16 c] w fun e w' => e = .returned (.bool true) ∧ Below w.heap.size w w' := by
  obtain ⟨c0, c1⟩ := bounds_u16 h1
  obtain ⟨bs, hbs⟩ : ∃ bs, bs = zs.take len := ⟨_, rfl⟩
  have hB := h0.isB
  rw [← hbs] at hB
  have hlc := hB.2.1
  have hcx := hB.2.2.1
  have HB := hide hB
  have HC := hide hC
  have HL : Hid (bs.length = len) := hB.1
  clear hbs h0 h1 hC hB
  by_cases h500 : 500 < len
  · go_enter Tryd.func4, Tryd.ntmps4
    go_wp2_with fail
    refine (known_any _ HC.out).mono ?_
    rintro e w1 ⟨rfl, b1⟩
    go_wp2_with fail
    go_ret
    exact ⟨rfl, b1⟩
  · obtain ⟨k, hk⟩ : ∃ k : Nat, c % ((len : Int) + 1) = (k : Int) := ⟨(c % ((len : Int) + 1)).toNat, by have := Int.emod_nonneg c (b := (len : Int) + 1) (by omega); omega⟩
    have hkl : k ≤ len := by have := Int.emod_lt_of_pos c (b := (len : Int) + 1) (by omega); omega
    have hf := fun w => run_slice_front w a len cap k hkl hlc
    have hr := fun w => run_slice_cut w a len cap k hkl hlc
    go_enter Tryd.func4, Tryd.ntmps4
    go_wp2_with fail
    refine (new_any _).mono ?_
    rintro e w1 ⟨rfl, b1, hn⟩
    have HB1 := hide b1
    have HH1 := hide (hs_new hn)
    clear hn b1
    go_wp2_with fail
    refine (write_any w.heap.size [] (bs.take k) _ k cap _ HH1.out ((HB.out.front hkl).cut0.below HB1.out) (((HB.out.front hkl).cut0).off (Nat.le_refl _)) (by have := HC.out.lt; omega) (HC.out.below' HB1.out) (by simp; omega)).mono ?_
    rintro e w2 ⟨rfl, b2, hH2⟩
    have HB2 : Hid (Below w.heap.size w w2) := HB1.out.trans (b2.to_below HB1.out.size (Nat.le_refl _))
    have HH2 := hide hH2
    clear hH2 b2
    rw [List.nil_append] at HH2
    go_wp2_with fail
    refine (sumI w.heap.size (bs.take k) _ HH2.out (HC.out.below' HB2.out) (by rw [List.length_take]; omega)).mono ?_
    rintro e w3 ⟨g3, rfl, hI3, hg3, b3⟩
    have HB3 := hide (bthen HB2.out b3)
    have HI3 := hide hI3
    have HH3 := hide (HH2.out.below b3)
    have Hg3 := hide hg3
    clear hI3 hg3 b3
    go_wp2_with fail
    refine (write_any w.heap.size (bs.take k) (bs.drop k) _ (len - k) (cap - k) _ HH3.out ((HB.out.cut hkl).below HB3.out) ((HB.out.cut hkl).off (Nat.le_refl _)) (by have := HC.out.lt; omega) (HC.out.below' HB3.out) (by rw [List.length_take]; omega)).mono ?_
    rintro e w4 ⟨rfl, b4, hH4⟩
    rw [List.take_append_drop] at hH4
    have HB4 : Hid (Below w.heap.size w w4) := HB3.out.trans (b4.to_below HB3.out.size (Nat.le_refl _))
    have HI4 : Hid (IsB w4 (some ⟨g3, 0, none⟩) 32 32 (Dg.sha (bs.take k))) := HI3.out.but b4 (fun _ x hx => by cases hx; show g3 ≠ w.heap.size; have := Hg3.out; have := HH2.out.lt; omega)
    have HH4 := hide hH4
    clear hH4 b4
    go_wp2_with fail
    refine (known_any _ (HC.out.below' HB4.out)).mono ?_
    rintro e w5 ⟨rfl, b5⟩
    have HB5 := hide (bthen HB4.out b5)
    have HI5 := hide (HI4.out.below b5)
    have HH5 := hide (HH4.out.below b5)
    clear b5
    go_wp2_with fail
    refine (digestI (bs.take k) _ k cap _ ((HB.out.front hkl).cut0.below HB5.out) (HC.out.below' HB5.out) (by omega)).mono ?_
    rintro e w6 ⟨g6, rfl, hI6, hg6, b6⟩
    have HB6 := hide (bthen HB5.out b6)
    have HI6 := hide (HI5.out.below b6)
    have HJ6 := hide hI6
    have HH6 := hide (HH5.out.below b6)
    clear b6 hI6 hg6
    go_wp2_with fail
    refine (same_true (Dg.sha (bs.take k)) _ _ 32 32 32 _ HI6.out HJ6.out).mono ?_
    rintro e w7 ⟨rfl, b7⟩
    have HB7 := hide (bthen HB6.out b7)
    have HH7 := hide (HH6.out.below b7)
    clear b7
    go_wp2_with fail
    refine (sumI w.heap.size bs _ HH7.out (HC.out.below' HB7.out) (by rw [HL.out]; omega)).mono ?_
    rintro e w8 ⟨g8, rfl, hI8, hg8, b8'⟩
    have HB8 := hide (bthen HB7.out b8')
    have HI8 := hide hI8
    clear b8' hI8 hg8
    go_wp2_with fail
    refine (digestI bs _ len cap _ (HB.out.below HB8.out) (HC.out.below' HB8.out) (by omega)).mono ?_
    rintro e w9 ⟨g9, rfl, hI9, hg9, b9⟩
    have HB9 := hide (bthen HB8.out b9)
    have HI9 := hide (HI8.out.below b9)
    have HJ9 := hide hI9
    clear b9 hI9 hg9
    go_wp2_with fail
    refine (same_true (Dg.sha bs) _ _ 32 32 32 _ HI9.out HJ9.out).mono ?_
    rintro e w10 ⟨rfl, b10⟩
    go_wp2_with fail
    go_ret
    exact ⟨rfl, bthen HB9.out b10⟩
end Go.Proofs.YtckpcebifdhpeaaDoor
