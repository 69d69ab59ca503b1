/-
  THE WALKS over package glyph: escapes and pieces.
-/
import Derived.Test.YtlkfdmcgcenliaaGlyphWalksC
set_option linter.unusedVariables false
set_option linter.unusedSimpArgs false
namespace Go.Proofs.Ytlkfdmcgcenliaa
open Go.RowKit

theorem four_some (s : ByteArray) (n : Int) (w : World) (hs : s.size ≤ maxLen) (h : Gm.four s.data.toList = some n) :
    Calls Try.prog 49 #[.string s] w fun e w' => e = .returned (.tuple #[.int .i32 n, .bool true]) ∧ Below w.heap.size w w' := by
  refine (four_any s w hs).mono ?_
  rintro e w' ⟨rfl, hb⟩
  rw [h]
  exact ⟨rfl, hb⟩
theorem four_none (s : ByteArray) (w : World) (hs : s.size ≤ maxLen) (h : Gm.four s.data.toList = none) :
    Calls Try.prog 49 #[.string s] w fun e w' => e = .returned (.tuple #[.int .i32 0, .bool false]) ∧ Below w.heap.size w w' := by
  refine (four_any s w hs).mono ?_
  rintro e w' ⟨rfl, hb⟩
  rw [h]
  exact ⟨rfl, hb⟩
theorem second_is (r : Int) (b : Bool) (w : World) (h : Gm.second r = b) :
    Calls Try.prog 50 #[.int .i32 r] w fun e w' => e = .returned (.bool b) ∧ w' = w := by
  subst h; exact second_any r w
theorem first_is (r : Int) (b : Bool) (w : World) (h : Gm.first r = b) :
    Calls Try.prog 51 #[.int .i32 r] w fun e w' => e = .returned (.bool b) ∧ w' = w := by
  subst h; exact first_any r w
theorem four_bd {l : List UInt8} {n : Int} (h : Gm.four l = some n) : 0 ≤ n ∧ n < 65536 ∧ 6 ≤ l.length := by
  unfold Gm.four at h
  split at h
  · rename_i hc
    have := Gm.fourTo_bd l 4 n (by omega) h
    have e : (16 : Int) ^ 4 = 65536 := by decide
    omega
  · cases h

def pairR (o : Option (Int × Nat)) : Ending := match o with
  | none => .returned (.tuple #[.int .i32 0, .int .i64 0])
  | some x => .returned (.tuple #[.int .i32 x.1, .int .i64 x.2])

set_option maxHeartbeats 1000000 in
theorem long_any (s : ByteArray) (w : World) (hs : s.size ≤ maxLen) :
    Calls Try.prog 46 #[.string s] w fun e w' => e = pairR (Gm.long s.data.toList) ∧ Below w.heap.size w w' := by
  cases h4 : Gm.four s.data.toList with
  | none =>
    have e : Gm.long s.data.toList = none := by unfold Gm.long; rw [h4]
    rw [e]
    have H4 : Hid _ := h4
    clear h4 e
    go_enter Try.func46, Try.ntmps46
    go_wp2_with fail
    refine (four_none _ _ hs H4.out).mono ?_
    rintro e w1 ⟨rfl, hb1⟩
    go_wp2
    go_ret2
    exact ⟨rfl, hb1⟩
  | some a =>
    obtain ⟨ha0, ha1, hl6⟩ := four_bd h4
    rw [← Lib.size_eq] at hl6
    cases hsec : Gm.second a with
    | true =>
      have e : Gm.long s.data.toList = none := by unfold Gm.long; rw [h4]; simp [hsec]
      rw [e]
      have H4 : Hid _ := h4
      have HS : Hid _ := hsec
      clear h4 e hsec
      go_enter Try.func46, Try.ntmps46
      go_wp2_with fail
      refine (four_some _ a _ hs H4.out).mono ?_
      rintro e w1 ⟨rfl, hb1⟩
      go_wp2_with fail
      refine (second_is a true _ HS.out).mono ?_
      rintro e w1 ⟨rfl, rfl⟩
      go_wp2
      go_ret2
      exact ⟨rfl, hb1⟩
    | false =>
      cases hfst : Gm.first a with
      | false =>
        have e : Gm.long s.data.toList = some (a, 6) := by unfold Gm.long; rw [h4]; simp [hsec, hfst]
        rw [e]
        have H4 : Hid _ := h4
        have HS : Hid _ := hsec
        have HF : Hid _ := hfst
        clear h4 e hsec hfst
        go_enter Try.func46, Try.ntmps46
        go_wp2_with fail
        refine (four_some _ a _ hs H4.out).mono ?_
        rintro e w1 ⟨rfl, hb1⟩
        go_wp2_with fail
        refine (second_is a false _ HS.out).mono ?_
        rintro e w1 ⟨rfl, rfl⟩
        go_wp2_with fail
        refine (first_is a false _ HF.out).mono ?_
        rintro e w1 ⟨rfl, rfl⟩
        go_wp2
        go_ret2
        exact ⟨rfl, hb1⟩
      | true =>
        have hfb : 55296 ≤ a ∧ a ≤ 56319 := by simpa [Gm.first] using hfst
        obtain ⟨hf1, hf2⟩ := hfb
        have hs2 : (s.extract 6 s.size).size ≤ maxLen := by unfold maxLen at *; simp [ByteArray.size_extract]; omega
        have hdat := toList_drop_end s 6
        cases h42 : Gm.four (s.data.toList.drop 6) with
        | none =>
          have e : Gm.long s.data.toList = none := by unfold Gm.long; rw [h4]; simp [hsec, hfst, h42]
          rw [e]
          have H4 : Hid _ := h4
          have HS : Hid _ := hsec
          have HF : Hid _ := hfst
          have H5 : Hid (Gm.four (s.extract 6 s.size).data.toList = none) := by rw [hdat]; exact h42
          clear h4 e hsec hfst h42 hdat
          go_enter Try.func46, Try.ntmps46
          go_wp2_with fail
          refine (four_some _ a _ hs H4.out).mono ?_
          rintro e w1 ⟨rfl, hb1⟩
          go_wp2_with fail
          refine (second_is a false _ HS.out).mono ?_
          rintro e w1 ⟨rfl, rfl⟩
          go_wp2_with fail
          refine (first_is a true _ HF.out).mono ?_
          rintro e w1 ⟨rfl, rfl⟩
          go_wp2_with fail
          refine (four_none _ _ hs2 H5.out).mono ?_
          rintro e w2 ⟨rfl, hb2⟩
          go_wp2
          go_ret2
          exact ⟨rfl, hb1.trans (hb2.mono hb1.size)⟩
        | some b =>
          obtain ⟨hb0, hb1', _⟩ := four_bd h42
          cases hsec2 : Gm.second b with
          | false =>
            have e : Gm.long s.data.toList = none := by unfold Gm.long; rw [h4]; simp [hsec, hfst, h42, hsec2]
            rw [e]
            have H4 : Hid _ := h4
            have HS : Hid _ := hsec
            have HF : Hid _ := hfst
            have HS2 : Hid _ := hsec2
            have H5 : Hid (Gm.four (s.extract 6 s.size).data.toList = some b) := by rw [hdat]; exact h42
            clear h4 e hsec hfst h42 hdat hsec2
            go_enter Try.func46, Try.ntmps46
            go_wp2_with fail
            refine (four_some _ a _ hs H4.out).mono ?_
            rintro e w1 ⟨rfl, hb1⟩
            go_wp2_with fail
            refine (second_is a false _ HS.out).mono ?_
            rintro e w1 ⟨rfl, rfl⟩
            go_wp2_with fail
            refine (first_is a true _ HF.out).mono ?_
            rintro e w1 ⟨rfl, rfl⟩
            go_wp2_with fail
            refine (four_some _ b _ hs2 H5.out).mono ?_
            rintro e w2 ⟨rfl, hb2⟩
            go_wp2_with fail
            refine (second_is b false _ HS2.out).mono ?_
            rintro e w2 ⟨rfl, rfl⟩
            go_wp2
            go_ret2
            exact ⟨rfl, hb1.trans (hb2.mono hb1.size)⟩
          | true =>
            have hsb : 56320 ≤ b ∧ b ≤ 57343 := by simpa [Gm.second] using hsec2
            obtain ⟨hs1, hs3⟩ := hsb
            have e : Gm.long s.data.toList = some (65536 + (a - 55296) * 1024 + (b - 56320), 12) := by unfold Gm.long; rw [h4]; simp [hsec, hfst, h42, hsec2]
            rw [e]
            have H4 : Hid _ := h4
            have HS : Hid _ := hsec
            have HF : Hid _ := hfst
            have HS2 : Hid _ := hsec2
            have H5 : Hid (Gm.four (s.extract 6 s.size).data.toList = some b) := by rw [hdat]; exact h42
            clear h4 e hsec hfst h42 hdat hsec2
            go_enter Try.func46, Try.ntmps46
            go_wp2_with fail
            refine (four_some _ a _ hs H4.out).mono ?_
            rintro e w1 ⟨rfl, hb1⟩
            go_wp2_with fail
            refine (second_is a false _ HS.out).mono ?_
            rintro e w1 ⟨rfl, rfl⟩
            go_wp2_with fail
            refine (first_is a true _ HF.out).mono ?_
            rintro e w1 ⟨rfl, rfl⟩
            go_wp2_with fail
            refine (four_some _ b _ hs2 H5.out).mono ?_
            rintro e w2 ⟨rfl, hb2⟩
            go_wp2_with fail
            refine (second_is b true _ HS2.out).mono ?_
            rintro e w2 ⟨rfl, rfl⟩
            go_wp2
            go_ret2
            exact ⟨rfl, hb1.trans (hb2.mono hb1.size)⟩

end Go.Proofs.Ytlkfdmcgcenliaa
