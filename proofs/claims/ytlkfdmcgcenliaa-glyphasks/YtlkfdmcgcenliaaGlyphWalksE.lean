/-
  THE WALKS over package glyph: escape, piece, escapeOf.
-/
import Derived.Test.YtlkfdmcgcenliaaGlyphWalksD
set_option linter.unusedVariables false
set_option linter.unusedSimpArgs false
namespace Go.Proofs.Ytlkfdmcgcenliaa
open Go.RowKit

theorem nth_of (s : ByteArray) (i : Nat) (h : i < s.size) : Gm.nth s.data.toList i = (s[i]'h).toNat := by
  unfold Gm.nth
  congr 1
  rw [List.getD_eq_getElem?_getD, List.getElem?_eq_getElem (by rw [← Lib.size_eq]; exact h)]
  rfl

theorem escape_short (s : ByteArray) (w : World) (h : s.size < 2) :
    Calls Try.prog 40 #[.string s] w fun e w' => e = pairR none ∧ Below w.heap.size w w' := by
  go_enter Try.func40, Try.ntmps40
  go_wp2
  go_ret2
  exact ⟨rfl, Below.refl _ _⟩

theorem escape_34 (s : ByteArray) (w : World) (h : 1 < s.size) (hs : s.size ≤ maxLen) (hc : (s[1]'h).toNat = 34) :
    Calls Try.prog 40 #[.string s] w fun e w' => e = pairR (some (34, 2)) ∧ Below w.heap.size w w' := by
  unfold maxLen at hs
  go_enter Try.func40, Try.ntmps40
  go_wp2
  go_ret2
  exact ⟨rfl, Below.refl _ _⟩
theorem escape_92 (s : ByteArray) (w : World) (h : 1 < s.size) (hs : s.size ≤ maxLen) (hc : (s[1]'h).toNat = 92) :
    Calls Try.prog 40 #[.string s] w fun e w' => e = pairR (some (92, 2)) ∧ Below w.heap.size w w' := by
  unfold maxLen at hs
  go_enter Try.func40, Try.ntmps40
  go_wp2
  go_ret2
  exact ⟨rfl, Below.refl _ _⟩
theorem escape_47 (s : ByteArray) (w : World) (h : 1 < s.size) (hs : s.size ≤ maxLen) (hc : (s[1]'h).toNat = 47) :
    Calls Try.prog 40 #[.string s] w fun e w' => e = pairR (some (47, 2)) ∧ Below w.heap.size w w' := by
  unfold maxLen at hs
  go_enter Try.func40, Try.ntmps40
  go_wp2
  go_ret2
  exact ⟨rfl, Below.refl _ _⟩
theorem escape_98 (s : ByteArray) (w : World) (h : 1 < s.size) (hs : s.size ≤ maxLen) (hc : (s[1]'h).toNat = 98) :
    Calls Try.prog 40 #[.string s] w fun e w' => e = pairR (some (8, 2)) ∧ Below w.heap.size w w' := by
  unfold maxLen at hs
  go_enter Try.func40, Try.ntmps40
  go_wp2
  go_ret2
  exact ⟨rfl, Below.refl _ _⟩
theorem escape_102 (s : ByteArray) (w : World) (h : 1 < s.size) (hs : s.size ≤ maxLen) (hc : (s[1]'h).toNat = 102) :
    Calls Try.prog 40 #[.string s] w fun e w' => e = pairR (some (12, 2)) ∧ Below w.heap.size w w' := by
  unfold maxLen at hs
  go_enter Try.func40, Try.ntmps40
  go_wp2
  go_ret2
  exact ⟨rfl, Below.refl _ _⟩
theorem escape_110 (s : ByteArray) (w : World) (h : 1 < s.size) (hs : s.size ≤ maxLen) (hc : (s[1]'h).toNat = 110) :
    Calls Try.prog 40 #[.string s] w fun e w' => e = pairR (some (10, 2)) ∧ Below w.heap.size w w' := by
  unfold maxLen at hs
  go_enter Try.func40, Try.ntmps40
  go_wp2
  go_ret2
  exact ⟨rfl, Below.refl _ _⟩
theorem escape_114 (s : ByteArray) (w : World) (h : 1 < s.size) (hs : s.size ≤ maxLen) (hc : (s[1]'h).toNat = 114) :
    Calls Try.prog 40 #[.string s] w fun e w' => e = pairR (some (13, 2)) ∧ Below w.heap.size w w' := by
  unfold maxLen at hs
  go_enter Try.func40, Try.ntmps40
  go_wp2
  go_ret2
  exact ⟨rfl, Below.refl _ _⟩
theorem escape_116 (s : ByteArray) (w : World) (h : 1 < s.size) (hs : s.size ≤ maxLen) (hc : (s[1]'h).toNat = 116) :
    Calls Try.prog 40 #[.string s] w fun e w' => e = pairR (some (9, 2)) ∧ Below w.heap.size w w' := by
  unfold maxLen at hs
  go_enter Try.func40, Try.ntmps40
  go_wp2
  go_ret2
  exact ⟨rfl, Below.refl _ _⟩
theorem escape_no (s : ByteArray) (w : World) (h : 1 < s.size) (hs : s.size ≤ maxLen) (c1 : ((s[1]'h).toNat : Int) ≠ 34) (c2 : ((s[1]'h).toNat : Int) ≠ 92) (c3 : ((s[1]'h).toNat : Int) ≠ 47) (c4 : ((s[1]'h).toNat : Int) ≠ 98) (c5 : ((s[1]'h).toNat : Int) ≠ 102) (c6 : ((s[1]'h).toNat : Int) ≠ 110) (c7 : ((s[1]'h).toNat : Int) ≠ 114) (c8 : ((s[1]'h).toNat : Int) ≠ 116) (c9 : ((s[1]'h).toNat : Int) ≠ 117) :
    Calls Try.prog 40 #[.string s] w fun e w' => e = pairR none ∧ Below w.heap.size w w' := by
  have hlt := (s[1]'h).toNat_lt
  unfold maxLen at hs
  go_enter Try.func40, Try.ntmps40
  go_wp2
  go_ret2
  exact ⟨rfl, Below.refl _ _⟩
theorem long_is (s : ByteArray) (o : Option (Int × Nat)) (w : World) (hs : s.size ≤ maxLen) (h : Gm.long s.data.toList = o) :
    Calls Try.prog 46 #[.string s] w fun e w' => e = pairR o ∧ Below w.heap.size w w' := by
  subst h; exact long_any s w hs
theorem pairR_eq (o : Option (Int × Nat)) : pairR o = .returned (.tuple #[.int .i32 (Gm.prRune o), .int .i64 (Gm.prLen o)]) := by
  cases o <;> rfl
theorem escape_117 (s : ByteArray) (w : World) (h : 1 < s.size) (hs : s.size ≤ maxLen) (hc : (s[1]'h).toNat = 117) :
    Calls Try.prog 40 #[.string s] w fun e w' => e = pairR (Gm.long s.data.toList) ∧ Below w.heap.size w w' := by
  have hs' := hs
  unfold maxLen at hs
  generalize ho : Gm.long s.data.toList = o
  have HO : Hid _ := ho
  clear ho
  rw [pairR_eq]
  go_enter Try.func40, Try.ntmps40
  go_wp2_with fail
  refine (long_is s o _ hs' HO.out).mono ?_
  rw [pairR_eq]
  rintro e w1 ⟨rfl, hb1⟩
  go_wp2
  go_ret2
  exact ⟨rfl, hb1⟩
theorem escape_any (s : ByteArray) (w : World) (hs : s.size ≤ maxLen) :
    Calls Try.prog 40 #[.string s] w fun e w' => e = pairR (Gm.escape s.data.toList) ∧ Below w.heap.size w w' := by
  by_cases h : 1 < s.size
  · have hn := nth_of s 1 h
    have hlen : ¬ s.data.toList.length < 2 := by rw [← Lib.size_eq]; omega
    unfold Gm.escape
    rw [if_neg hlen, hn]
    split
    · rename_i hc
      rcases hc with hc | hc | hc
      · rw [hc]; exact escape_34 s w h hs hc
      · rw [hc]; exact escape_92 s w h hs hc
      · rw [hc]; exact escape_47 s w h hs hc
    · rename_i h0
      split
      · exact escape_98 s w h hs (by assumption)
      split
      · exact escape_102 s w h hs (by assumption)
      split
      · exact escape_110 s w h hs (by assumption)
      split
      · exact escape_114 s w h hs (by assumption)
      split
      · exact escape_116 s w h hs (by assumption)
      split
      · exact escape_117 s w h hs (by assumption)
      exact escape_no s w h hs (by omega) (by omega) (by omega) (by omega) (by omega) (by omega) (by omega) (by omega) (by omega)
  · have hlen : s.data.toList.length < 2 := by rw [← Lib.size_eq]; omega
    unfold Gm.escape
    rw [if_pos hlen]
    exact escape_short s w (by omega)

/-- piece, at the front of what stands from 'pos' on, with the rune that the range told -/
theorem piece_any (s : ByteArray) (pos : Nat) (w : World) (hs : s.size ≤ maxLen) :
    Calls Try.prog 32 #[.string (s.extract pos s.size), .int .i32 (Utf8.decode s pos).1] w fun e w' => e = pairR (Gm.piece (s.data.toList.drop pos)) ∧ Below w.heap.size w w' := by
  have hs2 : (s.extract pos s.size).size ≤ maxLen := by unfold maxLen at *; simp [ByteArray.size_extract]; omega
  have hd := Gm.dec_eq s pos
  have he := toList_drop_end s pos
  unfold Gm.piece
  rw [← hd, ← he]
  by_cases h92 : (Utf8.decode s pos).1 = 92
  · rw [if_pos h92]
    generalize ho : Gm.escape (s.extract pos s.size).data.toList = o
    have HO : Hid _ := ho
    clear ho hd he
    rw [pairR_eq]
    go_enter Try.func32, Try.ntmps32
    go_wp2_with fail
    refine (escape_any _ _ hs2).mono ?_
    rw [HO.out, pairR_eq]
    rintro e w1 ⟨rfl, hb1⟩
    go_wp2
    go_ret2
    exact ⟨rfl, hb1⟩
  · rw [if_neg h92]
    by_cases h32 : (Utf8.decode s pos).1 < 32
    · rw [if_pos (Or.inl h32)]
      clear hd he
      go_enter Try.func32, Try.ntmps32
      go_wp2
      go_ret2
      exact ⟨rfl, Below.refl _ _⟩
    · cases hb : Gm.bad (s.extract pos s.size).data.toList with
      | true =>
        rw [if_pos (Or.inr rfl)]
        have HB : Hid (Gm.bad (s.data.toList.drop pos) = true) := by rw [← he]; exact hb
        clear hd he hb
        go_enter Try.func32, Try.ntmps32
        go_wp2_with fail
        refine (broken_dec s pos _ true HB.out).mono ?_
        rintro e w1 ⟨rfl, rfl⟩
        go_wp2
        go_ret2
        exact ⟨rfl, Below.refl _ _⟩
      | false =>
        rw [if_neg (by simp; omega)]
        have HB : Hid (Gm.bad (s.data.toList.drop pos) = false) := by rw [← he]; exact hb
        clear hd he hb
        go_enter Try.func32, Try.ntmps32
        go_wp2_with fail
        refine (broken_dec s pos _ false HB.out).mono ?_
        rintro e w1 ⟨rfl, rfl⟩
        go_wp2
        go_ret2
        exact ⟨rfl, Below.refl _ _⟩

end Go.Proofs.Ytlkfdmcgcenliaa
