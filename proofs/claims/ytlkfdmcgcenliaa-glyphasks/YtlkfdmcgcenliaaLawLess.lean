/-
  THE WALK over the law GlyphLess.
-/
import Derived.Test.YtlkfdmcgcenliaaLawText
set_option linter.unusedVariables false
set_option linter.unusedSimpArgs false
namespace Go.Proofs.Ytlkfdmcgcenliaa
open Go.RowKit

theorem lt_irr (l : List UInt8) : Op.bytesLess l l = false := by
  induction l with
  | nil => rfl
  | cons a l ih => simp [Op.bytesLess, ih]
theorem lt_front (f a b : List UInt8) : Op.bytesLess (f ++ a) (f ++ b) = Op.bytesLess a b := by
  induction f with
  | nil => rfl
  | cons c f ih => simp [Op.bytesLess, ih]
theorem lt_snoc (a : List UInt8) (c : UInt8) : Op.bytesLess a (a ++ [c]) = true := by
  induction a with
  | nil => rfl
  | cons x a ih => simp [Op.bytesLess, ih]
theorem lt_tri (a b : List UInt8) : (a = b) ∨ (Op.bytesLess a b = true ∧ Op.bytesLess b a = false ∧ (a == b) = false) ∨ (Op.bytesLess a b = false ∧ Op.bytesLess b a = true ∧ (a == b) = false) := by
  induction a generalizing b with
  | nil =>
    cases b with
    | nil => left; rfl
    | cons y b => right; left; simp [Op.bytesLess]
  | cons x a ih =>
    cases b with
    | nil => right; right; simp [Op.bytesLess]
    | cons y b =>
      by_cases hxy : x = y
      · subst hxy
        rcases ih b with h | ⟨h1, h2, h3⟩ | ⟨h1, h2, h3⟩
        · left; rw [h]
        · right; left; refine ⟨?_, ?_, ?_⟩
          · simp [Op.bytesLess, h1]
          · simp [Op.bytesLess, h2]
          · simpa using h3
        · right; right; refine ⟨?_, ?_, ?_⟩
          · simp [Op.bytesLess, h1]
          · simp [Op.bytesLess, h2]
          · simpa using h3
      · have hne : x.toNat ≠ y.toNat := fun e => hxy (UInt8.toNat_inj.1 e)
        have hb1 : (x == y) = false := by simpa using hxy
        have hb2 : (y == x) = false := by simp; exact fun e => hxy e.symm
        by_cases hlt : x.toNat < y.toNat
        · right; left
          have l1 : decide (x < y) = true := by simp [UInt8.lt_iff_toNat_lt]; omega
          have l2 : decide (y < x) = false := by simp [UInt8.le_iff_toNat_le]; omega
          refine ⟨by simp only [Op.bytesLess, l1, Bool.true_or], by simp only [Op.bytesLess, l2, hb2, Bool.false_and, Bool.or_false], by simp [hxy]⟩
        · right; right
          have l1 : decide (x < y) = false := by simp [UInt8.le_iff_toNat_le]; omega
          have l2 : decide (y < x) = true := by simp [UInt8.lt_iff_toNat_lt]; omega
          refine ⟨by simp only [Op.bytesLess, l1, hb1, Bool.false_and, Bool.or_false], by simp only [Op.bytesLess, l2, Bool.true_or], by simp [hxy]⟩
theorem toList_append (a b : ByteArray) : (a ++ b).toList = a.toList ++ b.toList := by
  rw [Lib.toList_data, Lib.toList_data, Lib.toList_data, ByteArray.data_append]
  simp

theorem glyphLess_walk (a0 : Option Addr) (len0 cap0 : Nat) (z0 : List Int) (a1 : Option Addr) (len1 cap1 : Nat) (z1 : List Int) (F : ByteArray) (w : World) (w0 : IsRow .u8 w a0 len0 cap0 z0) (w1 : IsRow .u8 w a1 len1 cap1 z1) (w2 : F.size ≤ maxLen) :
    Calls Try.prog 7 #[.slice a0 len0 cap0, .slice a1 len1 cap1, .string F] w fun e w' => e = .returned (.bool true) ∧ Below w.heap.size w w' := by
  have hA := Gm.pick_text_le z0 (min len0 40)
  have hB := Gm.pick_text_le z1 (min len1 40)
  have hf1 := flatten_size (Gm.pick Gm.textTab z0 (min len0 40))
  have hf2 := flatten_size (Gm.pick Gm.textTab z1 (min len1 40))
  unfold maxLen at w2
  go_enter Try.func7, Try.ntmps7
  go_wp2_with fail
  refine (text_any a0 len0 cap0 z0 _ w0).mono ?_
  rintro e W1 ⟨rfl, b1⟩
  go_wp2_with fail
  refine (text_any a1 len1 cap1 z1 _ (w1.below b1)).mono ?_
  rintro e W2 ⟨rfl, b2⟩
  have hbel : Below w.heap.size w W2 := b1.trans (b2.mono b1.size)
  generalize (⟨(Gm.pick Gm.textTab z0 (min len0 40)).toArray⟩ : ByteArray) = A at *
  generalize (⟨(Gm.pick Gm.textTab z1 (min len1 40)).toArray⟩ : ByteArray) = B at *
  have hAs : A.size ≤ 160 := by omega
  have hBs : B.size ≤ 160 := by omega
  clear hA hB hf1 hf2 w0 w1 b1 b2
  by_cases h50 : 50 < F.size
  · have h50' : (50 : Int) < F.size := by omega
    go_wp2_with fail
    refine (known_any _).mono ?_
    rintro e W3 ⟨rfl, b3⟩
    go_wp2
    go_ret
    exact ⟨rfl, hbel.trans (b3.mono hbel.size)⟩
  · have h50' : ¬ (50 : Int) < F.size := by omega
    have hfr : Op.bytesLess (F ++ A).toList (F ++ B).toList = Op.bytesLess A.toList B.toList := by rw [toList_append, toList_append, lt_front]
    have hsn : Op.bytesLess A.toList (A ++ ⟨#[97]⟩).toList = true := by
      rw [toList_append, Lib.toList_data ⟨#[97]⟩]
      exact lt_snoc _ _
    have hru : Gm.runes A.data.toList ≤ A.size := by rw [Lib.size_eq]; exact Gm.runes_le _
    have HFR : Hid _ := hfr
    have HSN : Hid _ := hsn
    clear hfr hsn
    rcases lt_tri A.toList B.toList with h | ⟨h1, h2, h3⟩ | ⟨h1, h2, h3⟩
    · have h1 : Op.bytesLess A.toList B.toList = false := by rw [h]; exact lt_irr _
      have h2 : Op.bytesLess B.toList A.toList = false := by rw [h]; exact lt_irr _
      have h3 : (A.toList == B.toList) = true := by rw [h]; simp
      clear h
      have H1 : Hid _ := h1
      have H2 : Hid _ := h2
      clear h1 h2
      go_wp2_with fail
      refine (less_is _ _ _ _ H1.out).mono ?_
      rintro e W2 ⟨rfl, rfl⟩
      go_wp2_with fail
      refine (less_is _ _ _ _ H2.out).mono ?_
      rintro e W2 ⟨rfl, rfl⟩
      go_wp2_with fail
      refine (known_any _).mono ?_
      rintro e W3 ⟨rfl, b3⟩
      go_wp2_with fail
      refine (less_is _ _ false _ (by rw [HFR.out]; exact H1.out)).mono ?_
      rintro e W3 ⟨rfl, rfl⟩
      go_wp2_with fail
      refine (less_is _ _ _ _ H1.out).mono ?_
      rintro e W3 ⟨rfl, rfl⟩
      go_wp2_with fail
      refine (less_is _ _ _ _ HSN.out).mono ?_
      rintro e W3 ⟨rfl, rfl⟩
      go_wp2_with fail
      refine (runes_any _ _ (by unfold maxLen; omega)).mono ?_
      rintro e W4 ⟨rfl, b4⟩
      go_wp2
      go_ret
      exact ⟨rfl, (hbel.trans (b3.mono hbel.size)).trans (b4.mono (Nat.le_trans hbel.size b3.size))⟩
    · have H1 : Hid _ := h1
      have H2 : Hid _ := h2
      clear h1 h2
      go_wp2_with fail
      refine (less_is _ _ _ _ H1.out).mono ?_
      rintro e W2 ⟨rfl, rfl⟩
      go_wp2_with fail
      refine (less_is _ _ _ _ H2.out).mono ?_
      rintro e W2 ⟨rfl, rfl⟩
      go_wp2_with fail
      refine (known_any _).mono ?_
      rintro e W3 ⟨rfl, b3⟩
      go_wp2_with fail
      refine (less_is _ _ true _ (by rw [HFR.out]; exact H1.out)).mono ?_
      rintro e W3 ⟨rfl, rfl⟩
      go_wp2_with fail
      refine (less_is _ _ _ _ H1.out).mono ?_
      rintro e W3 ⟨rfl, rfl⟩
      go_wp2_with fail
      refine (less_is _ _ _ _ HSN.out).mono ?_
      rintro e W3 ⟨rfl, rfl⟩
      go_wp2_with fail
      refine (runes_any _ _ (by unfold maxLen; omega)).mono ?_
      rintro e W4 ⟨rfl, b4⟩
      go_wp2
      go_ret
      exact ⟨rfl, (hbel.trans (b3.mono hbel.size)).trans (b4.mono (Nat.le_trans hbel.size b3.size))⟩
    · have H1 : Hid _ := h1
      have H2 : Hid _ := h2
      clear h1 h2
      go_wp2_with fail
      refine (less_is _ _ _ _ H1.out).mono ?_
      rintro e W2 ⟨rfl, rfl⟩
      go_wp2_with fail
      refine (less_is _ _ _ _ H2.out).mono ?_
      rintro e W2 ⟨rfl, rfl⟩
      go_wp2_with fail
      refine (known_any _).mono ?_
      rintro e W3 ⟨rfl, b3⟩
      go_wp2_with fail
      refine (less_is _ _ false _ (by rw [HFR.out]; exact H1.out)).mono ?_
      rintro e W3 ⟨rfl, rfl⟩
      go_wp2_with fail
      refine (less_is _ _ _ _ H1.out).mono ?_
      rintro e W3 ⟨rfl, rfl⟩
      go_wp2_with fail
      refine (less_is _ _ _ _ HSN.out).mono ?_
      rintro e W3 ⟨rfl, rfl⟩
      go_wp2_with fail
      refine (runes_any _ _ (by unfold maxLen; omega)).mono ?_
      rintro e W4 ⟨rfl, b4⟩
      go_wp2
      go_ret
      exact ⟨rfl, (hbel.trans (b3.mono hbel.size)).trans (b4.mono (Nat.le_trans hbel.size b3.size))⟩

end Go.Proofs.Ytlkfdmcgcenliaa
