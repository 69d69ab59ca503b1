/-
  PLAIN LEAN: there and back; what is told is UTF-8.
-/
import Derived.Test.YtlkfdmcgcenliaaGlyphMath
set_option linter.unusedVariables false
set_option linter.unusedSimpArgs false
namespace Go.Proofs.Ytlkfdmcgcenliaa.Gm

theorem nth_cons_zero (c : UInt8) (t : List UInt8) : nth (c :: t) 0 = c.toNat := rfl
theorem nth_cons_succ (c : UInt8) (t : List UInt8) (i : Nat) : nth (c :: t) (i + 1) = nth t i := rfl
theorem nth_append_left (a b : List UInt8) (i : Nat) (h : i < a.length) : nth (a ++ b) i = nth a i := by
  unfold nth; congr 1; simp [List.getD_eq_getElem?_getD, List.getElem?_append_left h]
theorem nth_append_right (a b : List UInt8) (i : Nat) : nth (a ++ b) (a.length + i) = nth b i := by
  unfold nth; congr 1; rw [List.getD_eq_getElem?_getD, List.getD_eq_getElem?_getD, List.getElem?_append_right (by omega)]; congr 2; omega
theorem nth_out (l : List UInt8) (i : Nat) (h : l.length ≤ i) : nth l i = 0 := by
  unfold nth; rw [List.getD_eq_getElem?_getD, List.getElem?_eq_none h]; rfl
theorem ne_nil_len {l : List UInt8} (h : l ≠ []) : 1 ≤ l.length := by
  cases l with | nil => exact absurd rfl h | cons _ _ => simp

def S1 (l : List UInt8) : Prop := nth l 0 < 128
def S2 (l : List UInt8) : Prop := nth l 0 / 32 = 6 ∧ 1 < l.length ∧ nth l 1 / 64 = 2 ∧ 128 ≤ nth l 0 % 32 * 64 + nth l 1 % 64
def c3 (l : List UInt8) : Nat := nth l 0 % 16 * 4096 + nth l 1 % 64 * 64 + nth l 2 % 64
def S3 (l : List UInt8) : Prop := nth l 0 / 16 = 14 ∧ 2 < l.length ∧ nth l 1 / 64 = 2 ∧ nth l 2 / 64 = 2 ∧ 2048 ≤ c3 l ∧ (c3 l < 55296 ∨ 57344 ≤ c3 l)
def c4 (l : List UInt8) : Nat := nth l 0 % 8 * 262144 + nth l 1 % 64 * 4096 + nth l 2 % 64 * 64 + nth l 3 % 64
def S4 (l : List UInt8) : Prop := nth l 0 / 8 = 30 ∧ 3 < l.length ∧ nth l 1 / 64 = 2 ∧ nth l 2 / 64 = 2 ∧ nth l 3 / 64 = 2 ∧ 65536 ≤ c4 l ∧ c4 l ≤ 1114111

theorem dec_S2 {l : List UInt8} (h : S2 l) : dec l = (nth l 0 % 32 * 64 + nth l 1 % 64, 2) := by
  obtain ⟨h0, h1, h2, h3⟩ := h
  unfold dec Lib.decodeN
  rw [if_neg (by omega), if_pos ⟨h0, h1, h2⟩, if_pos (by omega)]
theorem dec_S3 {l : List UInt8} (h : S3 l) : dec l = (c3 l, 3) := by
  obtain ⟨h0, h1, h2, h3, h4, h5⟩ := h
  have l0 := nth_lt l 0
  unfold c3 at *
  unfold dec Lib.decodeN
  rw [if_neg (by omega), if_neg (by omega), if_pos ⟨h0, ⟨by omega, h2⟩, h1, h3⟩, if_pos ⟨by omega, by omega⟩]
theorem dec_S4 {l : List UInt8} (h : S4 l) : dec l = (c4 l, 4) := by
  obtain ⟨h0, h1, h2, h3, h4, h5, h6⟩ := h
  have l0 := nth_lt l 0
  unfold c4 at *
  unfold dec Lib.decodeN
  rw [if_neg (by omega), if_neg (by omega), if_neg (by omega), if_pos ⟨h0, ⟨by omega, h2⟩, ⟨by omega, h3⟩, h1, h4⟩, if_pos ⟨by omega, by omega⟩]
theorem dec_cases (l : List UInt8) (hb : bad l = false) : S1 l ∨ S2 l ∨ S3 l ∨ S4 l := by
  have hb' : ¬ dec l = (65533, 1) := by simpa [bad] using hb
  unfold dec Lib.decodeN at hb'
  unfold S1 S2 S3 S4 c3 c4
  by_cases g1 : nth l 0 < 128
  · left; exact g1
  · rw [if_neg g1] at hb'
    by_cases g2 : nth l 0 / 32 = 6 ∧ (1 < l.length ∧ nth l 1 / 64 = 2)
    · rw [if_pos g2] at hb'
      split at hb'
      · right; left; omega
      · exact absurd rfl hb'
    · rw [if_neg g2] at hb'
      split at hb'
      · split at hb'
        · right; right; left; omega
        · exact absurd rfl hb'
      · split at hb'
        · split at hb'
          · right; right; right; omega
          · exact absurd rfl hb'
        · exact absurd rfl hb'
theorem bad_of_dec {l : List UInt8} {r w : Nat} (h : dec l = (r, w)) (hw : w ≠ 1 ∨ r ≠ 65533) : bad l = false := by
  unfold bad
  rw [h]
  simp
  omega
theorem bad_S1 {l : List UInt8} (h : S1 l) : bad l = false := bad_of_dec (dec_ascii l h) (by unfold S1 at h; omega)
theorem bad_S2 {l : List UInt8} (h : S2 l) : bad l = false := bad_of_dec (dec_S2 h) (by omega)
theorem bad_S3 {l : List UInt8} (h : S3 l) : bad l = false := bad_of_dec (dec_S3 h) (by omega)
theorem bad_S4 {l : List UInt8} (h : S4 l) : bad l = false := bad_of_dec (dec_S4 h) (by omega)

/-- what a rune is told by are its own bytes alone -/
theorem dec_same (l m : List UInt8) (hb : bad l = false) (hlen : (dec l).2 ≤ m.length) (hj : ∀ j, j < (dec l).2 → nth m j = nth l j) : dec m = dec l ∧ bad m = false := by
  have main : dec m = dec l := by
    rcases dec_cases l hb with h | h | h | h
    · have e := dec_ascii l h
      rw [e] at hlen hj ⊢
      have h0 := hj 0 (by simp)
      unfold S1 at h
      rw [dec_ascii m (by omega), h0]
    · have e := dec_S2 h
      rw [e] at hlen hj ⊢
      have h0 := hj 0 (by simp)
      have h1 := hj 1 (by simp)
      unfold S2 at h
      simp only at hlen
      have hm : S2 m := by unfold S2; rw [h0, h1]; omega
      rw [dec_S2 hm, h0, h1]
    · have e := dec_S3 h
      rw [e] at hlen hj ⊢
      have h0 := hj 0 (by simp)
      have h1 := hj 1 (by simp)
      have h2 := hj 2 (by simp)
      unfold S3 at h
      simp only at hlen
      have ec : c3 m = c3 l := by unfold c3; rw [h0, h1, h2]
      have hm : S3 m := by unfold S3; rw [h0, h1, h2, ec]; omega
      rw [dec_S3 hm, ec]
    · have e := dec_S4 h
      rw [e] at hlen hj ⊢
      have h0 := hj 0 (by simp)
      have h1 := hj 1 (by simp)
      have h2 := hj 2 (by simp)
      have h3 := hj 3 (by simp)
      unfold S4 at h
      simp only at hlen
      have ec : c4 m = c4 l := by unfold c4; rw [h0, h1, h2, h3]
      have hm : S4 m := by unfold S4; rw [h0, h1, h2, h3, ec]; omega
      rw [dec_S4 hm, ec]
  refine ⟨main, ?_⟩
  unfold bad at hb ⊢
  rw [main]; exact hb

/-- a number that a rune may have -/
def okRune (r : Int) : Prop := (0 ≤ r ∧ r < 55296) ∨ (57344 ≤ r ∧ r ≤ 1114111)
theorem dec_ok (l : List UInt8) (hb : bad l = false) : okRune (dec l).1 := by
  unfold okRune
  have l0 := nth_lt l 0
  have l1 := nth_lt l 1
  have l2 := nth_lt l 2
  rcases dec_cases l hb with h | h | h | h
  · rw [dec_ascii l h]; unfold S1 at h; simp only; omega
  · rw [dec_S2 h]; unfold S2 at h; simp only; omega
  · rw [dec_S3 h]; unfold S3 at h; simp only; unfold c3 at *; omega
  · rw [dec_S4 h]; unfold S4 at h; simp only; omega

theorem byte_of_nth (l : List UInt8) (i : Nat) : (nth l i).toUInt8 = l.getD i 0 := by
  unfold nth
  simp
theorem take_nth (l : List UInt8) : ∀ n, n ≤ l.length → l.take n = (List.range n).map fun i => l.getD i 0 := by
  intro n hn
  apply List.ext_getElem?
  intro i
  by_cases hi : i < n
  · rw [List.getElem?_take, if_pos hi, List.getElem?_map, List.getElem?_range hi]
    simp [List.getD_eq_getElem?_getD, List.getElem?_eq_getElem (show i < l.length by omega)]
  · rw [List.getElem?_eq_none (by simp; omega), List.getElem?_eq_none (by simp; omega)]

/-- the bytes of a rune are its own -/
theorem encode_dec (l : List UInt8) (hl : l ≠ []) (hb : bad l = false) : Lib.encodeRune (dec l).1 = l.take (dec l).2 := by
  have hlen := dec_w_len l hl
  rw [take_nth l _ hlen]
  have l0 := nth_lt l 0
  have l1 := nth_lt l 1
  have l2 := nth_lt l 2
  have l3 := nth_lt l 3
  unfold Lib.encodeRune
  rcases dec_cases l hb with h | h | h | h
  · rw [dec_ascii l h]
    unfold S1 at h
    rw [Lib.encodeRuneZ_one (by omega) (by omega)]
    simp only [List.map_cons, List.map_nil, List.range_succ, List.range_zero, List.nil_append]
    rw [← byte_of_nth]
    congr 1
  · rw [dec_S2 h]
    unfold S2 at h
    rw [Lib.encodeRuneZ_two (by simp only; omega) (by simp only; omega)]
    simp only [List.map_cons, List.map_nil, List.range_succ, List.range_zero, List.nil_append, List.cons_append]
    rw [← byte_of_nth l 0, ← byte_of_nth l 1]
    congr 2
    · omega
    · congr 1; omega
  · have hh := h
    unfold S3 at h
    have hc : c3 l = nth l 0 % 16 * 4096 + nth l 1 % 64 * 64 + nth l 2 % 64 := rfl
    rw [dec_S3 hh]
    rw [Lib.encodeRuneZ_three (by simp only; omega)]
    simp only [List.map_cons, List.map_nil, List.range_succ, List.range_zero, List.nil_append, List.cons_append]
    have e0 : ((224 : Int) + ((c3 l : Nat) : Int) / 4096).toNat = nth l 0 := by omega
    have e1 : ((128 : Int) + ((c3 l : Nat) : Int) / 64 % 64).toNat = nth l 1 := by omega
    have e2 : ((128 : Int) + ((c3 l : Nat) : Int) % 64).toNat = nth l 2 := by omega
    rw [e0, e1, e2, byte_of_nth, byte_of_nth, byte_of_nth]
  · have hh := h
    unfold S4 at h
    have hc : c4 l = nth l 0 % 8 * 262144 + nth l 1 % 64 * 4096 + nth l 2 % 64 * 64 + nth l 3 % 64 := rfl
    rw [dec_S4 hh]
    rw [Lib.encodeRuneZ_four (by simp only; omega) (by simp only; omega)]
    simp only [List.map_cons, List.map_nil, List.range_succ, List.range_zero, List.nil_append, List.cons_append]
    have e0 : ((240 : Int) + ((c4 l : Nat) : Int) / 262144).toNat = nth l 0 := by omega
    have e1 : ((128 : Int) + ((c4 l : Nat) : Int) / 4096 % 64).toNat = nth l 1 := by omega
    have e2 : ((128 : Int) + ((c4 l : Nat) : Int) / 64 % 64).toNat = nth l 2 := by omega
    have e3 : ((128 : Int) + ((c4 l : Nat) : Int) % 64).toNat = nth l 3 := by omega
    rw [e0, e1, e2, e3, byte_of_nth, byte_of_nth, byte_of_nth, byte_of_nth]

/-- each rune's own bytes tell it, whatever stands behind -/
theorem dec_encode (r : Int) (hr : okRune r) (x : List UInt8) : dec (Lib.encodeRune r ++ x) = (r.toNat, (Lib.encodeRune r).length) ∧ bad (Lib.encodeRune r ++ x) = false := by
  unfold okRune at hr
  have tb : ∀ z : Int, 0 ≤ z → z < 256 → (z.toNat.toUInt8).toNat = z.toNat := by intro z h0 h1; simp; omega
  unfold Lib.encodeRune
  by_cases g1 : r ≤ 127
  · rw [Lib.encodeRuneZ_one (by omega) g1]
    simp only [List.map_cons, List.map_nil, List.cons_append, List.nil_append, List.length_cons, List.length_nil]
    have n0 : nth (r.toNat.toUInt8 :: x) 0 = r.toNat := by rw [nth_cons_zero, tb _ (by omega) (by omega)]
    have hs : S1 (r.toNat.toUInt8 :: x) := by unfold S1; omega
    exact ⟨by rw [dec_ascii _ hs, n0], bad_S1 hs⟩
  · by_cases g2 : r ≤ 2047
    · rw [Lib.encodeRuneZ_two (by omega) g2]
      simp only [List.map_cons, List.map_nil, List.cons_append, List.nil_append, List.length_cons, List.length_nil]
      generalize hl : ((192 + r / 64).toNat.toUInt8 :: (128 + r % 64).toNat.toUInt8 :: x) = l
      have n0 : nth l 0 = (192 + r / 64).toNat := by rw [← hl, nth_cons_zero, tb _ (by omega) (by omega)]
      have n1 : nth l 1 = (128 + r % 64).toNat := by rw [← hl, nth_cons_succ, nth_cons_zero, tb _ (by omega) (by omega)]
      have hlen : 2 ≤ l.length := by rw [← hl]; simp
      have hs : S2 l := by unfold S2; rw [n0, n1]; omega
      exact ⟨by rw [dec_S2 hs, n0, n1]; simp only [Prod.mk.injEq, and_true]; omega, bad_S2 hs⟩
    · by_cases g3 : r ≤ 65535
      · rw [Lib.encodeRuneZ_three (by omega)]
        simp only [List.map_cons, List.map_nil, List.cons_append, List.nil_append, List.length_cons, List.length_nil]
        generalize hl : ((224 + r / 4096).toNat.toUInt8 :: (128 + r / 64 % 64).toNat.toUInt8 :: (128 + r % 64).toNat.toUInt8 :: x) = l
        have n0 : nth l 0 = (224 + r / 4096).toNat := by rw [← hl, nth_cons_zero, tb _ (by omega) (by omega)]
        have n1 : nth l 1 = (128 + r / 64 % 64).toNat := by rw [← hl, nth_cons_succ, nth_cons_zero, tb _ (by omega) (by omega)]
        have n2 : nth l 2 = (128 + r % 64).toNat := by rw [← hl, nth_cons_succ, nth_cons_succ, nth_cons_zero, tb _ (by omega) (by omega)]
        have hlen : 3 ≤ l.length := by rw [← hl]; simp
        have hc : c3 l = r.toNat := by unfold c3; rw [n0, n1, n2]; omega
        have hs : S3 l := by unfold S3; rw [hc, n0, n1, n2]; omega
        exact ⟨by rw [dec_S3 hs, hc], bad_S3 hs⟩
      · rw [Lib.encodeRuneZ_four (by omega) (by omega)]
        simp only [List.map_cons, List.map_nil, List.cons_append, List.nil_append, List.length_cons, List.length_nil]
        generalize hl : ((240 + r / 262144).toNat.toUInt8 :: (128 + r / 4096 % 64).toNat.toUInt8 :: (128 + r / 64 % 64).toNat.toUInt8 :: (128 + r % 64).toNat.toUInt8 :: x) = l
        have n0 : nth l 0 = (240 + r / 262144).toNat := by rw [← hl, nth_cons_zero, tb _ (by omega) (by omega)]
        have n1 : nth l 1 = (128 + r / 4096 % 64).toNat := by rw [← hl, nth_cons_succ, nth_cons_zero, tb _ (by omega) (by omega)]
        have n2 : nth l 2 = (128 + r / 64 % 64).toNat := by rw [← hl, nth_cons_succ, nth_cons_succ, nth_cons_zero, tb _ (by omega) (by omega)]
        have n3 : nth l 3 = (128 + r % 64).toNat := by rw [← hl, nth_cons_succ, nth_cons_succ, nth_cons_succ, nth_cons_zero, tb _ (by omega) (by omega)]
        have hlen : 4 ≤ l.length := by rw [← hl]; simp
        have hc : c4 l = r.toNat := by unfold c4; rw [n0, n1, n2, n3]; omega
        have hs : S4 l := by unfold S4; rw [hc, n0, n1, n2, n3]; omega
        exact ⟨by rw [dec_S4 hs, hc], bad_S4 hs⟩

/-! ### Check and Runes of two texts, one behind the other -/
theorem check_bad {l : List UInt8} (h : l ≠ []) (hb : bad l = true) : check l = some 0 := by rw [check_eq l h, hb]; rfl
theorem check_good {l : List UInt8} (h : l ≠ []) (hb : bad l = false) : check l = (check (l.drop (dec l).2)).map (fun n => n + (dec l).2) := by rw [check_eq l h, hb]; rfl
theorem step_append (a s : List UInt8) (ha : a ≠ []) (hb : bad a = false) : dec (a ++ s) = dec a ∧ bad (a ++ s) = false ∧ (a ++ s).drop (dec a).2 = a.drop (dec a).2 ++ s := by
  have hwl := dec_w_len a ha
  have h := dec_same a (a ++ s) hb (by rw [List.length_append]; omega) (fun j hj => nth_append_left a s j (by omega))
  exact ⟨h.1, h.2, by rw [List.drop_append_of_le_length hwl]⟩
theorem check_append : ∀ (n : Nat) (a s : List UInt8), a.length ≤ n → check a = none → check (a ++ s) = (check s).map (fun k => k + a.length) ∧ runes (a ++ s) = runes a + runes s := by
  intro n
  induction n with
  | zero =>
    intro a s hn hc
    have : a = [] := List.length_eq_zero_iff.1 (by omega)
    subst this
    simp [runes_nil]
  | succ n ih =>
    intro a s hn hc
    by_cases ha : a = []
    · subst ha; simp [runes_nil]
    · cases hb : bad a with
      | true => rw [check_bad ha hb] at hc; cases hc
      | false =>
        have hw := dec_w a
        have hwl := dec_w_len a ha
        obtain ⟨e1, e2, e3⟩ := step_append a s ha hb
        have hne : a ++ s ≠ [] := by simp [ha]
        rw [check_good ha hb] at hc
        have hc2 : check (a.drop (dec a).2) = none := by simpa using hc
        obtain ⟨i1, i2⟩ := ih (a.drop (dec a).2) s (by rw [List.length_drop]; omega) hc2
        constructor
        · rw [check_good hne e2, e1, e3, i1, Option.map_map]
          congr 1
          funext k
          simp only [Function.comp, List.length_drop]
          omega
        · rw [runes_eq _ hne, e1, e3, i2, runes_eq a ha]
          omega
theorem check_lt (l : List UInt8) (k : Nat) (h : check l = some k) : k < l.length := by
  have main : ∀ (n : Nat) (l : List UInt8) (k : Nat), l.length ≤ n → check l = some k → k < l.length := by
    intro n
    induction n with
    | zero =>
      intro l k hn h
      have : l = [] := List.length_eq_zero_iff.1 (by omega)
      subst this; cases h
    | succ n ih =>
      intro l k hn h
      by_cases hl : l = []
      · subst hl; cases h
      · have hne := ne_nil_len hl
        have hw := dec_w l
        have hwl := dec_w_len l hl
        cases hb : bad l with
        | true => rw [check_bad hl hb] at h; have := Option.some.inj h; omega
        | false =>
          rw [check_good hl hb] at h
          cases hc : check (l.drop (dec l).2) with
          | none => rw [hc] at h; cases h
          | some j =>
            rw [hc] at h
            have := Option.some.inj h
            have h2 := ih _ j (by rw [List.length_drop]; omega) hc
            rw [List.length_drop] at h2
            simp only at this
            omega
  exact main l.length l k (Nat.le_refl _) h
theorem check_encode (r : Int) (hr : okRune r) (x : List UInt8) : check (Lib.encodeRune r ++ x) = (check x).map (fun k => k + (Lib.encodeRune r).length) := by
  obtain ⟨h1, h2⟩ := dec_encode r hr x
  have hne : Lib.encodeRune r ++ x ≠ [] := by
    have := Lib.encodeRuneZ_length r
    intro e
    have e2 := congrArg List.length e
    simp [Lib.encodeRune] at e2
    have e3 := e2.1
    rw [e3] at this
    simp at this
  rw [check_good hne h2, h1]
  simp

end Go.Proofs.Ytlkfdmcgcenliaa.Gm
