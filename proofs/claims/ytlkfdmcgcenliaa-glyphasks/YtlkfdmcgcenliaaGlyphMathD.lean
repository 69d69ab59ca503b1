/-
  PLAIN LEAN: what is told between quotes.
-/
import Derived.Test.YtlkfdmcgcenliaaGlyphMathC
set_option linter.unusedVariables false
set_option linter.unusedSimpArgs false
namespace Go.Proofs.Ytlkfdmcgcenliaa.Gm

theorem fourTo_congr (l m : List UInt8) (h : ∀ j, j < 6 → nth m j = nth l j) : ∀ k, k ≤ 4 → fourTo m k = fourTo l k := by
  intro k
  induction k with
  | zero => intro _; rfl
  | succ k ih =>
    intro hk
    simp only [fourTo]
    rw [ih (by omega), h (2 + k) (by omega)]
theorem four_take {l : List UInt8} {a : Int} (m : Nat) (hm : 6 ≤ m) (h : four l = some a) : four (l.take m) = some a := by
  unfold four at h ⊢
  split at h
  · rename_i hc
    have hn : ∀ j, j < 6 → nth (l.take m) j = nth l j := fun j hj => nth_take _ _ _ (by omega)
    rw [if_pos ⟨by rw [List.length_take]; omega, by rw [hn 0 (by omega)]; exact hc.2.1, by rw [hn 1 (by omega)]; exact hc.2.2⟩, fourTo_congr l _ hn 4 (by omega)]
    exact h
  · cases h
theorem long_take {l : List UInt8} {r : Int} {n : Nat} (m : Nat) (hm : n ≤ m) (h : long l = some (r, n)) : long (l.take m) = some (r, n) := by
  have hn := (long_n h).1
  unfold long at h ⊢
  cases h4 : four l with
  | none => rw [h4] at h; cases h
  | some a =>
    rw [h4] at h
    rw [four_take m (by omega) h4]
    simp only at h ⊢
    by_cases hs : second a = true
    · rw [if_pos hs] at h; cases h
    · rw [if_neg hs] at h ⊢
      by_cases hf : (!first a) = true
      · rw [if_pos hf] at h ⊢; exact h
      · rw [if_neg hf] at h ⊢
        cases h5 : four (l.drop 6) with
        | none => rw [h5] at h; cases h
        | some b =>
          rw [h5] at h
          simp only at h
          by_cases hb : second b = true
          · rw [if_pos hb] at h
            have hn12 : n = 12 := by
              have := Option.some.inj h
              simp only [Prod.mk.injEq] at this
              omega
            have e : (l.take m).drop 6 = (l.drop 6).take (m - 6) := by rw [List.drop_take]
            rw [e, four_take (m - 6) (by omega) h5]
            simp only
            rw [if_pos hb]
            exact h
          · rw [if_neg hb] at h; cases h
theorem escape_take {l : List UInt8} {r : Int} {n : Nat} (m : Nat) (h0 : nth l 0 < 128) (hm : n ≤ m) (h : escape l = some (r, n)) : escape (l.take m) = some (r, n) := by
  have hn := escape_n h0 h
  have hl : ¬ l.length < 2 := by omega
  have hl2 : ¬ (l.take m).length < 2 := by rw [List.length_take]; omega
  have h1 : nth (l.take m) 1 = nth l 1 := nth_take _ _ _ (by omega)
  unfold escape at h ⊢
  rw [if_neg hl] at h
  rw [if_neg hl2, h1]
  by_cases c7 : nth l 1 = 117
  · rw [if_neg (by omega), if_neg (by omega), if_neg (by omega), if_neg (by omega), if_neg (by omega), if_neg (by omega), if_pos c7] at h ⊢
    exact long_take m hm h
  · by_cases c1 : nth l 1 = 34 ∨ nth l 1 = 92 ∨ nth l 1 = 47
    · rw [if_pos c1] at h ⊢; exact h
    rw [if_neg c1] at h ⊢
    by_cases c2 : nth l 1 = 98
    · rw [if_pos c2] at h ⊢; exact h
    rw [if_neg c2] at h ⊢
    by_cases c3 : nth l 1 = 102
    · rw [if_pos c3] at h ⊢; exact h
    rw [if_neg c3] at h ⊢
    by_cases c4 : nth l 1 = 110
    · rw [if_pos c4] at h ⊢; exact h
    rw [if_neg c4] at h ⊢
    by_cases c5 : nth l 1 = 114
    · rw [if_pos c5] at h ⊢; exact h
    rw [if_neg c5] at h ⊢
    by_cases c6 : nth l 1 = 116
    · rw [if_pos c6] at h ⊢; exact h
    rw [if_neg c6, if_neg c7] at h
    cases h
theorem piece_take {l : List UInt8} {r : Int} {n : Nat} (m : Nat) (hne : l ≠ []) (hm : width l n ≤ m) (h : piece l = some (r, n)) :
    piece (l.take m) = some (r, n) ∧ width (l.take m) n = width l n ∧ (dec (l.take m)).1 = (dec l).1 := by
  have hpn := piece_n hne h
  unfold piece at h
  unfold width at hm hpn ⊢
  by_cases h92 : (dec l).1 = 92
  · rw [if_pos h92] at h hm hpn
    have h0 := dec_92 (by omega) h92
    have hd : dec (l.take m) = (92, 1) := by
      rw [dec_ascii _ (by rw [nth_take _ _ _ (by omega)]; omega), nth_take _ _ _ (by omega), h0]
    refine ⟨?_, ?_, ?_⟩
    · unfold piece
      rw [hd, if_pos rfl]
      exact escape_take m (by omega) hm h
    · rw [hd, if_pos rfl, if_pos h92]
    · rw [hd, h92]
  · rw [if_neg h92] at h hm hpn
    by_cases hb : (dec l).1 < 32 ∨ bad l = true
    · rw [if_pos hb] at h; cases h
    · rw [if_neg hb] at h
      have hb2 : bad l = false := by
        cases hx : bad l with
        | true => exact absurd (Or.inr hx) hb
        | false => rfl
      obtain ⟨hd, hbm⟩ := dec_same l (l.take m) hb2 (by rw [List.length_take]; omega) (fun j hj => nth_take _ _ _ (by omega))
      refine ⟨?_, ?_, ?_⟩
      · unfold piece
        rw [hd, if_neg h92, if_neg (by rw [hbm]; rw [hb2] at hb; exact hb)]
        exact h
      · rw [hd]
      · rw [hd]
theorem long_ok {l : List UInt8} {r : Int} {n : Nat} (h : long l = some (r, n)) : okRune r := by
  unfold okRune
  unfold long at h
  cases h4 : four l with
  | none => rw [h4] at h; cases h
  | some a =>
    have hbd := (long_n (l := l) (r := r) (n := n) (by unfold long; exact h)).2.2.2
    rw [h4] at h
    simp only at h
    by_cases hs : second a = true
    · rw [if_pos hs] at h; cases h
    · rw [if_neg hs] at h
      have hs' : ¬ (56320 ≤ a ∧ a ≤ 57343) := by simpa [second] using hs
      by_cases hf : (!first a) = true
      · rw [if_pos hf] at h
        have hf' : a < 55296 ∨ 56319 < a := by simpa [first] using hf
        have := Option.some.inj h
        simp only [Prod.mk.injEq] at this
        omega
      · rw [if_neg hf] at h
        have hf' : 55296 ≤ a ∧ a ≤ 56319 := by simpa [first] using hf
        cases h5 : four (l.drop 6) with
        | none => rw [h5] at h; cases h
        | some b =>
          rw [h5] at h
          simp only at h
          by_cases hb : second b = true
          · rw [if_pos hb] at h
            have hb' : 56320 ≤ b ∧ b ≤ 57343 := by simpa [second] using hb
            have := Option.some.inj h
            simp only [Prod.mk.injEq] at this
            omega
          · rw [if_neg hb] at h; cases h
theorem escape_ok {l : List UInt8} {r : Int} {n : Nat} (h : escape l = some (r, n)) : okRune r := by
  have small : ∀ (x : Int), 0 ≤ x → x < 256 → some (x, 2) = some (r, n) → okRune r := by
    intro x h0 h1 e
    have := Option.some.inj e
    simp only [Prod.mk.injEq] at this
    unfold okRune
    omega
  unfold escape at h
  have hl := nth_lt l 1
  by_cases c0 : l.length < 2
  · rw [if_pos c0] at h; cases h
  rw [if_neg c0] at h
  by_cases c1 : nth l 1 = 34 ∨ nth l 1 = 92 ∨ nth l 1 = 47
  · rw [if_pos c1] at h; exact small _ (by omega) (by omega) h
  rw [if_neg c1] at h
  by_cases c2 : nth l 1 = 98
  · rw [if_pos c2] at h; exact small _ (by omega) (by omega) h
  rw [if_neg c2] at h
  by_cases c3 : nth l 1 = 102
  · rw [if_pos c3] at h; exact small _ (by omega) (by omega) h
  rw [if_neg c3] at h
  by_cases c4 : nth l 1 = 110
  · rw [if_pos c4] at h; exact small _ (by omega) (by omega) h
  rw [if_neg c4] at h
  by_cases c5 : nth l 1 = 114
  · rw [if_pos c5] at h; exact small _ (by omega) (by omega) h
  rw [if_neg c5] at h
  by_cases c6 : nth l 1 = 116
  · rw [if_pos c6] at h; exact small _ (by omega) (by omega) h
  rw [if_neg c6] at h
  by_cases c7 : nth l 1 = 117
  · rw [if_pos c7] at h; exact long_ok h
  rw [if_neg c7] at h
  cases h
theorem piece_ok {l : List UInt8} {r : Int} {n : Nat} (h : piece l = some (r, n)) : okRune r := by
  unfold piece at h
  by_cases h92 : (dec l).1 = 92
  · rw [if_pos h92] at h; exact escape_ok h
  · rw [if_neg h92] at h
    by_cases hb : (dec l).1 < 32 ∨ bad l = true
    · rw [if_pos hb] at h; cases h
    · rw [if_neg hb] at h
      have hb2 : bad l = false := by
        cases hx : bad l with
        | true => exact absurd (Or.inr hx) hb
        | false => rfl
      have := Option.some.inj h
      simp only [Prod.mk.injEq] at this
      rw [← this.1]
      exact dec_ok l hb2

/-- what is told: it ends in a quote, it is UTF-8, all ahead of the last quote is needed -/
theorem told_body : ∀ (n : Nat) (l t : List UInt8) (k : Nat), l.length ≤ n → unqL l = some (t, k) →
    1 ≤ k ∧ k ≤ l.length ∧ nth l (k - 1) = 34 ∧ check t = none ∧ unqL (l.take (k - 1)) = none ∧ t.length ≤ 4 * k := by
  intro n
  induction n with
  | zero =>
    intro l t k hn h
    have : l = [] := List.length_eq_zero_iff.1 (by omega)
    subst this
    cases h
  | succ n ih =>
    intro l t k hn h
    by_cases hl : l = []
    · subst hl; cases h
    · have hne := ne_nil_len hl
      have h' := h
      rw [unqL_eq l hl] at h
      by_cases h34 : (dec l).1 = 34
      · rw [if_pos h34] at h
        have := Option.some.inj h
        simp only [Prod.mk.injEq] at this
        obtain ⟨rfl, rfl⟩ := this
        exact ⟨by omega, by omega, dec_92 (by omega) h34, rfl, by simp [unqL_nil], by simp⟩
      · rw [if_neg h34] at h
        cases hp : piece l with
        | none => rw [hp] at h; cases h
        | some x =>
          obtain ⟨r, p⟩ := x
          rw [hp] at h
          simp only at h
          have hpn := piece_n hl hp
          cases hu : unqL (l.drop (width l p)) with
          | none => rw [hu] at h; cases h
          | some y =>
            obtain ⟨t', k'⟩ := y
            rw [hu] at h
            have := Option.some.inj h
            simp only [Prod.mk.injEq] at this
            obtain ⟨e1, e2⟩ := this
            obtain ⟨i1, i2, i3, i4, i5, i6⟩ := ih (l.drop (width l p)) t' k' (by rw [List.length_drop]; omega) hu
            rw [List.length_drop] at i2
            rw [nth_drop] at i3
            have hk1 : k - 1 = width l p + (k' - 1) := by omega
            have hk2 : k - 1 - width l p = k' - 1 := by omega
            refine ⟨by omega, by omega, ?_, ?_, ?_, ?_⟩
            · rw [hk1]; exact i3
            · rw [← e1, check_encode r (piece_ok hp), i4]; rfl
            · obtain ⟨p1, p2, p3⟩ := piece_take (k - 1) hl (by omega) hp
              have hne2 : l.take (k - 1) ≠ [] := by
                intro e
                have := congrArg List.length e
                rw [List.length_take, List.length_nil] at this
                omega
              rw [unqL_piece hne2 (by rw [p3]; exact h34) p1 p2]
              have e3 : (l.take (k - 1)).drop (width l p) = (l.drop (width l p)).take (k' - 1) := by
                rw [List.drop_take, hk2]
              rw [e3, i5]
              rfl
            · have hz := Lib.encodeRuneZ_length r
              have hz2 : (Lib.encodeRune r).length ≤ 4 := by unfold Lib.encodeRune; rw [List.length_map]; exact hz.2
              rw [← e1, List.length_append]
              omega

theorem told (q t : List UInt8) (n : Nat) (h : unquote q = some (t, n)) : 2 ≤ n ∧ n ≤ q.length ∧ nth q (n - 1) = 34 ∧ check t = none ∧ unquote (q.take (n - 1)) = none ∧ t.length ≤ 4 * n := by
  unfold unquote at h
  by_cases h34 : nth q 0 = 34
  · rw [if_pos h34] at h
    cases hu : unqL (q.drop 1) with
    | none => rw [hu] at h; cases h
    | some y =>
      obtain ⟨t', k⟩ := y
      rw [hu] at h
      have := Option.some.inj h
      simp only [Prod.mk.injEq] at this
      obtain ⟨rfl, rfl⟩ := this
      obtain ⟨i1, i2, i3, i4, i5, i6⟩ := told_body (q.drop 1).length (q.drop 1) t' k (Nat.le_refl _) hu
      rw [List.length_drop] at i2
      rw [nth_drop] at i3
      refine ⟨by omega, by omega, ?_, i4, ?_, by omega⟩
      · rw [show k + 1 - 1 = 1 + (k - 1) from by omega]; exact i3
      · unfold unquote
        rw [if_pos (by rw [nth_take _ _ _ (by omega)]; exact h34)]
        have e : (q.take (k + 1 - 1)).drop 1 = (q.drop 1).take (k - 1) := by
          rw [List.drop_take]
          congr 1
        rw [e, i5]
        rfl
  · rw [if_neg h34] at h; cases h

end Go.Proofs.Ytlkfdmcgcenliaa.Gm
