/-
  PLAIN LEAN: there and back.
-/
import Derived.Test.YtlkfdmcgcenliaaGlyphMathB
set_option linter.unusedVariables false
set_option linter.unusedSimpArgs false
namespace Go.Proofs.Ytlkfdmcgcenliaa.Gm

theorem four_cons {a b c d : UInt8} {da db dc dd : Int} (x : List UInt8) (ha : digit a.toNat = some da) (hb : digit b.toNat = some db) (hc : digit c.toNat = some dc) (hd : digit d.toNat = some dd) :
    four (92 :: 117 :: a :: b :: c :: d :: x) = some (((da * 16 + db) * 16 + dc) * 16 + dd) := by
  unfold four
  rw [if_pos ⟨by simp, rfl, rfl⟩]
  have e1 := fourTo_step (92 :: 117 :: a :: b :: c :: d :: x) 0 0 da rfl ha
  have e2 := fourTo_step (92 :: 117 :: a :: b :: c :: d :: x) 1 _ db e1 hb
  have e3 := fourTo_step (92 :: 117 :: a :: b :: c :: d :: x) 2 _ dc e2 hc
  have e4 := fourTo_step (92 :: 117 :: a :: b :: c :: d :: x) 3 _ dd e3 hd
  rw [e4]
  congr 1
  omega
theorem digit_hexd : ∀ k ∈ List.range 16, digit (hexd k).toNat = some (k : Int) := by decide
theorem digit_hexd' (k : Nat) (h : k < 16) : digit (hexd k).toNat = some (k : Int) := digit_hexd k (List.mem_range.2 h)

theorem unqL_piece {l : List UInt8} {r : Int} {n w : Nat} (hne : l ≠ []) (h34 : (dec l).1 ≠ 34) (hp : piece l = some (r, n)) (hw : width l n = w) :
    unqL l = (unqL (l.drop w)).map fun x => (Lib.encodeRune r ++ x.1, x.2 + w) := by
  rw [unqL_eq l hne, if_neg h34, hp]
  simp only
  rw [hw]
theorem unqL_none {l : List UInt8} (hne : l ≠ []) (h34 : (dec l).1 ≠ 34) (hp : piece l = none) : unqL l = none := by
  rw [unqL_eq l hne, if_neg h34, hp]
theorem unqL_quote (x : List UInt8) : unqL (34 :: x) = some ([], 1) := by
  rw [unqL_eq _ (by simp), if_pos (by rw [dec_ascii _ (by rw [nth_cons_zero]; decide)]; rfl)]
theorem encode_ascii (c : UInt8) (h : c.toNat < 128) : Lib.encodeRune (c.toNat : Int) = [c] := by
  unfold Lib.encodeRune
  rw [Lib.encodeRuneZ_one (by omega) (by omega)]
  simp
theorem dec_back (x : List UInt8) : dec (92 :: x) = (92, 1) := dec_ascii _ (by rw [nth_cons_zero]; decide)

/-- an escape of one sign -/
theorem unqL_short (k c : UInt8) (hc : c.toNat < 128) (x : List UInt8) (he : escape (92 :: k :: x) = some ((c.toNat : Int), 2)) :
    unqL (92 :: k :: x) = (unqL x).map fun y => (c :: y.1, y.2 + 2) := by
  have hd := dec_back (k :: x)
  have hp : piece (92 :: k :: x) = some ((c.toNat : Int), 2) := by unfold piece; rw [hd, if_pos rfl, he]
  have hw : width (92 :: k :: x) 2 = 2 := by unfold width; rw [hd, if_pos rfl]
  rw [unqL_piece (by simp) (by rw [hd]; simp) hp hw, encode_ascii c hc]
  rfl
theorem unqL_long {l : List UInt8} {r : Int} {n : Nat} (h : ∃ t, l = 92 :: 117 :: t) (he : long l = some (r, n)) :
    unqL l = (unqL (l.drop n)).map fun y => (Lib.encodeRune r ++ y.1, y.2 + n) := by
  obtain ⟨t, rfl⟩ := h
  have hd := dec_back (117 :: t)
  have hes : escape (92 :: 117 :: t) = long (92 :: 117 :: t) := by
    unfold escape
    rw [if_neg (by simp), nth_cons_succ, nth_cons_zero]
    rfl
  have hp : piece (92 :: 117 :: t) = some (r, n) := by unfold piece; rw [hd, if_pos rfl, hes, he]
  have hw : width (92 :: 117 :: t) n = n := by unfold width; rw [hd, if_pos rfl]
  exact unqL_piece (by simp) (by rw [hd]; simp) hp hw

theorem esc_kinds (c : UInt8) (h : c.toNat < 128) :
    (c = 34 ∨ c = 92 ∨ c = 8 ∨ c = 9 ∨ c = 10 ∨ c = 12 ∨ c = 13) ∨
    (c.toNat < 32 ∧ esc c = [92, 117, 48, 48, hexd (c.toNat / 16), hexd (c.toNat % 16)]) ∨
    (32 ≤ c.toNat ∧ c ≠ 34 ∧ c ≠ 92 ∧ esc c = [c]) := by
  by_cases h1 : c = 34 ∨ c = 92 ∨ c = 8 ∨ c = 9 ∨ c = 10 ∨ c = 12 ∨ c = 13
  · exact Or.inl h1
  · right
    have n34 : ¬ c.toNat = 34 := fun e => h1 (by have : c = 34 := UInt8.toNat_inj.1 e; simp [this])
    have n92 : ¬ c.toNat = 92 := fun e => h1 (by have : c = 92 := UInt8.toNat_inj.1 e; simp [this])
    have n8 : ¬ c.toNat = 8 := fun e => h1 (by have : c = 8 := UInt8.toNat_inj.1 e; simp [this])
    have n9 : ¬ c.toNat = 9 := fun e => h1 (by have : c = 9 := UInt8.toNat_inj.1 e; simp [this])
    have n10 : ¬ c.toNat = 10 := fun e => h1 (by have : c = 10 := UInt8.toNat_inj.1 e; simp [this])
    have n12 : ¬ c.toNat = 12 := fun e => h1 (by have : c = 12 := UInt8.toNat_inj.1 e; simp [this])
    have n13 : ¬ c.toNat = 13 := fun e => h1 (by have : c = 13 := UInt8.toNat_inj.1 e; simp [this])
    by_cases h32 : c.toNat < 32
    · left
      refine ⟨h32, ?_⟩
      have he : escOf (c.toNat : Int) = [92, 117, 48, 48, hexd (c.toNat / 16), hexd (c.toNat % 16)] := by
        unfold escOf
        rw [if_neg (by omega), if_neg (by omega), if_neg (by omega), if_neg (by omega), if_neg (by omega), if_neg (by omega), if_neg (by omega), if_neg (by omega)]
        rfl
      rw [esc_some c (by rw [he]; simp), he]
    · right
      refine ⟨by omega, fun e => h1 (by simp [e]), fun e => h1 (by simp [e]), esc_plain c ?_⟩
      unfold escOf
      rw [if_neg (by omega), if_neg (by omega), if_neg (by omega), if_neg (by omega), if_neg (by omega), if_neg (by omega), if_neg (by omega), if_pos (by omega)]

theorem esc_step (c : UInt8) (h : c.toNat < 128) (x : List UInt8) : unqL (esc c ++ x) = (unqL x).map fun y => (c :: y.1, y.2 + (esc c).length) := by
  rcases esc_kinds c h with h1 | ⟨h1, h2⟩ | ⟨h1, h2, h3, h4⟩
  · rcases h1 with rfl | rfl | rfl | rfl | rfl | rfl | rfl
    · exact unqL_short 34 34 h x rfl
    · exact unqL_short 92 92 h x rfl
    · exact unqL_short 98 8 h x rfl
    · exact unqL_short 116 9 h x rfl
    · exact unqL_short 110 10 h x rfl
    · exact unqL_short 102 12 h x rfl
    · exact unqL_short 114 13 h x rfl
  · rw [h2]
    have hf : four (92 :: 117 :: 48 :: 48 :: hexd (c.toNat / 16) :: hexd (c.toNat % 16) :: x) = some (c.toNat : Int) := by
      have d0 : digit ((48 : UInt8).toNat : Int) = some 0 := by decide
      rw [four_cons x d0 d0 (digit_hexd' (c.toNat / 16) (by omega)) (digit_hexd' (c.toNat % 16) (by omega))]
      congr 1
      omega
    have hl : long (92 :: 117 :: 48 :: 48 :: hexd (c.toNat / 16) :: hexd (c.toNat % 16) :: x) = some ((c.toNat : Int), 6) := by
      unfold long
      rw [hf]
      have s1 : second (c.toNat : Int) = false := by simp [second]; omega
      have s2 : first (c.toNat : Int) = false := by simp [first]; omega
      simp [s1, s2]
    have := unqL_long ⟨_, rfl⟩ hl
    show unqL (92 :: 117 :: 48 :: 48 :: hexd (c.toNat / 16) :: hexd (c.toNat % 16) :: x) = _
    rw [this, encode_ascii c h]
    rfl
  · rw [h4]
    show unqL (c :: x) = _
    have hd : dec (c :: x) = (c.toNat, 1) := dec_ascii _ (by rw [nth_cons_zero]; exact h)
    have hb : bad (c :: x) = false := bad_S1 (by unfold S1; rw [nth_cons_zero]; exact h)
    have m92 : c.toNat ≠ 92 := fun e => h3 (UInt8.toNat_inj.1 e)
    have m34 : c.toNat ≠ 34 := fun e => h2 (UInt8.toNat_inj.1 e)
    have hp : piece (c :: x) = some ((c.toNat : Int), 1) := by
      unfold piece
      rw [hd, if_neg m92, if_neg (by simp [hb]; omega)]
    have hw : width (c :: x) 1 = 1 := by unfold width; rw [hd, if_neg m92]
    rw [unqL_piece (by simp) (by rw [hd]; exact m34) hp hw, encode_ascii c h]
    rfl

/-- a rune that is not of one byte, whatever stands behind -/
theorem high_step (l x : List UInt8) (hl : l ≠ []) (hb : bad l = false) (h0 : 128 ≤ nth l 0) :
    unqL (l.take (dec l).2 ++ x) = (unqL x).map fun y => (l.take (dec l).2 ++ y.1, y.2 + (dec l).2) := by
  have hw := dec_w l
  have hwl := dec_w_len l hl
  have htl : (l.take (dec l).2).length = (dec l).2 := by rw [List.length_take]; omega
  have hsame := dec_same l (l.take (dec l).2 ++ x) hb (by rw [List.length_append, htl]; omega) (fun j hj => by rw [nth_append_left _ _ _ (by omega), nth_take _ _ _ hj])
  obtain ⟨hd, hb2⟩ := hsame
  have hh := dec_high l h0
  have hne : l.take (dec l).2 ++ x ≠ [] := by
    intro e
    have := congrArg List.length e
    rw [List.length_append, htl] at this
    simp at this
    omega
  have hp : piece (l.take (dec l).2 ++ x) = some (((dec l).1 : Int), 1) := by
    unfold piece
    rw [hd, if_neg (by omega), if_neg (by rw [hb2]; simp; omega)]
  have hwd : width (l.take (dec l).2 ++ x) 1 = (dec l).2 := by unfold width; rw [hd, if_neg (by omega)]
  rw [unqL_piece hne (by rw [hd]; omega) hp hwd, encode_dec l hl hb]
  congr 1
  rw [List.drop_append_of_le_length (by omega)]
  rw [List.drop_of_length_le (by omega)]
  rfl

/-- bytes of 128 and above stand in what is quoted where they stood -/
theorem body_high (x : List UInt8) (hx : nth x 0 < 128) : ∀ (l : List UInt8) (j : Nat), (∀ i, i ≤ j → 128 ≤ nth (l.flatMap esc ++ x) i) → j < l.length ∧ nth l j = nth (l.flatMap esc ++ x) j := by
  intro l
  induction l with
  | nil =>
    intro j h
    have := h 0 (by omega)
    simp at this
    omega
  | cons c t ih =>
    intro j h
    by_cases hc : c.toNat < 128
    · have h0 := h 0 (by omega)
      exfalso
      rw [List.flatMap_cons, List.append_assoc] at h0
      rcases esc_kinds c hc with h1 | ⟨h1, h2⟩ | ⟨h1, h2, h3, h4⟩
      · have : ∃ k, esc c = [92, k] := by
          rcases h1 with rfl | rfl | rfl | rfl | rfl | rfl | rfl
          · exact ⟨34, rfl⟩
          · exact ⟨92, rfl⟩
          · exact ⟨98, rfl⟩
          · exact ⟨116, rfl⟩
          · exact ⟨110, rfl⟩
          · exact ⟨102, rfl⟩
          · exact ⟨114, rfl⟩
        obtain ⟨k, e⟩ := this
        rw [e] at h0
        have : nth ([92, k] ++ (t.flatMap esc ++ x)) 0 = 92 := rfl
        omega
      · rw [h2] at h0
        have : nth ([92, 117, 48, 48, hexd (c.toNat / 16), hexd (c.toNat % 16)] ++ (t.flatMap esc ++ x)) 0 = 92 := rfl
        omega
      · rw [h4] at h0
        have : nth ([c] ++ (t.flatMap esc ++ x)) 0 = c.toNat := rfl
        omega
    · have he : esc c = [c] := esc_plain c (escOf_high _ (by omega))
      rw [List.flatMap_cons, he] at h ⊢
      cases j with
      | zero => exact ⟨by simp, rfl⟩
      | succ j =>
        have := ih j (fun i hi => by have := h (i + 1) (by omega); exact this)
        exact ⟨by simp; omega, this.2⟩

theorem body_bad (l x : List UInt8) (hx : nth x 0 < 128) (hl : l ≠ []) (hb : bad l = true) : bad (l.flatMap esc ++ x) = true ∧ 128 ≤ nth (l.flatMap esc ++ x) 0 := by
  have h0 : 128 ≤ nth l 0 := by
    by_cases g : nth l 0 < 128
    · rw [bad_S1 g] at hb; cases hb
    · omega
  have hb0 : nth (l.flatMap esc ++ x) 0 = nth l 0 := by
    cases l with
    | nil => exact absurd rfl hl
    | cons c t =>
      rw [nth_cons_zero] at h0
      have he : esc c = [c] := esc_plain c (escOf_high _ (by omega))
      rw [List.flatMap_cons, he]
      rfl
  refine ⟨?_, by omega⟩
  cases hb2 : bad (l.flatMap esc ++ x) with
  | true => rfl
  | false =>
    exfalso
    have hbytes := dec_bytes (l.flatMap esc ++ x) (by omega)
    have hw := dec_w (l.flatMap esc ++ x)
    have key : ∀ j, j < (dec (l.flatMap esc ++ x)).2 → j < l.length ∧ nth l j = nth (l.flatMap esc ++ x) j := fun j hj => body_high x hx l j (fun i hi => hbytes i (by omega))
    have hlast := key ((dec (l.flatMap esc ++ x)).2 - 1) (by omega)
    have := dec_same (l.flatMap esc ++ x) l hb2 (by omega) (fun j hj => (key j hj).2)
    rw [this.2] at hb
    cases hb

theorem back_body (x : List UInt8) : ∀ (n : Nat) (l : List UInt8), l.length ≤ n →
    (check l = none → unqL (l.flatMap esc ++ 34 :: x) = some (l, (l.flatMap esc).length + 1)) ∧
    (check l ≠ none → unqL (l.flatMap esc ++ 34 :: x) = none) := by
  intro n
  induction n with
  | zero =>
    intro l hn
    have : l = [] := List.length_eq_zero_iff.1 (by omega)
    subst this
    exact ⟨fun _ => unqL_quote x, fun h => absurd rfl h⟩
  | succ n ih =>
    intro l hn
    by_cases hl : l = []
    · subst hl; exact ⟨fun _ => unqL_quote x, fun h => absurd rfl h⟩
    · cases hb : bad l with
      | true =>
        refine ⟨fun h => (by rw [check_bad hl hb] at h; cases h), fun _ => ?_⟩
        obtain ⟨h1, h2⟩ := body_bad l (34 :: x) (by rw [nth_cons_zero]; decide) hl hb
        have hh := dec_high _ h2
        have hp : piece (l.flatMap esc ++ 34 :: x) = none := by
          unfold piece
          rw [if_neg (by omega), if_pos (Or.inr h1)]
        exact unqL_none (by simp) (by omega) hp
      | false =>
        have hw := dec_w l
        have hwl := dec_w_len l hl
        rw [check_good hl hb]
        obtain ⟨i1, i2⟩ := ih (l.drop (dec l).2) (by rw [List.length_drop]; omega)
        by_cases h0 : nth l 0 < 128
        · cases l with
          | nil => exact absurd rfl hl
          | cons c t =>
            rw [nth_cons_zero] at h0
            have hd : dec (c :: t) = (c.toNat, 1) := dec_ascii _ (by rw [nth_cons_zero]; exact h0)
            rw [hd] at i1 i2 ⊢
            simp only [List.drop_succ_cons, List.drop_zero] at i1 i2 ⊢
            rw [List.flatMap_cons, List.append_assoc, esc_step c h0]
            constructor
            · intro hc
              rw [i1 (by simpa using hc)]
              simp
              omega
            · intro hc
              rw [i2 (by simpa using hc)]
              rfl
        · have hpl := plain_rune l (escOf_high _ (by have := dec_high l (by omega); omega))
          have hsplit : l.flatMap esc = l.take (dec l).2 ++ (l.drop (dec l).2).flatMap esc := by
            conv => lhs; rw [← List.take_append_drop (dec l).2 l]
            rw [List.flatMap_append, flat_plain _ hpl]
          rw [hsplit, List.append_assoc, high_step l _ hl hb (by omega)]
          constructor
          · intro hc
            rw [i1 (by simpa using hc)]
            simp
            rw [Nat.min_eq_left hwl]
            omega
          · intro hc
            rw [i2 (by simpa using hc)]
            rfl

/-- THERE AND BACK -/
theorem back (l more : List UInt8) (h : check l = none) : unquote (quote l ++ more) = some (l, (quote l).length) := by
  unfold unquote quote
  rw [if_pos (show nth (34 :: (l.flatMap esc ++ [34]) ++ more) 0 = 34 from rfl)]
  have := (back_body more l.length l (Nat.le_refl _)).1 h
  simp only [List.cons_append, List.append_assoc, List.drop_succ_cons, List.drop_zero, List.nil_append]
  rw [this]
  simp
theorem back_no (l more : List UInt8) (h : check l ≠ none) : unquote (quote l ++ more) = none := by
  unfold unquote quote
  rw [if_pos (show nth (34 :: (l.flatMap esc ++ [34]) ++ more) 0 = 34 from rfl)]
  have := (back_body more l.length l (Nat.le_refl _)).2 h
  simp only [List.cons_append, List.append_assoc, List.drop_succ_cons, List.drop_zero, List.nil_append]
  rw [this]
  rfl
theorem quote_len (l : List UInt8) : l.length + 2 ≤ (quote l).length := by
  have key : ∀ m : List UInt8, m.length ≤ (m.flatMap esc).length := by
    intro m
    induction m with
    | nil => simp
    | cons a m ih =>
      rw [List.flatMap_cons, List.length_append, List.length_cons]
      have : 1 ≤ (esc a).length := by
        unfold esc
        split
        · simp
        · rename_i hne
          cases hx : escOf a.toNat with
          | nil => exact absurd hx hne
          | cons _ _ => simp
      omega
  have := key l
  unfold quote
  rw [List.length_cons, List.length_append, List.length_singleton]
  omega
theorem checkZ_neg (l : List UInt8) : checkZ l < 0 ↔ check l = none := by
  unfold checkZ
  cases check l with
  | none => simp
  | some n => simp

end Go.Proofs.Ytlkfdmcgcenliaa.Gm
