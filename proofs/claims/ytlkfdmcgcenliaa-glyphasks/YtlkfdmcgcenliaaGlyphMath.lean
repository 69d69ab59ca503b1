/-
  PLAIN LEAN: what the functions of package glyph compute, over lists of bytes, and the facts that their walks want. No program is named here.
-/
import Derived.Lib.DecodeN
import Derived.Lib.RuneBytes
import Derived.Lib.Strings
import Derived.Laws.RangeString
set_option linter.unusedVariables false
set_option linter.unusedSimpArgs false
namespace Go.Proofs.Ytlkfdmcgcenliaa.Gm

def nth (l : List UInt8) (i : Nat) : Nat := (l.getD i 0).toNat
def dec (l : List UInt8) : Nat × Nat := Lib.decodeN l.length (nth l 0) (nth l 1) (nth l 2) (nth l 3)
def bad (l : List UInt8) : Bool := decide (dec l = (65533, 1))

theorem nth_lt (l : List UInt8) (i : Nat) : nth l i < 256 := by
  unfold nth; exact UInt8.toNat_lt _
theorem get!_nth (s : ByteArray) (i j : Nat) : (s.get! (i + j)).toNat = nth (s.data.toList.drop i) j := by
  unfold nth
  congr 1
  simp only [ByteArray.get!, List.getD_eq_getElem?_getD, List.getElem?_drop]
  show s.data[i + j]! = _
  rw [Array.getElem!_eq_getD, Array.getD_eq_getD_getElem?]
  simp
  rfl

theorem dec_eq (s : ByteArray) (i : Nat) : Utf8.decode s i = dec (s.data.toList.drop i) := by
  rw [Lib.decode_at]
  unfold dec
  have h0 := get!_nth s i 0
  have h1 := get!_nth s i 1
  have h2 := get!_nth s i 2
  have h3 := get!_nth s i 3
  rw [Nat.add_zero] at h0
  rw [h0, h1, h2, h3]
  congr 1
  simp

theorem dec_ascii (l : List UInt8) (h : nth l 0 < 128) : dec l = (nth l 0, 1) := by
  unfold dec Lib.decodeN; rw [if_pos h]

theorem dec_high (l : List UInt8) (h : 128 ≤ nth l 0) : 128 ≤ (dec l).1 := by
  unfold dec Lib.decodeN
  rw [if_neg (by omega)]
  repeat' split
  all_goals (simp only; omega)
theorem dec_le (l : List UInt8) : (dec l).1 ≤ 1114111 := by
  unfold dec Lib.decodeN
  have := nth_lt l 0
  repeat' split
  all_goals (simp only; omega)
theorem dec_w (l : List UInt8) : 1 ≤ (dec l).2 ∧ (dec l).2 ≤ 4 := by
  unfold dec Lib.decodeN
  repeat' split
  all_goals (simp only; omega)
theorem dec_w_len (l : List UInt8) (h : l ≠ []) : (dec l).2 ≤ l.length := by
  have : 1 ≤ l.length := by cases l with | nil => exact absurd rfl h | cons _ _ => simp
  unfold dec Lib.decodeN
  repeat' split
  all_goals (simp only; omega)

theorem prefix3 (l : List UInt8) : Lib.hasPrefix l [239, 191, 189] = true ↔ (3 ≤ l.length ∧ nth l 0 = 239 ∧ nth l 1 = 191 ∧ nth l 2 = 189) := by
  unfold Lib.hasPrefix nth
  match l with
  | [] => simp [List.isPrefixOf]
  | [a] => simp [List.isPrefixOf]
  | [a, b] => simp [List.isPrefixOf]
  | a :: b :: c :: t =>
    simp only [List.isPrefixOf, Bool.and_eq_true, beq_iff_eq, List.getD_cons_zero, List.getD_cons_succ, List.length_cons]
    constructor
    · rintro ⟨rfl, rfl, rfl, _⟩
      exact ⟨by omega, rfl, rfl, rfl⟩
    · rintro ⟨_, h0, h1, h2⟩
      refine ⟨?_, ?_, ?_, trivial⟩
      · exact (UInt8.toNat_inj.1 h0).symm
      · exact (UInt8.toNat_inj.1 h1).symm
      · exact (UInt8.toNat_inj.1 h2).symm

set_option maxRecDepth 100000 in
set_option maxHeartbeats 2000000 in
theorem bad_iff (l : List UInt8) : bad l = (((dec l).1 == 65533) && !(Lib.hasPrefix l [239, 191, 189])) := by
  rw [Bool.eq_iff_iff]
  simp only [bad, decide_eq_true_eq, Bool.and_eq_true, beq_iff_eq, Bool.not_eq_true', ← Bool.not_eq_true, prefix3]
  have l0 := nth_lt l 0
  have l1 := nth_lt l 1
  have l2 := nth_lt l 2
  have l3 := nth_lt l 3
  unfold dec Lib.decodeN
  repeat' split
  all_goals (simp only [Prod.mk.injEq, true_and, and_true, true_iff, Nat.reduceEqDiff, and_false, false_iff]; omega)

/-! ### Check, Runes -/
def chk : Nat → List UInt8 → Option Nat
  | 0, _ => none
  | f + 1, l => if l = [] then none else if bad l then some 0 else (chk f (l.drop (dec l).2)).map (fun n => n + (dec l).2)
def check (l : List UInt8) : Option Nat := chk l.length l
def checkZ (l : List UInt8) : Int := match check l with | none => -1 | some n => (n : Int)

def rns : Nat → List UInt8 → Nat
  | 0, _ => 0
  | f + 1, l => if l = [] then 0 else 1 + rns f (l.drop (dec l).2)
def runes (l : List UInt8) : Nat := rns l.length l

theorem chk_fuel (f : Nat) : ∀ (l : List UInt8), l.length ≤ f → chk f l = check l := by
  have main : ∀ (f : Nat) (g : Nat) (l : List UInt8), l.length ≤ f → l.length ≤ g → chk f l = chk g l := by
    intro f
    induction f with
    | zero =>
      intro g l h1 h2
      have : l = [] := List.length_eq_zero_iff.1 (by omega)
      subst this
      cases g <;> simp [chk]
    | succ f ih =>
      intro g l h1 h2
      cases g with
      | zero =>
        have : l = [] := List.length_eq_zero_iff.1 (by omega)
        subst this
        simp [chk]
      | succ g =>
        simp only [chk]
        by_cases hl : l = []
        · simp [hl]
        · rw [if_neg hl, if_neg hl]
          have hw := dec_w l
          have hne : 1 ≤ l.length := by cases l with | nil => exact absurd rfl hl | cons _ _ => simp
          rw [ih g (l.drop (dec l).2) (by rw [List.length_drop]; omega) (by rw [List.length_drop]; omega)]
  intro l h
  exact main f l.length l h (Nat.le_refl _)
theorem check_nil : check [] = none := rfl
theorem check_eq (l : List UInt8) (h : l ≠ []) : check l = if bad l then some 0 else (check (l.drop (dec l).2)).map (fun n => n + (dec l).2) := by
  have hne : 1 ≤ l.length := by cases l with | nil => exact absurd rfl h | cons _ _ => simp
  have hw := dec_w l
  obtain ⟨f, hf⟩ : ∃ f, l.length = f + 1 := ⟨l.length - 1, by omega⟩
  unfold check
  rw [hf, chk, if_neg h, chk_fuel f _ (by rw [List.length_drop]; omega)]
  rfl
theorem rns_fuel (f : Nat) : ∀ (l : List UInt8), l.length ≤ f → rns f l = runes l := by
  have main : ∀ (f : Nat) (g : Nat) (l : List UInt8), l.length ≤ f → l.length ≤ g → rns f l = rns g l := by
    intro f
    induction f with
    | zero =>
      intro g l h1 h2
      have : l = [] := List.length_eq_zero_iff.1 (by omega)
      subst this
      cases g <;> simp [rns]
    | succ f ih =>
      intro g l h1 h2
      cases g with
      | zero =>
        have : l = [] := List.length_eq_zero_iff.1 (by omega)
        subst this
        simp [rns]
      | succ g =>
        simp only [rns]
        by_cases hl : l = []
        · simp [hl]
        · rw [if_neg hl, if_neg hl]
          have hw := dec_w l
          have hne : 1 ≤ l.length := by cases l with | nil => exact absurd rfl hl | cons _ _ => simp
          rw [ih g (l.drop (dec l).2) (by rw [List.length_drop]; omega) (by rw [List.length_drop]; omega)]
  intro l h
  exact main f l.length l h (Nat.le_refl _)
theorem runes_nil : runes [] = 0 := rfl
theorem runes_eq (l : List UInt8) (h : l ≠ []) : runes l = 1 + runes (l.drop (dec l).2) := by
  have hne : 1 ≤ l.length := by cases l with | nil => exact absurd rfl h | cons _ _ => simp
  have hw := dec_w l
  obtain ⟨f, hf⟩ : ∃ f, l.length = f + 1 := ⟨l.length - 1, by omega⟩
  unfold runes
  rw [hf, rns, if_neg h, rns_fuel f _ (by rw [List.length_drop]; omega)]
  rfl
theorem runes_le (l : List UInt8) : runes l ≤ l.length := by
  have main : ∀ n (l : List UInt8), l.length ≤ n → runes l ≤ l.length := by
    intro n
    induction n with
    | zero =>
      intro l h
      have : l = [] := List.length_eq_zero_iff.1 (by omega)
      subst this; simp [runes_nil]
    | succ n ih =>
      intro l h
      by_cases hl : l = []
      · subst hl; simp [runes_nil]
      · have hne : 1 ≤ l.length := by cases l with | nil => exact absurd rfl hl | cons _ _ => simp
        have hw := dec_w l
        have hwl := dec_w_len l hl
        rw [runes_eq l hl]
        have := ih (l.drop (dec l).2) (by rw [List.length_drop]; omega)
        rw [List.length_drop] at this
        omega
  exact main l.length l (Nat.le_refl _)

/-! ### Quote -/
def hexd (n : Nat) : UInt8 := if n < 10 then (48 + n).toUInt8 else (87 + n).toUInt8
def escOf (r : Int) : List UInt8 :=
  if r = 34 then [92, 34] else if r = 92 then [92, 92] else if r = 8 then [92, 98] else if r = 9 then [92, 116] else if r = 10 then [92, 110]
  else if r = 12 then [92, 102] else if r = 13 then [92, 114] else if 32 ≤ r then [] else [92, 117, 48, 48, hexd (r.toNat / 16), hexd (r.toNat % 16)]
def esc (c : UInt8) : List UInt8 := if escOf c.toNat = [] then [c] else escOf c.toNat
def quote (l : List UInt8) : List UInt8 := 34 :: (l.flatMap esc ++ [34])

def quoteTo (l : List UInt8) (n : Nat) : List UInt8 := 34 :: (l.take n).flatMap esc
def plain (m : List UInt8) : Prop := ∀ c ∈ m, esc c = [c]
theorem flat_plain (m : List UInt8) (h : plain m) : m.flatMap esc = m := by
  induction m with
  | nil => rfl
  | cons a m ih =>
    rw [List.flatMap_cons, h a (by simp), ih (fun c hc => h c (by simp [hc]))]
    rfl
theorem quoteTo_plain (l : List UInt8) (a b : Nat) (hab : a ≤ b) (h : plain ((l.drop a).take (b - a))) : quoteTo l b = quoteTo l a ++ (l.drop a).take (b - a) := by
  unfold quoteTo
  have e : l.take b = l.take a ++ (l.drop a).take (b - a) := by
    rw [← List.take_add]
    congr 1
    omega
  rw [e, List.flatMap_append, flat_plain _ h]
  rfl
theorem take_succ' (l : List UInt8) (n : Nat) (h : n < l.length) : l.take (n + 1) = l.take n ++ [l.getD n 0] := by
  rw [List.take_succ_eq_append_getElem h]
  congr 2
  simp [List.getD_eq_getElem?_getD, h]
theorem quoteTo_succ (l : List UInt8) (n : Nat) (h : n < l.length) : quoteTo l (n + 1) = quoteTo l n ++ esc (l.getD n 0) := by
  unfold quoteTo
  rw [take_succ' l n h, List.flatMap_append]
  simp
theorem esc_le (c : UInt8) : (esc c).length ≤ 6 := by
  unfold esc escOf
  split
  · simp
  · repeat' split
    all_goals simp
theorem quoteTo_le (l : List UInt8) (n : Nat) : (quoteTo l n).length ≤ 1 + 6 * n := by
  have key : ∀ m : List UInt8, (m.flatMap esc).length ≤ 6 * m.length := by
    intro m
    induction m with
    | nil => simp
    | cons a m ih =>
      have := esc_le a
      rw [List.flatMap_cons, List.length_append, List.length_cons]
      omega
  unfold quoteTo
  have h1 := key (l.take n)
  have h2 : (l.take n).length ≤ n := List.length_take_le _ _
  simp only [List.length_cons]
  omega
theorem quoteTo_all (l : List UInt8) (n : Nat) (h : l.length ≤ n) : quoteTo l n ++ [34] = quote l := by
  unfold quoteTo quote
  rw [List.take_of_length_le h]
  rfl
theorem escOf_high (r : Int) (h : 128 ≤ r) : escOf r = [] := by
  unfold escOf
  rw [if_neg (by omega), if_neg (by omega), if_neg (by omega), if_neg (by omega), if_neg (by omega), if_neg (by omega), if_neg (by omega), if_pos (by omega)]
theorem esc_plain (c : UInt8) (h : escOf c.toNat = []) : esc c = [c] := by unfold esc; rw [if_pos h]
theorem esc_some (c : UInt8) (h : escOf c.toNat ≠ []) : esc c = escOf c.toNat := by unfold esc; rw [if_neg h]
theorem escOf_low {r : Int} (h : escOf r ≠ []) : r < 128 := by
  by_cases h1 : 128 ≤ r
  · exact absurd (escOf_high r h1) h
  · omega

/-- the bytes of a rune that is not of one byte are all 128 or above -/
theorem dec_bytes (l : List UInt8) (h : 128 ≤ nth l 0) (j : Nat) (hj : j < (dec l).2) : 128 ≤ nth l j := by
  unfold dec Lib.decodeN at hj
  rw [if_neg (by omega)] at hj
  have hj4 : j = 0 ∨ j = 1 ∨ j = 2 ∨ j = 3 := by
    revert hj
    repeat' split
    all_goals (intro hj; simp only at hj; omega)
  rcases hj4 with rfl | rfl | rfl | rfl
  · exact h
  all_goals
    revert hj
    repeat' split
    all_goals (intro hj; simp only at hj; omega)

/-! ### Unquote -/
def digit (r : Int) : Option Int :=
  if 48 ≤ r ∧ r ≤ 57 then some (r - 48) else if 97 ≤ r ∧ r ≤ 102 then some (r - 87) else if 65 ≤ r ∧ r ≤ 70 then some (r - 55) else none
def fourTo (l : List UInt8) : Nat → Option Int
  | 0 => some 0
  | k + 1 => match fourTo l k, digit (nth l (2 + k)) with
    | some n, some d => some (n * 16 + d)
    | _, _ => none
def four (l : List UInt8) : Option Int := if 6 ≤ l.length ∧ nth l 0 = 92 ∧ nth l 1 = 117 then fourTo l 4 else none
theorem digit_bd {r d : Int} (h : digit r = some d) : 0 ≤ d ∧ d ≤ 15 ∧ 48 ≤ r ∧ r ≤ 102 := by
  unfold digit at h
  split at h
  · have := Option.some.inj h; omega
  · split at h
    · have := Option.some.inj h; omega
    · split at h
      · have := Option.some.inj h; omega
      · cases h
theorem fourTo_bd (l : List UInt8) : ∀ (k : Nat) (n : Int), k ≤ 4 → fourTo l k = some n → 0 ≤ n ∧ n < 16 ^ k := by
  intro k
  induction k with
  | zero => intro n _ h; simp [fourTo] at h; omega
  | succ k ih =>
    intro n hk h
    simp only [fourTo] at h
    split at h
    · rename_i a d ha hd
      have h1 := ih a (by omega) ha
      have h2 := digit_bd hd
      have := Option.some.inj h
      rw [Int.pow_succ]
      omega
    · cases h
theorem fourTo_digits (l : List UInt8) : ∀ (k : Nat), fourTo l k ≠ none → ∀ j, j < k → nth l (2 + j) < 128 := by
  intro k
  induction k with
  | zero => intro _ j hj; omega
  | succ k ih =>
    intro h j hj
    simp only [fourTo] at h
    split at h
    · rename_i a d ha hd
      by_cases hjk : j = k
      · subst hjk; have := digit_bd hd; omega
      · exact ih (by rw [ha]; simp) j (by omega)
    · exact absurd rfl h
theorem fourTo_up (l : List UInt8) (k : Nat) (h : fourTo l k = none) : fourTo l (k + 1) = none := by
  simp only [fourTo, h]
theorem fourTo_none (l : List UInt8) (k j : Nat) (h : fourTo l k = none) : fourTo l (k + j) = none := by
  induction j with
  | zero => exact h
  | succ j ih => exact fourTo_up l (k + j) ih
theorem fourTo_bad (l : List UInt8) (k : Nat) (h : digit (nth l (2 + k)) = none) : fourTo l (k + 1) = none := by
  simp only [fourTo, h]
  cases fourTo l k <;> rfl
theorem fourTo_step (l : List UInt8) (k : Nat) (n d : Int) (h1 : fourTo l k = some n) (h : digit (nth l (2 + k)) = some d) : fourTo l (k + 1) = some (n * 16 + d) := by
  simp only [fourTo, h1, h]
theorem digit_high (r : Int) (h : 128 ≤ r) : digit r = none := by
  unfold digit
  rw [if_neg (by omega), if_neg (by omega), if_neg (by omega)]
theorem nth_drop (l : List UInt8) (i j : Nat) : nth (l.drop i) j = nth l (i + j) := by
  unfold nth; congr 1; simp [List.getD_eq_getElem?_getD]
theorem nth_take (l : List UInt8) (i j : Nat) (h : j < i) : nth (l.take i) j = nth l j := by
  unfold nth; congr 1; simp [List.getD_eq_getElem?_getD, List.getElem?_take, h]
def second (r : Int) : Bool := decide (56320 ≤ r ∧ r ≤ 57343)
def first (r : Int) : Bool := decide (55296 ≤ r ∧ r ≤ 56319)
def long (l : List UInt8) : Option (Int × Nat) :=
  match four l with
  | none => none
  | some a => if second a then none else if !(first a) then some (a, 6) else
    match four (l.drop 6) with
    | none => none
    | some b => if second b then some (65536 + (a - 55296) * 1024 + (b - 56320), 12) else none
def escape (l : List UInt8) : Option (Int × Nat) :=
  if l.length < 2 then none
  else if nth l 1 = 34 ∨ nth l 1 = 92 ∨ nth l 1 = 47 then some (nth l 1, 2)
  else if nth l 1 = 98 then some (8, 2)
  else if nth l 1 = 102 then some (12, 2)
  else if nth l 1 = 110 then some (10, 2)
  else if nth l 1 = 114 then some (13, 2)
  else if nth l 1 = 116 then some (9, 2)
  else if nth l 1 = 117 then long l
  else none
def piece (l : List UInt8) : Option (Int × Nat) :=
  if (dec l).1 = 92 then escape l else if (dec l).1 < 32 ∨ bad l = true then none else some ((dec l).1, 1)
def width (l : List UInt8) (n : Nat) : Nat := if (dec l).1 = 92 then n else (dec l).2
def unq : Nat → List UInt8 → Option (List UInt8 × Nat)
  | 0, _ => none
  | f + 1, l => if l = [] then none else if (dec l).1 = 34 then some ([], 1) else
    match piece l with
    | none => none
    | some (r, n) => (unq f (l.drop (width l n))).map fun x => (Lib.encodeRune r ++ x.1, x.2 + width l n)
def unqL (l : List UInt8) : Option (List UInt8 × Nat) := unq l.length l
def unquote (l : List UInt8) : Option (List UInt8 × Nat) :=
  if nth l 0 = 34 then (unqL (l.drop 1)).map fun x => (x.1, x.2 + 1) else none
theorem long_n {l : List UInt8} {r : Int} {n : Nat} (h : long l = some (r, n)) : (n = 6 ∨ n = 12) ∧ n ≤ l.length ∧ (∀ j, j < n → nth l j < 128) ∧ 0 ≤ r ∧ r ≤ 1114111 := by
  unfold long at h
  split at h
  · cases h
  · rename_i a h4
    have hf : ∀ {l : List UInt8} {a : Int}, four l = some a → 6 ≤ l.length ∧ (∀ j, j < 6 → nth l j < 128) ∧ 0 ≤ a ∧ a < 65536 := by
      intro l a h4
      unfold four at h4
      split at h4
      · rename_i hc
        refine ⟨hc.1, ?_, ?_⟩
        · intro j hj
          by_cases j0 : j = 0
          · subst j0; omega
          · by_cases j1 : j = 1
            · subst j1; omega
            · have := fourTo_digits l 4 (by rw [h4]; simp) (j - 2) (by omega)
              rw [show 2 + (j - 2) = j from by omega] at this
              exact this
        · have := fourTo_bd l 4 a (by omega) h4
          have e : (16 : Int) ^ 4 = 65536 := by decide
          omega
      · cases h4
    obtain ⟨h6, ha, hr0, hr1⟩ := hf h4
    split at h
    · cases h
    · split at h
      · have := Option.some.inj h
        simp only [Prod.mk.injEq] at this
        obtain ⟨rfl, rfl⟩ := this
        exact ⟨by omega, h6, ha, hr0, by omega⟩
      · rename_i hfirst
        split at h
        · cases h
        · rename_i b h4b
          split at h
          · rename_i hsec
            obtain ⟨h6b, hab, hb0, hb1⟩ := hf h4b
            have hfi : 55296 ≤ a ∧ a ≤ 56319 := by simpa [first] using hfirst
            have hse : 56320 ≤ b ∧ b ≤ 57343 := by simpa [second] using hsec
            have := Option.some.inj h
            simp only [Prod.mk.injEq] at this
            obtain ⟨rfl, rfl⟩ := this
            rw [List.length_drop] at h6b
            refine ⟨by omega, by omega, ?_, by omega, by omega⟩
            intro j hj
            by_cases j6 : j < 6
            · exact ha j j6
            · have := hab (j - 6) (by omega)
              rw [nth_drop, show 6 + (j - 6) = j from by omega] at this
              exact this
          · cases h
theorem escape_n {l : List UInt8} {r : Int} {n : Nat} (h0 : nth l 0 < 128) (h : escape l = some (r, n)) : 2 ≤ n ∧ n ≤ l.length ∧ (∀ j, j < n → nth l j < 128) ∧ 0 ≤ r ∧ r ≤ 1114111 := by
  have two : ∀ (hl : ¬ l.length < 2) (h1 : nth l 1 < 128) (x : Int), 0 ≤ x → x < 128 → some (x, 2) = some (r, n) → 2 ≤ n ∧ n ≤ l.length ∧ (∀ j, j < n → nth l j < 128) ∧ 0 ≤ r ∧ r ≤ 1114111 := by
    intro hl h1 x hx0 hx1 e
    have := Option.some.inj e
    simp only [Prod.mk.injEq] at this
    obtain ⟨rfl, rfl⟩ := this
    refine ⟨by omega, by omega, ?_, by omega, by omega⟩
    intro j hj
    by_cases j0 : j = 0
    · subst j0; exact h0
    · have : j = 1 := by omega
      subst this; exact h1
  unfold escape at h
  by_cases hl : l.length < 2
  · rw [if_pos hl] at h; cases h
  rw [if_neg hl] at h
  by_cases c1 : nth l 1 = 34 ∨ nth l 1 = 92 ∨ nth l 1 = 47
  · rw [if_pos c1] at h; exact two hl (by omega) _ (by omega) (by omega) h
  rw [if_neg c1] at h
  by_cases c2 : nth l 1 = 98
  · rw [if_pos c2] at h; exact two hl (by omega) _ (by omega) (by omega) h
  rw [if_neg c2] at h
  by_cases c3 : nth l 1 = 102
  · rw [if_pos c3] at h; exact two hl (by omega) _ (by omega) (by omega) h
  rw [if_neg c3] at h
  by_cases c4 : nth l 1 = 110
  · rw [if_pos c4] at h; exact two hl (by omega) _ (by omega) (by omega) h
  rw [if_neg c4] at h
  by_cases c5 : nth l 1 = 114
  · rw [if_pos c5] at h; exact two hl (by omega) _ (by omega) (by omega) h
  rw [if_neg c5] at h
  by_cases c6 : nth l 1 = 116
  · rw [if_pos c6] at h; exact two hl (by omega) _ (by omega) (by omega) h
  rw [if_neg c6] at h
  by_cases c7 : nth l 1 = 117
  · rw [if_pos c7] at h
    obtain ⟨a1, a2, a3, a4, a5⟩ := long_n h
    exact ⟨by omega, a2, a3, a4, a5⟩
  rw [if_neg c7] at h
  cases h
theorem dec_92 {l : List UInt8} {c : Nat} (hc : c < 128) (h : (dec l).1 = c) : nth l 0 = c := by
  by_cases ha : nth l 0 < 128
  · rw [dec_ascii l ha] at h; exact h
  · have := dec_high l (by omega); omega
theorem piece_n {l : List UInt8} {r : Int} {n : Nat} (hne : l ≠ []) (h : piece l = some (r, n)) : 1 ≤ n ∧ 1 ≤ width l n ∧ width l n ≤ l.length ∧ 0 ≤ r ∧ r ≤ 1114111 := by
  unfold piece at h
  unfold width
  by_cases h92 : (dec l).1 = 92
  · rw [if_pos h92] at h
    have := escape_n (by rw [dec_92 (by omega) h92]; omega) h
    rw [if_pos h92]
    omega
  · rw [if_neg h92] at h
    split at h
    · cases h
    · have := Option.some.inj h
      simp only [Prod.mk.injEq] at this
      obtain ⟨rfl, rfl⟩ := this
      have h1 := dec_w l
      have h2 := dec_w_len l hne
      have h3 := dec_le l
      rw [if_neg h92]
      omega
theorem unq_fuel (f : Nat) : ∀ (l : List UInt8), l.length ≤ f → unq f l = unqL l := by
  have main : ∀ (f : Nat) (g : Nat) (l : List UInt8), l.length ≤ f → l.length ≤ g → unq f l = unq g l := by
    intro f
    induction f with
    | zero =>
      intro g l h1 h2
      have : l = [] := List.length_eq_zero_iff.1 (by omega)
      subst this
      cases g <;> simp [unq]
    | succ f ih =>
      intro g l h1 h2
      cases g with
      | zero =>
        have : l = [] := List.length_eq_zero_iff.1 (by omega)
        subst this
        simp [unq]
      | succ g =>
        simp only [unq]
        by_cases hl : l = []
        · simp [hl]
        · rw [if_neg hl, if_neg hl]
          by_cases h34 : (dec l).1 = 34
          · rw [if_pos h34, if_pos h34]
          · rw [if_neg h34, if_neg h34]
            cases hp : piece l with
            | none => rfl
            | some x =>
              obtain ⟨r, n⟩ := x
              have hw := piece_n hl hp
              have hlen : 1 ≤ l.length := by omega
              simp only
              rw [ih g (l.drop (width l n)) (by rw [List.length_drop]; omega) (by rw [List.length_drop]; omega)]
  intro l h
  exact main f l.length l h (Nat.le_refl _)
theorem unqL_nil : unqL [] = none := rfl
theorem unqL_eq (l : List UInt8) (h : l ≠ []) : unqL l = if (dec l).1 = 34 then some ([], 1) else
    match piece l with
    | none => none
    | some (r, n) => (unqL (l.drop (width l n))).map fun x => (Lib.encodeRune r ++ x.1, x.2 + width l n) := by
  have hne : 1 ≤ l.length := by cases l with | nil => exact absurd rfl h | cons _ _ => simp
  obtain ⟨f, hf⟩ : ∃ f, l.length = f + 1 := ⟨l.length - 1, by omega⟩
  have e : unqL l = unq (f + 1) l := by unfold unqL; rw [hf]
  rw [e, unq, if_neg h]
  by_cases h34 : (dec l).1 = 34
  · rw [if_pos h34, if_pos h34]
  · rw [if_neg h34, if_neg h34]
    cases hp : piece l with
    | none => rfl
    | some x =>
      obtain ⟨r, n⟩ := x
      have hw := piece_n h hp
      simp only
      rw [unq_fuel f _ (by rw [List.length_drop]; omega)]
def unText (o : Option (List UInt8 × Nat)) : List UInt8 := match o with | none => [] | some x => x.1
def unLen (o : Option (List UInt8 × Nat)) : Nat := match o with | none => 0 | some x => x.2
def prRune (o : Option (Int × Nat)) : Int := match o with | none => 0 | some x => x.1
def prLen (o : Option (Int × Nat)) : Nat := match o with | none => 0 | some x => x.2

theorem mem_nth {m : List UInt8} {c : UInt8} (h : c ∈ m) : ∃ j, j < m.length ∧ nth m j = c.toNat := by
  obtain ⟨j, hj, e⟩ := List.getElem_of_mem h
  refine ⟨j, hj, ?_⟩
  unfold nth
  rw [List.getD_eq_getElem?_getD, List.getElem?_eq_getElem hj, e]
  rfl
/-- a rune without an escape is plain -/
theorem plain_rune (l : List UInt8) (h : escOf (dec l).1 = []) : plain (l.take (dec l).2) := by
  intro c hc
  obtain ⟨j, hj, e⟩ := mem_nth hc
  have hj2 : j < (dec l).2 := by rw [List.length_take] at hj; omega
  rw [nth_take _ _ _ hj2] at e
  apply esc_plain
  by_cases ha : nth l 0 < 128
  · rw [dec_ascii l ha] at hj2 h
    have : j = 0 := by simp only at hj2; omega
    subst this
    rw [← e]
    exact h
  · exact escOf_high _ (by have := dec_bytes l (by omega) j hj2; omega)
theorem plain_append {a b : List UInt8} (h1 : plain a) (h2 : plain b) : plain (a ++ b) := by
  intro c hc
  rcases List.mem_append.1 hc with h | h
  · exact h1 c h
  · exact h2 c h
theorem seg_append (l : List UInt8) (a b w : Nat) (hab : a ≤ b) : (l.drop a).take (b + w - a) = (l.drop a).take (b - a) ++ (l.drop b).take w := by
  have e : b + w - a = (b - a) + w := by omega
  rw [e, List.take_add, List.drop_drop]
  congr 3
  omega

end Go.Proofs.Ytlkfdmcgcenliaa.Gm
