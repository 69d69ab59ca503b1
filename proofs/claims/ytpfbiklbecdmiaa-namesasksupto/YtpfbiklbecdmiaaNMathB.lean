/-
  PLAIN LEAN: what the functions of package names compute, over lists of bytes. No program is named here.
  PLAIN LEAN: what the laws of layer 6 say, over lists of bytes. No program is named here.
-/
import Derived.Lib.Strings
set_option linter.unusedVariables false
set_option linter.unusedSimpArgs false
namespace Go.Proofs.Ytpfbiklbecdmiaa.Nm

/-! ### Patterns -/
def tails (f : List UInt8 → Bool) : List UInt8 → Bool
  | [] => f []
  | b :: t => f (b :: t) || tails f t

def glob : List UInt8 → List UInt8 → Bool
  | [], s => s.isEmpty
  | c :: p, s => if c = 42 then tails (glob p) s else match s with
    | [] => false
    | b :: t => (decide (c = 63) || decide (c = b)) && glob p t

theorem tails_iff (f : List UInt8 → Bool) : ∀ s : List UInt8, tails f s = true ↔ ∃ u v, s = u ++ v ∧ f v = true
  | [] => by
    constructor
    · intro h; exact ⟨[], [], rfl, h⟩
    · rintro ⟨u, v, h, hf⟩
      have h2 : v = [] := by
        have := congrArg List.length h
        simp only [List.length_nil, List.length_append] at this
        exact List.length_eq_zero_iff.1 (by omega)
      subst h2
      exact hf
  | b :: t => by
    simp only [tails, Bool.or_eq_true, tails_iff f t]
    constructor
    · rintro (h | ⟨u, v, rfl, h⟩)
      · exact ⟨[], b :: t, rfl, h⟩
      · exact ⟨b :: u, v, rfl, h⟩
    · rintro ⟨u, v, h, hf⟩
      cases u with
      | nil => left; rw [show b :: t = v from h]; exact hf
      | cons a u =>
        simp only [List.cons_append, List.cons.injEq] at h
        exact Or.inr ⟨u, v, h.2, hf⟩

theorem tails_cons (f : List UInt8 → Bool) (b : UInt8) (t : List UInt8) (h : f (b :: t) = false) : tails f (b :: t) = tails f t := by
  simp [tails, h]
theorem tails_self (f : List UInt8 → Bool) (s : List UInt8) (h : f s = true) : tails f s = true := (tails_iff f s).2 ⟨[], s, rfl, h⟩

theorem glob_star (p s : List UInt8) : glob (42 :: p) s = tails (glob p) s := by
  conv => lhs; unfold glob
  rfl
theorem glob_cons (c : UInt8) (p : List UInt8) (b : UInt8) (t : List UInt8) (h : ¬ c = 42) : glob (c :: p) (b :: t) = ((decide (c = 63) || decide (c = b)) && glob p t) := by
  conv => lhs; unfold glob
  rw [if_neg h]
theorem glob_cons_nil (c : UInt8) (p : List UInt8) (h : ¬ c = 42) : glob (c :: p) [] = false := by
  conv => lhs; unfold glob
  rw [if_neg h]

/-- signs without a star, each as its byte has it -/
def seg : List UInt8 → List UInt8 → Bool
  | [], [] => true
  | c :: p, b :: t => decide (¬ c = 42) && (decide (c = 63) || decide (c = b)) && seg p t
  | _, _ => false

theorem seg_len : ∀ (q u : List UInt8), seg q u = true → q.length = u.length
  | [], [], _ => rfl
  | [], _ :: _, h => by simp [seg] at h
  | _ :: _, [], h => by simp [seg] at h
  | c :: p, b :: t, h => by
    simp only [seg, Bool.and_eq_true] at h
    simp [seg_len p t h.2]

theorem glob_seg : ∀ (q u r v : List UInt8), seg q u = true → glob (q ++ r) (u ++ v) = glob r v
  | [], [], r, v, _ => rfl
  | [], _ :: _, _, _, h => by simp [seg] at h
  | _ :: _, [], _, _, h => by simp [seg] at h
  | c :: p, b :: t, r, v, h => by
    simp only [seg, Bool.and_eq_true, decide_eq_true_eq] at h
    rw [List.cons_append, List.cons_append, glob_cons c _ b _ h.1.1, h.1.2, Bool.true_and]
    exact glob_seg p t r v h.2

theorem seg_snoc : ∀ (q u : List UInt8) (c b : UInt8), seg q u = true → ¬ c = 42 → (c = 63 ∨ c = b) → seg (q ++ [c]) (u ++ [b]) = true
  | [], [], c, b, _, h1, h2 => by simp [seg, h1]; exact h2
  | [], _ :: _, _, _, h, _, _ => by simp [seg] at h
  | _ :: _, [], _, _, h, _, _ => by simp [seg] at h
  | c' :: p, b' :: t, c, b, h, h1, h2 => by
    simp only [seg, Bool.and_eq_true, List.cons_append] at h ⊢
    exact ⟨h.1, seg_snoc p t c b h.2 h1 h2⟩

/-- no star among them -/
def bare (q : List UInt8) : Prop := ∀ c ∈ q, ¬ c = 42
theorem seg_bare : ∀ (q u : List UInt8), seg q u = true → bare q
  | [], _, _ => by intro c h; simp at h
  | c :: p, [], h => by simp [seg] at h
  | c :: p, b :: t, h => by
    simp only [seg, Bool.and_eq_true, decide_eq_true_eq] at h
    intro x hx
    rcases List.mem_cons.1 hx with rfl | hx
    · exact h.1.1
    · exact seg_bare p t h.2 x hx

theorem glob_bare : ∀ (q r s : List UInt8), bare q → glob (q ++ r) s = true → ∃ u v, s = u ++ v ∧ seg q u = true ∧ glob r v = true
  | [], r, s, _, h => ⟨[], s, rfl, rfl, h⟩
  | c :: p, r, [], hb, h => by
    rw [List.cons_append, glob_cons_nil _ _ (hb c (by simp))] at h
    cases h
  | c :: p, r, b :: t, hb, h => by
    rw [List.cons_append, glob_cons _ _ _ _ (hb c (by simp)), Bool.and_eq_true] at h
    obtain ⟨u, v, rfl, h1, h2⟩ := glob_bare p r t (fun x hx => hb x (by simp [hx])) h.2
    refine ⟨b :: u, v, rfl, ?_, h2⟩
    simp only [seg, Bool.and_eq_true, decide_eq_true_eq]
    exact ⟨⟨hb c (by simp), by simpa using h.1⟩, h1⟩

theorem glob_two : ∀ (p q s t : List UInt8), glob p s = true → glob q t = true → glob (p ++ q) (s ++ t) = true
  | [], q, s, t, h1, h2 => by
    have : s = [] := by simpa [glob] using h1
    subst this
    exact h2
  | c :: p, q, s, t, h1, h2 => by
    by_cases hc : c = 42
    · subst hc
      rw [List.cons_append]
      rw [glob_star, tails_iff] at h1 ⊢
      obtain ⟨u, v, rfl, h⟩ := h1
      exact ⟨u, v ++ t, by simp, glob_two p q v t h h2⟩
    · cases s with
      | nil => rw [glob_cons_nil _ _ hc] at h1; cases h1
      | cons b s =>
        rw [List.cons_append, List.cons_append]
        rw [glob_cons _ _ _ _ hc, Bool.and_eq_true] at h1 ⊢
        exact ⟨h1.1, glob_two p q s t h1.2 h2⟩

theorem glob_end (s : List UInt8) : glob [] s = s.isEmpty := rfl

theorem glob_all (s : List UInt8) : glob [42] s = true := by
  rw [glob_star, tails_iff]
  exact ⟨s, [], by simp, rfl⟩

theorem glob_self : ∀ s : List UInt8, glob s s = true
  | [] => rfl
  | c :: s => by
    by_cases hc : c = 42
    · subst hc
      rw [glob_star, tails_iff]
      exact ⟨[42], s, rfl, glob_self s⟩
    · rw [glob_cons _ _ _ _ hc]
      simp [glob_self s]

/-! ### The loop: it comes back to the last star alone -/
/-- P the pattern, S the text; 'b': behind the last star, and where what it took ends -/
def Inv (P S : List UInt8) (p i : Nat) (back : Option (Nat × Nat)) : Prop :=
  p ≤ P.length ∧ i ≤ S.length ∧ match back with
  | none => glob P S = glob (P.drop p) (S.drop i)
  | some (b, k) => b ≤ P.length ∧ k ≤ i ∧ (∃ q u, P.drop b = q ++ P.drop p ∧ S.drop k = u ++ S.drop i ∧ seg q u = true) ∧ glob P S = tails (glob (P.drop b)) (S.drop k)

theorem inv_start (P S : List UInt8) : Inv P S 0 0 none := ⟨Nat.zero_le _, Nat.zero_le _, rfl⟩

theorem bool_ext {a b : Bool} (h : a = true ↔ b = true) : a = b := by
  cases a <;> cases b <;> simp_all

theorem bare_star (q u r s : List UInt8) (v : List UInt8) (hs : s = u ++ v) (hq : seg q u = true) :
    tails (glob (q ++ 42 :: r)) s = tails (glob r) v := by
  apply bool_ext
  rw [tails_iff, tails_iff]
  constructor
  · rintro ⟨a, b, hab, hg⟩
    obtain ⟨u', v', rfl, h1, h2⟩ := glob_bare q (42 :: r) b (seg_bare q u hq) hg
    rw [glob_star, tails_iff] at h2
    obtain ⟨x, y, rfl, h3⟩ := h2
    refine ⟨(a ++ u' ++ x).drop u.length, y, ?_, h3⟩
    have hl : u.length = u'.length := by rw [← seg_len q u hq, seg_len q u' h1]
    have h4 : u ++ v = (a ++ u' ++ x) ++ y := by rw [← hs, hab]; simp
    have h5 := congrArg (List.drop u.length) h4
    rw [List.drop_left] at h5
    rw [h5, List.drop_append_of_le_length (by simp; omega)]
  · rintro ⟨a, b, rfl, hg⟩
    refine ⟨[], s, rfl, ?_⟩
    rw [hs, glob_seg q u _ _ hq, glob_star, tails_iff]
    exact ⟨a, b, rfl, hg⟩

theorem inv_star (P S : List UInt8) (p i : Nat) (back : Option (Nat × Nat)) (h : Inv P S p i back) (hp : p < P.length) (hc : P[p] = 42) :
    Inv P S (p + 1) i (some (p + 1, i)) := by
  obtain ⟨h1, h2, h3⟩ := h
  refine ⟨hp, h2, hp, Nat.le_refl _, ⟨[], [], rfl, rfl, rfl⟩, ?_⟩
  have hd : P.drop p = 42 :: P.drop (p + 1) := by rw [List.drop_eq_getElem_cons hp, hc]
  cases back with
  | none =>
    simp only at h3
    rw [h3, hd, glob_star]
  | some bk =>
    obtain ⟨b, k⟩ := bk
    obtain ⟨_, _, ⟨q, u, e1, e2, e3⟩, h4⟩ := h3
    rw [h4, e1, hd]
    exact bare_star q u _ _ _ e2 e3

theorem inv_same (P S : List UInt8) (p i : Nat) (back : Option (Nat × Nat)) (h : Inv P S p i back) (hp : p < P.length) (hi : i < S.length) (hc : ¬ P[p] = 42) (hm : P[p] = 63 ∨ P[p] = S[i]) :
    Inv P S (p + 1) (i + 1) back := by
  obtain ⟨h1, h2, h3⟩ := h
  have hd : P.drop p = P[p] :: P.drop (p + 1) := List.drop_eq_getElem_cons hp
  have hs : S.drop i = S[i] :: S.drop (i + 1) := List.drop_eq_getElem_cons hi
  refine ⟨hp, hi, ?_⟩
  cases back with
  | none =>
    simp only at h3 ⊢
    rw [h3, hd, hs, glob_cons _ _ _ _ hc]
    simp [hm]
  | some bk =>
    obtain ⟨b, k⟩ := bk
    obtain ⟨h5, h6, ⟨q, u, e1, e2, e3⟩, h4⟩ := h3
    refine ⟨h5, by omega, ⟨q ++ [P[p]], u ++ [S[i]], ?_, ?_, seg_snoc q u _ _ e3 hc hm⟩, h4⟩
    · rw [e1, hd]; simp
    · rw [e2, hs]; simp

theorem inv_end (P S : List UInt8) (p i : Nat) (back : Option (Nat × Nat)) (h : Inv P S p i back) (hi : i = S.length) (hc : ∀ hp : p < P.length, ¬ P[p] = 42) :
    glob P S = decide (p = P.length) := by
  obtain ⟨h1, h2, h3⟩ := h
  have hs : S.drop i = [] := by rw [hi]; simp
  by_cases hp : p < P.length
  · have hd : P.drop p = P[p] :: P.drop (p + 1) := List.drop_eq_getElem_cons hp
    have hne : ¬ p = P.length := by omega
    simp only [hne, decide_false]
    cases back with
    | none =>
      simp only at h3
      rw [h3, hd, hs, glob_cons_nil _ _ (hc hp)]
    | some bk =>
      obtain ⟨b, k⟩ := bk
      obtain ⟨h5, h6, ⟨q, u, e1, e2, e3⟩, h4⟩ := h3
      rw [h4, ← Bool.not_eq_true, tails_iff]
      rintro ⟨a, v, hav, hg⟩
      have hb : bare (q ++ [P[p]]) := by
        intro x hx
        rcases List.mem_append.1 hx with hx | hx
        · exact seg_bare q u e3 x hx
        · rw [List.mem_singleton] at hx; rw [hx]; exact hc hp
      rw [e1, hd, show q ++ P[p] :: P.drop (p + 1) = (q ++ [P[p]]) ++ P.drop (p + 1) by simp] at hg
      obtain ⟨u', v', rfl, h7, _⟩ := glob_bare _ _ _ hb hg
      have h8 := seg_len _ _ h7
      have h9 := seg_len _ _ e3
      have h10 := congrArg List.length hav
      have h11 := congrArg List.length e2
      rw [hs] at h11
      simp at h8 h10 h11
      omega
  · have hpe : p = P.length := by omega
    have hd : P.drop p = [] := by rw [hpe]; simp
    simp only [hpe, decide_true]
    cases back with
    | none =>
      simp only at h3
      rw [h3, hd, hs]; rfl
    | some bk =>
      obtain ⟨b, k⟩ := bk
      obtain ⟨h5, h6, ⟨q, u, e1, e2, e3⟩, h4⟩ := h3
      rw [h4]
      apply tails_self
      rw [e1, e2, hd, hs, glob_seg q u _ _ e3]
      rfl

/-- what stands at p and i does not fit -/
theorem no_fit (P S : List UInt8) (p i : Nat) (hp0 : p ≤ P.length) (hi : i < S.length) (hc : ∀ hp : p < P.length, ¬ P[p] = 42 ∧ ¬ (P[p] = 63 ∨ P[p] = S[i])) :
    glob (P.drop p) (S.drop i) = false := by
  have hs : S.drop i = S[i] :: S.drop (i + 1) := List.drop_eq_getElem_cons hi
  by_cases hp : p < P.length
  · have hd : P.drop p = P[p] :: P.drop (p + 1) := List.drop_eq_getElem_cons hp
    obtain ⟨h1, h2⟩ := hc hp
    rw [hd, hs, glob_cons _ _ _ _ h1]
    have h3 : ¬ P[p] = 63 := fun e => h2 (Or.inl e)
    have h4 : ¬ P[p] = S[i] := fun e => h2 (Or.inr e)
    simp [h3, h4]
  · have hd : P.drop p = [] := by
      have : p = P.length := by omega
      rw [this]; simp
    rw [hd, hs]; rfl

theorem inv_none (P S : List UInt8) (p i : Nat) (h : Inv P S p i none) (hi : i < S.length) (hc : ∀ hp : p < P.length, ¬ P[p] = 42 ∧ ¬ (P[p] = 63 ∨ P[p] = S[i])) :
    glob P S = false := by
  obtain ⟨h1, h2, h3⟩ := h
  simp only at h3
  rw [h3, no_fit P S p i h1 hi hc]

theorem inv_back (P S : List UInt8) (p i b k : Nat) (h : Inv P S p i (some (b, k))) (hi : i < S.length) (hc : ∀ hp : p < P.length, ¬ P[p] = 42 ∧ ¬ (P[p] = 63 ∨ P[p] = S[i])) :
    Inv P S b (k + 1) (some (b, k + 1)) := by
  obtain ⟨h1, h2, h5, h6, ⟨q, u, e1, e2, e3⟩, h4⟩ := h
  refine ⟨h5, by omega, h5, Nat.le_refl _, ⟨[], [], rfl, rfl, rfl⟩, ?_⟩
  have hk : k < S.length := by omega
  have hs : S.drop k = S[k] :: S.drop (k + 1) := List.drop_eq_getElem_cons hk
  have hno : glob (P.drop b) (S.drop k) = false := by
    rw [e1, e2, glob_seg q u _ _ e3]
    exact no_fit P S p i h1 hi hc
  rw [h4, hs]
  rw [hs] at hno
  exact tails_cons _ _ _ hno

/-! ### Names -/
def hostB (c : UInt8) : Bool := (decide (97 ≤ c.toNat) && decide (c.toNat ≤ 122)) || (decide (48 ≤ c.toNat) && decide (c.toNat ≤ 57)) || decide (c.toNat = 46) || decide (c.toNat = 45)
def locB (c : UInt8) : Bool := hostB c || decide (c.toNat = 95) || decide (c.toNat = 61) || decide (c.toNat = 47)
def made (f : UInt8 → Bool) (s : List UInt8) : Bool := decide (1 ≤ s.length) && decide (s.length ≤ 40) && s.all f
def host (s : List UInt8) : Bool := made hostB s
def loc (s : List UInt8) : Bool := made locB s

/-- what stands ahead of the first colon, and behind it -/
def parted : List UInt8 → Option (List UInt8 × List UInt8)
  | [] => none
  | c :: t => if c = 58 then some ([], t) else (parted t).map fun x => (c :: x.1, x.2)

def hostOf (sign : UInt8) : List UInt8 → Option (List UInt8)
  | [] => none
  | c :: t => if c = sign then match parted t with
    | none => none
    | some (l, h) => if loc l && host h then some h else none
    else none

def user (s : List UInt8) : Bool := (hostOf 64 s).isSome
def room (s : List UInt8) : Bool := (hostOf 33 s).isSome
def server (s : List UInt8) : List UInt8 := match hostOf 64 s with
  | some h => h
  | none => (hostOf 33 s).getD []

theorem parted_eq : ∀ (t l h : List UInt8), parted t = some (l, h) → t = l ++ 58 :: h ∧ ∀ c ∈ l, ¬ c = 58
  | [], l, h, e => by simp [parted] at e
  | c :: t, l, h, e => by
    unfold parted at e
    by_cases hc : c = 58
    · rw [if_pos hc] at e
      simp at e
      obtain ⟨rfl, rfl⟩ := e
      exact ⟨by rw [hc]; rfl, by simp⟩
    · rw [if_neg hc] at e
      cases hp : parted t with
      | none => simp [hp] at e
      | some x =>
        obtain ⟨l', h'⟩ := x
        simp [hp] at e
        obtain ⟨rfl, rfl⟩ := e
        obtain ⟨h1, h2⟩ := parted_eq t l' h' hp
        refine ⟨by rw [h1]; rfl, ?_⟩
        intro x hx
        rcases List.mem_cons.1 hx with rfl | hx
        · exact hc
        · exact h2 x hx
theorem parted_of : ∀ (l h : List UInt8), (∀ c ∈ l, ¬ c = 58) → parted (l ++ 58 :: h) = some (l, h)
  | [], h, _ => by simp [parted]
  | c :: l, h, hl => by
    rw [List.cons_append]
    unfold parted
    rw [if_neg (hl c (by simp)), parted_of l h (fun x hx => hl x (by simp [hx]))]
    rfl
theorem parted_none : ∀ (t : List UInt8), parted t = none ↔ ∀ c ∈ t, ¬ c = 58
  | [] => by simp [parted]
  | c :: t => by
    unfold parted
    by_cases hc : c = 58
    · rw [if_pos hc]
      simp [hc]
    · rw [if_neg hc]
      simp [parted_none t, hc]

/-! ### Lists of servers: patterns of the texts among values -/
def some_ (ps : List (List UInt8)) (s : List UInt8) : Bool := ps.any fun p => glob p s
end Go.Proofs.Ytpfbiklbecdmiaa.Nm
namespace Go.Proofs.Ytpfbiklbecdmiaa.Nm

theorem glob_append : ∀ (p q s : List UInt8), glob (p ++ q) s = true ↔ ∃ u v, s = u ++ v ∧ glob p u = true ∧ glob q v = true
  | [], q, s => by
    constructor
    · intro h; exact ⟨[], s, rfl, rfl, h⟩
    · rintro ⟨u, v, rfl, h1, h2⟩
      have : u = [] := by simpa [glob] using h1
      subst this
      exact h2
  | c :: p, q, s => by
    constructor
    · intro h
      by_cases hc : c = 42
      · subst hc
        rw [List.cons_append, glob_star, tails_iff] at h
        obtain ⟨a, b, rfl, hb⟩ := h
        obtain ⟨u, v, rfl, h1, h2⟩ := (glob_append p q b).1 hb
        refine ⟨a ++ u, v, by simp, ?_, h2⟩
        rw [glob_star, tails_iff]
        exact ⟨a, u, rfl, h1⟩
      · cases s with
        | nil => rw [List.cons_append, glob_cons_nil _ _ hc] at h; cases h
        | cons b s =>
          rw [List.cons_append, glob_cons _ _ _ _ hc, Bool.and_eq_true] at h
          obtain ⟨u, v, rfl, h1, h2⟩ := (glob_append p q s).1 h.2
          refine ⟨b :: u, v, rfl, ?_, h2⟩
          rw [glob_cons _ _ _ _ hc, h.1, h1]
          rfl
    · rintro ⟨u, v, rfl, h1, h2⟩
      exact glob_two _ _ _ _ h1 h2

theorem star_two (p s : List UInt8) : glob (p ++ [42, 42]) s = glob (p ++ [42]) s := by
  apply bool_ext
  rw [glob_append, glob_append]
  constructor
  · rintro ⟨u, v, rfl, h1, _⟩
    exact ⟨u, v, rfl, h1, glob_all v⟩
  · rintro ⟨u, v, rfl, h1, _⟩
    refine ⟨u, v, rfl, h1, ?_⟩
    rw [glob_star, tails_iff]
    exact ⟨[], v, rfl, glob_all v⟩

def plainL (p : List UInt8) : Prop := ∀ c ∈ p, ¬ c = 42 ∧ ¬ c = 63
theorem glob_plain : ∀ (p s : List UInt8), plainL p → glob p s = decide (p = s)
  | [], [], _ => rfl
  | [], _ :: _, _ => rfl
  | c :: p, [], h => by rw [glob_cons_nil _ _ (h c (by simp)).1]; rfl
  | c :: p, b :: s, h => by
    obtain ⟨h1, h2⟩ := h c (by simp)
    rw [glob_cons _ _ _ _ h1, glob_plain p s (fun x hx => h x (by simp [hx]))]
    simp [h2]

theorem glob_front (p s t : List UInt8) (h : glob p s = true) : glob (p ++ [42]) (s ++ t) = true := glob_two p [42] s t h (glob_all t)
theorem glob_behind (p s t : List UInt8) (h : glob p s = true) : glob (42 :: p) (t ++ s) = true := glob_two [42] p t s (glob_all t) h

theorem glob_marks : ∀ (n : Nat) (s : List UInt8), glob (List.replicate n 63) s = decide (s.length = n)
  | 0, [] => rfl
  | 0, _ :: _ => by simp [glob]
  | n + 1, [] => by rw [List.replicate_succ, glob_cons_nil _ _ (by decide)]; simp
  | n + 1, b :: s => by
    rw [List.replicate_succ, glob_cons _ _ _ _ (by decide), glob_marks n s]
    simp
theorem glob_marked (k m : Nat) (s : List UInt8) : glob (List.replicate k 63 ++ 42 :: List.replicate m 63) s = decide (k + m ≤ s.length) := by
  apply bool_ext
  rw [glob_append, decide_eq_true_eq]
  constructor
  · rintro ⟨u, v, rfl, h1, h2⟩
    rw [glob_star, tails_iff] at h2
    obtain ⟨a, b, rfl, h3⟩ := h2
    rw [glob_marks, decide_eq_true_eq] at h1 h3
    simp
    omega
  · intro h
    refine ⟨s.take k, s.drop k, by simp, ?_, ?_⟩
    · rw [glob_marks, decide_eq_true_eq, List.length_take]; omega
    · rw [glob_star, tails_iff]
      refine ⟨(s.drop k).take (s.length - k - m), (s.drop k).drop (s.length - k - m), (List.take_append_drop _ _).symm, ?_⟩
      rw [glob_marks, decide_eq_true_eq, List.length_drop, List.length_drop]
      omega
theorem glob_marks_behind (n : Nat) (s : List UInt8) : glob (42 :: List.replicate n 63) s = decide (n ≤ s.length) := by
  have h := glob_marked 0 n s
  rw [List.replicate_zero, List.nil_append, Nat.zero_add] at h
  exact h
theorem glob_self_star (s : List UInt8) : glob (s ++ [42]) s = true := by
  have h := glob_front s s [] (glob_self s)
  rw [List.append_nil] at h
  exact h

theorem plainL_app {p q : List UInt8} (h1 : plainL p) (h2 : plainL q) : plainL (p ++ q) := fun c hc => by
  rcases List.mem_append.1 hc with h | h
  · exact h1 c h
  · exact h2 c h
theorem glob_parted (f b s : List UInt8) (hf : plainL f) (hb : plainL b) :
    glob (f ++ 42 :: b) s = (decide (f.length + b.length ≤ s.length) && (decide (s.take (min s.length f.length) = f) && decide (s.drop (s.length - b.length) = b))) := by
  apply bool_ext
  rw [glob_append, Bool.and_eq_true, Bool.and_eq_true, decide_eq_true_eq, decide_eq_true_eq, decide_eq_true_eq]
  constructor
  · rintro ⟨u, v, rfl, h1, h2⟩
    rw [glob_star, tails_iff] at h2
    obtain ⟨a, c, rfl, h3⟩ := h2
    rw [glob_plain _ _ hf, decide_eq_true_eq] at h1
    rw [glob_plain _ _ hb, decide_eq_true_eq] at h3
    subst h1 h3
    refine ⟨by simp only [List.length_append]; omega, ?_, ?_⟩
    · rw [show min (f ++ (a ++ b)).length f.length = f.length by simp]
      simp
    · rw [← List.append_assoc, show (f ++ a ++ b).length - b.length = (f ++ a).length by simp only [List.length_append]; omega]
      simp
  · rintro ⟨h1, h2, h3⟩
    rw [show min s.length f.length = f.length by omega] at h2
    refine ⟨s.take f.length, s.drop f.length, by simp, by rw [h2]; exact glob_self f, ?_⟩
    rw [glob_star, tails_iff]
    refine ⟨(s.drop f.length).take (s.length - b.length - f.length), (s.drop f.length).drop (s.length - b.length - f.length), (List.take_append_drop _ _).symm, ?_⟩
    rw [List.drop_drop, show f.length + (s.length - b.length - f.length) = s.length - b.length by omega, h3]
    exact glob_self b
theorem glob_between (f b s : List UInt8) : glob (f ++ 42 :: b) (f ++ (s ++ b)) = true :=
  glob_two f (42 :: b) f (s ++ b) (glob_self f) (glob_behind b b s (glob_self b))

/-! ### Names -/
theorem hostB_no (c : UInt8) (h : hostB c = true) : ¬ c = 58 ∧ ¬ c = 64 ∧ ¬ c = 33 := by
  refine ⟨?_, ?_, ?_⟩ <;> (rintro rfl; revert h; decide)
theorem locB_no (c : UInt8) (h : locB c = true) : ¬ c = 58 := by
  rintro rfl; revert h; decide
theorem made_all {f : UInt8 → Bool} {s : List UInt8} (h : made f s = true) : ∀ c ∈ s, f c = true := by
  simp only [made, Bool.and_eq_true, List.all_eq_true] at h
  exact h.2
theorem hostOf_sign {sg : UInt8} {s : List UInt8} {h : List UInt8} (e : hostOf sg s = some h) : (∃ t, s = sg :: t) ∧ host h = true := by
  cases s with
  | nil => cases e
  | cons c t =>
    simp only [hostOf] at e
    by_cases hc : c = sg
    · rw [if_pos hc] at e
      refine ⟨⟨t, by rw [hc]⟩, ?_⟩
      cases hp : parted t with
      | none => simp [hp] at e
      | some x =>
        obtain ⟨l, h'⟩ := x
        simp only [hp] at e
        by_cases hlh : (loc l && host h') = true
        · rw [if_pos hlh] at e
          rw [Bool.and_eq_true] at hlh
          rw [← Option.some.inj e]
          exact hlh.2
        · rw [if_neg hlh] at e; cases e
    · rw [if_neg hc] at e; cases e
theorem host_pos {s : List UInt8} (h : host s = true) : 1 ≤ s.length := by
  simp only [host, made, Bool.and_eq_true, decide_eq_true_eq] at h
  exact h.1.1
theorem not_both (s : List UInt8) : (user s && room s) = false := by
  unfold user room
  cases h1 : hostOf 64 s with
  | none => rfl
  | some a =>
    cases h2 : hostOf 33 s with
    | none => rfl
    | some b =>
      obtain ⟨⟨t, e1⟩, _⟩ := hostOf_sign h1
      obtain ⟨⟨t', e2⟩, _⟩ := hostOf_sign h2
      rw [e1] at e2
      simp at e2
theorem server_is (s : List UInt8) : (!(server s).isEmpty) = (user s || room s) := by
  unfold server user room
  cases h1 : hostOf 64 s with
  | some a =>
    have := host_pos (hostOf_sign h1).2
    cases a with
    | nil => simp at this
    | cons _ _ => simp
  | none =>
    cases h2 : hostOf 33 s with
    | none => rfl
    | some b =>
      have := host_pos (hostOf_sign h2).2
      cases b with
      | nil => simp at this
      | cons _ _ => simp
theorem server_host (s : List UInt8) (h : (server s).isEmpty = false) : host (server s) = true := by
  unfold server at h ⊢
  cases h1 : hostOf 64 s with
  | some a => exact (hostOf_sign h1).2
  | none =>
    cases h2 : hostOf 33 s with
    | none => simp [h1, h2] at h
    | some b => exact (hostOf_sign h2).2
theorem host_none (s : List UInt8) (h : host s = true) : (user s || room s) = false := by
  have hall := made_all h
  unfold user room
  have h1 : hostOf 64 s = none := by
    cases e : hostOf 64 s with
    | none => rfl
    | some a =>
      obtain ⟨⟨t, rfl⟩, _⟩ := hostOf_sign e
      have h64 := hall 64 (by simp)
      exact absurd h64 (by decide)
  have h2 : hostOf 33 s = none := by
    cases e : hostOf 33 s with
    | none => rfl
    | some a =>
      obtain ⟨⟨t, rfl⟩, _⟩ := hostOf_sign e
      have h33 := hall 33 (by simp)
      exact absurd h33 (by decide)
  rw [h1, h2]; rfl

/-- a sign, a local, a colon, a host -/
theorem hostOf_made (sg : UInt8) (l h : List UInt8) (hl : ∀ c ∈ l, locB c = true) : hostOf sg (sg :: (l ++ 58 :: h)) = if loc l && host h then some h else none := by
  simp only [hostOf, if_true, parted_of l h (fun c hc => locB_no c (hl c hc))]
theorem hostOf_other (sg c : UInt8) (t : List UInt8) (h : ¬ c = sg) : hostOf sg (c :: t) = none := by
  simp only [hostOf, h, if_false]
end Go.Proofs.Ytpfbiklbecdmiaa.Nm
