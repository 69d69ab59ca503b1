/-
  PLAIN LEAN: what the laws of layer 6 say, over lists of bytes. No program is named here.
-/
import Derived.Test.YtpfbiklbecdmiaaNMath
set_option linter.unusedVariables false
set_option linter.unusedSimpArgs false
namespace Go.Proofs.Ytpfbiklbecdmiaa.Nm

theorem glob_append : ∀ (p q s : List UInt8), glob (p ++ q) s = true ↔ ∃ u v, s = u ++ v ∧ glob p u = true ∧ glob q v = true
  | [], q, s => by
    constructor
    · intro h; exact ⟨[], s, rfl, rfl, h⟩
    · rintro ⟨u, v, rfl, h1, h2⟩
      have : u = [] := by simpa [glob] using h1
      subst this
      exact h2
  | c :: p, q, s => by
    constructor
    · intro h
      by_cases hc : c = 42
      · subst hc
        rw [List.cons_append, glob_star, tails_iff] at h
        obtain ⟨a, b, rfl, hb⟩ := h
        obtain ⟨u, v, rfl, h1, h2⟩ := (glob_append p q b).1 hb
        refine ⟨a ++ u, v, by simp, ?_, h2⟩
        rw [glob_star, tails_iff]
        exact ⟨a, u, rfl, h1⟩
      · cases s with
        | nil => rw [List.cons_append, glob_cons_nil _ _ hc] at h; cases h
        | cons b s =>
          rw [List.cons_append, glob_cons _ _ _ _ hc, Bool.and_eq_true] at h
          obtain ⟨u, v, rfl, h1, h2⟩ := (glob_append p q s).1 h.2
          refine ⟨b :: u, v, rfl, ?_, h2⟩
          rw [glob_cons _ _ _ _ hc, h.1, h1]
          rfl
    · rintro ⟨u, v, rfl, h1, h2⟩
      exact glob_two _ _ _ _ h1 h2

theorem star_two (p s : List UInt8) : glob (p ++ [42, 42]) s = glob (p ++ [42]) s := by
  apply bool_ext
  rw [glob_append, glob_append]
  constructor
  · rintro ⟨u, v, rfl, h1, _⟩
    exact ⟨u, v, rfl, h1, glob_all v⟩
  · rintro ⟨u, v, rfl, h1, _⟩
    refine ⟨u, v, rfl, h1, ?_⟩
    rw [glob_star, tails_iff]
    exact ⟨[], v, rfl, glob_all v⟩

def plainL (p : List UInt8) : Prop := ∀ c ∈ p, ¬ c = 42 ∧ ¬ c = 63
theorem glob_plain : ∀ (p s : List UInt8), plainL p → glob p s = decide (p = s)
  | [], [], _ => rfl
  | [], _ :: _, _ => rfl
  | c :: p, [], h => by rw [glob_cons_nil _ _ (h c (by simp)).1]; rfl
  | c :: p, b :: s, h => by
    obtain ⟨h1, h2⟩ := h c (by simp)
    rw [glob_cons _ _ _ _ h1, glob_plain p s (fun x hx => h x (by simp [hx]))]
    simp [h2]

theorem glob_front (p s t : List UInt8) (h : glob p s = true) : glob (p ++ [42]) (s ++ t) = true := glob_two p [42] s t h (glob_all t)
theorem glob_behind (p s t : List UInt8) (h : glob p s = true) : glob (42 :: p) (t ++ s) = true := glob_two [42] p t s (glob_all t) h

theorem glob_marks : ∀ (n : Nat) (s : List UInt8), glob (List.replicate n 63) s = decide (s.length = n)
  | 0, [] => rfl
  | 0, _ :: _ => by simp [glob]
  | n + 1, [] => by rw [List.replicate_succ, glob_cons_nil _ _ (by decide)]; simp
  | n + 1, b :: s => by
    rw [List.replicate_succ, glob_cons _ _ _ _ (by decide), glob_marks n s]
    simp
theorem glob_marked (k m : Nat) (s : List UInt8) : glob (List.replicate k 63 ++ 42 :: List.replicate m 63) s = decide (k + m ≤ s.length) := by
  apply bool_ext
  rw [glob_append, decide_eq_true_eq]
  constructor
  · rintro ⟨u, v, rfl, h1, h2⟩
    rw [glob_star, tails_iff] at h2
    obtain ⟨a, b, rfl, h3⟩ := h2
    rw [glob_marks, decide_eq_true_eq] at h1 h3
    simp
    omega
  · intro h
    refine ⟨s.take k, s.drop k, by simp, ?_, ?_⟩
    · rw [glob_marks, decide_eq_true_eq, List.length_take]; omega
    · rw [glob_star, tails_iff]
      refine ⟨(s.drop k).take (s.length - k - m), (s.drop k).drop (s.length - k - m), (List.take_append_drop _ _).symm, ?_⟩
      rw [glob_marks, decide_eq_true_eq, List.length_drop, List.length_drop]
      omega
theorem glob_marks_behind (n : Nat) (s : List UInt8) : glob (42 :: List.replicate n 63) s = decide (n ≤ s.length) := by
  have h := glob_marked 0 n s
  rw [List.replicate_zero, List.nil_append, Nat.zero_add] at h
  exact h
theorem glob_self_star (s : List UInt8) : glob (s ++ [42]) s = true := by
  have h := glob_front s s [] (glob_self s)
  rw [List.append_nil] at h
  exact h

theorem plainL_app {p q : List UInt8} (h1 : plainL p) (h2 : plainL q) : plainL (p ++ q) := fun c hc => by
  rcases List.mem_append.1 hc with h | h
  · exact h1 c h
  · exact h2 c h
theorem glob_parted (f b s : List UInt8) (hf : plainL f) (hb : plainL b) :
    glob (f ++ 42 :: b) s = (decide (f.length + b.length ≤ s.length) && (decide (s.take (min s.length f.length) = f) && decide (s.drop (s.length - b.length) = b))) := by
  apply bool_ext
  rw [glob_append, Bool.and_eq_true, Bool.and_eq_true, decide_eq_true_eq, decide_eq_true_eq, decide_eq_true_eq]
  constructor
  · rintro ⟨u, v, rfl, h1, h2⟩
    rw [glob_star, tails_iff] at h2
    obtain ⟨a, c, rfl, h3⟩ := h2
    rw [glob_plain _ _ hf, decide_eq_true_eq] at h1
    rw [glob_plain _ _ hb, decide_eq_true_eq] at h3
    subst h1 h3
    refine ⟨by simp only [List.length_append]; omega, ?_, ?_⟩
    · rw [show min (f ++ (a ++ b)).length f.length = f.length by simp]
      simp
    · rw [← List.append_assoc, show (f ++ a ++ b).length - b.length = (f ++ a).length by simp only [List.length_append]; omega]
      simp
  · rintro ⟨h1, h2, h3⟩
    rw [show min s.length f.length = f.length by omega] at h2
    refine ⟨s.take f.length, s.drop f.length, by simp, by rw [h2]; exact glob_self f, ?_⟩
    rw [glob_star, tails_iff]
    refine ⟨(s.drop f.length).take (s.length - b.length - f.length), (s.drop f.length).drop (s.length - b.length - f.length), (List.take_append_drop _ _).symm, ?_⟩
    rw [List.drop_drop, show f.length + (s.length - b.length - f.length) = s.length - b.length by omega, h3]
    exact glob_self b
theorem glob_between (f b s : List UInt8) : glob (f ++ 42 :: b) (f ++ (s ++ b)) = true :=
  glob_two f (42 :: b) f (s ++ b) (glob_self f) (glob_behind b b s (glob_self b))

/-! ### Names -/
theorem hostB_no (c : UInt8) (h : hostB c = true) : ¬ c = 58 ∧ ¬ c = 64 ∧ ¬ c = 33 := by
  refine ⟨?_, ?_, ?_⟩ <;> (rintro rfl; revert h; decide)
theorem locB_no (c : UInt8) (h : locB c = true) : ¬ c = 58 := by
  rintro rfl; revert h; decide
theorem made_all {f : UInt8 → Bool} {s : List UInt8} (h : made f s = true) : ∀ c ∈ s, f c = true := by
  simp only [made, Bool.and_eq_true, List.all_eq_true] at h
  exact h.2
theorem hostOf_sign {sg : UInt8} {s : List UInt8} {h : List UInt8} (e : hostOf sg s = some h) : (∃ t, s = sg :: t) ∧ host h = true := by
  cases s with
  | nil => cases e
  | cons c t =>
    simp only [hostOf] at e
    by_cases hc : c = sg
    · rw [if_pos hc] at e
      refine ⟨⟨t, by rw [hc]⟩, ?_⟩
      cases hp : parted t with
      | none => simp [hp] at e
      | some x =>
        obtain ⟨l, h'⟩ := x
        simp only [hp] at e
        by_cases hlh : (loc l && host h') = true
        · rw [if_pos hlh] at e
          rw [Bool.and_eq_true] at hlh
          rw [← Option.some.inj e]
          exact hlh.2
        · rw [if_neg hlh] at e; cases e
    · rw [if_neg hc] at e; cases e
theorem host_pos {s : List UInt8} (h : host s = true) : 1 ≤ s.length := by
  simp only [host, made, Bool.and_eq_true, decide_eq_true_eq] at h
  exact h.1.1
theorem not_both (s : List UInt8) : (user s && room s) = false := by
  unfold user room
  cases h1 : hostOf 64 s with
  | none => rfl
  | some a =>
    cases h2 : hostOf 33 s with
    | none => rfl
    | some b =>
      obtain ⟨⟨t, e1⟩, _⟩ := hostOf_sign h1
      obtain ⟨⟨t', e2⟩, _⟩ := hostOf_sign h2
      rw [e1] at e2
      simp at e2
theorem server_is (s : List UInt8) : (!(server s).isEmpty) = (user s || room s) := by
  unfold server user room
  cases h1 : hostOf 64 s with
  | some a =>
    have := host_pos (hostOf_sign h1).2
    cases a with
    | nil => simp at this
    | cons _ _ => simp
  | none =>
    cases h2 : hostOf 33 s with
    | none => rfl
    | some b =>
      have := host_pos (hostOf_sign h2).2
      cases b with
      | nil => simp at this
      | cons _ _ => simp
theorem server_host (s : List UInt8) (h : (server s).isEmpty = false) : host (server s) = true := by
  unfold server at h ⊢
  cases h1 : hostOf 64 s with
  | some a => exact (hostOf_sign h1).2
  | none =>
    cases h2 : hostOf 33 s with
    | none => simp [h1, h2] at h
    | some b => exact (hostOf_sign h2).2
theorem host_none (s : List UInt8) (h : host s = true) : (user s || room s) = false := by
  have hall := made_all h
  unfold user room
  have h1 : hostOf 64 s = none := by
    cases e : hostOf 64 s with
    | none => rfl
    | some a =>
      obtain ⟨⟨t, rfl⟩, _⟩ := hostOf_sign e
      have h64 := hall 64 (by simp)
      exact absurd h64 (by decide)
  have h2 : hostOf 33 s = none := by
    cases e : hostOf 33 s with
    | none => rfl
    | some a =>
      obtain ⟨⟨t, rfl⟩, _⟩ := hostOf_sign e
      have h33 := hall 33 (by simp)
      exact absurd h33 (by decide)
  rw [h1, h2]; rfl

/-- a sign, a local, a colon, a host -/
theorem hostOf_made (sg : UInt8) (l h : List UInt8) (hl : ∀ c ∈ l, locB c = true) : hostOf sg (sg :: (l ++ 58 :: h)) = if loc l && host h then some h else none := by
  simp only [hostOf, if_true, parted_of l h (fun c hc => locB_no c (hl c hc))]
theorem hostOf_other (sg c : UInt8) (t : List UInt8) (h : ¬ c = sg) : hostOf sg (c :: t) = none := by
  simp only [hostOf, h, if_false]
end Go.Proofs.Ytpfbiklbecdmiaa.Nm
