/-
  Layer 2, plain: what is put into a right object is there, all else stays, and the object stays right (for the law ValueLaid).
-/
import Derived.Test.YteijnkdfacndoaaVMathB
set_option linter.unusedVariables false
set_option linter.unusedSimpArgs false
namespace Go.Proofs.Yteijnkdfacndoaa
namespace V

theorem bl_irr (l : List UInt8) : Op.bytesLess l l = false := by
  induction l with
  | nil => rfl
  | cons a l ih => simp [Op.bytesLess, ih]
theorem bl_trans : ∀ (a b c : List UInt8), Op.bytesLess a b = true → Op.bytesLess b c = true → Op.bytesLess a c = true
  | [], b, [], h1, h2 => by cases b <;> simp [Op.bytesLess] at h2
  | [], b, z :: c, h1, h2 => by simp [Op.bytesLess]
  | x :: a, [], c, h1, h2 => by simp [Op.bytesLess] at h1
  | x :: a, y :: b, [], h1, h2 => by simp [Op.bytesLess] at h2
  | x :: a, y :: b, z :: c, h1, h2 => by
    simp only [Op.bytesLess, Bool.or_eq_true, Bool.and_eq_true, decide_eq_true_eq, beq_iff_eq] at h1 h2 ⊢
    rcases h1 with h1 | ⟨rfl, h1⟩
    · rcases h2 with h2 | ⟨rfl, h2⟩
      · exact .inl (UInt8.lt_trans h1 h2)
      · exact .inl h1
    · rcases h2 with h2 | ⟨rfl, h2⟩
      · exact .inl h2
      · exact .inr ⟨rfl, bl_trans a b c h1 h2⟩
theorem bl_tri : ∀ (a b : List UInt8), a = b ∨ Op.bytesLess a b = true ∨ Op.bytesLess b a = true
  | [], [] => .inl rfl
  | [], y :: b => .inr (.inl (by simp [Op.bytesLess]))
  | x :: a, [] => .inr (.inr (by simp [Op.bytesLess]))
  | x :: a, y :: b => by
    simp only [Op.bytesLess, Bool.or_eq_true, Bool.and_eq_true, decide_eq_true_eq, beq_iff_eq]
    rcases UInt8.lt_or_lt_of_ne (a := x) (b := y) with h
    by_cases e : x = y
    · subst e
      rcases bl_tri a b with h1 | h1 | h1
      · exact .inl (by rw [h1])
      · exact .inr (.inl (.inr ⟨rfl, h1⟩))
      · exact .inr (.inr (.inr ⟨rfl, h1⟩))
    · rcases h e with h1 | h1
      · exact .inr (.inl (.inl h1))
      · exact .inr (.inr (.inl h1))
theorem ba_ext {a b : ByteArray} (h : a.toList = b.toList) : a = b := by
  rw [Lib.toList_data, Lib.toList_data] at h
  obtain ⟨⟨a⟩⟩ := a
  obtain ⟨⟨b⟩⟩ := b
  simp only at h
  rw [h]
theorem less_irr (a : ByteArray) : less a a = false := bl_irr _
theorem less_trans {a b c : ByteArray} (h1 : less a b = true) (h2 : less b c = true) : less a c = true := bl_trans _ _ _ h1 h2
theorem less_tri (a b : ByteArray) : a = b ∨ less a b = true ∨ less b a = true := by
  rcases bl_tri a.toList b.toList with h | h | h
  · exact .inl (ba_ext h)
  · exact .inr (.inl h)
  · exact .inr (.inr h)

/-- keys that rise -/
def Up (ks : List ByteArray) : Prop := (∀ k ∈ ks, utf k = true) ∧ ks.Pairwise (fun a b => less a b = true)
theorem rises_up (ks : List ByteArray) : rises ks = true ↔ Up ks := by
  unfold rises Up
  rw [risesTo_iff, List.pairwise_iff_getElem]
  have e : ∀ i (hi : i < ks.length), ks.getD i ByteArray.empty = ks[i] := fun i hi => by simp [List.getD, hi]
  constructor
  · intro h
    constructor
    · intro k hk
      obtain ⟨i, hi, rfl⟩ := List.getElem_of_mem hk
      have := h i hi
      simp only [keyOk, Bool.and_eq_true] at this
      rw [← e i hi]; exact this.1
    · intro i j hi hj hij
      have adj : ∀ d (hd : i + d + 1 < ks.length), less ks[i] ks[i + d + 1] = true := by
        intro d
        induction d with
        | zero =>
          intro hd
          have := h (i + 1) hd
          simp only [keyOk, Bool.and_eq_true, Bool.or_eq_true, beq_iff_eq, Nat.add_sub_cancel] at this
          rcases this.2 with h1 | h1
          · omega
          · rw [e _ hi, e _ hd] at h1; exact h1
        | succ d ih =>
          intro hd
          have h0 := ih (by omega)
          have := h (i + (d + 1) + 1) hd
          simp only [keyOk, Bool.and_eq_true, Bool.or_eq_true, beq_iff_eq, Nat.add_sub_cancel] at this
          rcases this.2 with h1 | h1
          · omega
          · rw [e _ (by omega), e _ hd] at h1
            exact less_trans h0 h1
      have := adj (j - i - 1) (by omega)
      have ej : i + (j - i - 1) + 1 = j := by omega
      simp only [ej] at this
      exact this
  · rintro ⟨h1, h2⟩ j hj
    simp only [keyOk, Bool.and_eq_true, Bool.or_eq_true, beq_iff_eq]
    refine ⟨by rw [e j hj]; exact h1 _ (List.getElem_mem hj), ?_⟩
    by_cases h0 : j = 0
    · exact .inl h0
    · right
      rw [e j hj, e (j - 1) (by omega)]
      exact h2 (j - 1) j (by omega) hj (by omega)

theorem idx_no {ks : List ByteArray} {key : ByteArray} (h : key ∉ ks) : Lib.idxOfS ks key < 0 := by
  rcases Int.lt_or_le (Lib.idxOfS ks key) 0 with h1 | h1
  · exact h1
  · exact absurd ((Lib.idxOfS_nonneg_iff ks key).1 h1) h
theorem idx_yes {ks : List ByteArray} {key : ByteArray} (a b : List ByteArray) (he : ks = a ++ key :: b) (h : key ∉ a) : Lib.idxOfS ks key = a.length := by
  subst he
  have := Lib.idxOfS_hit (a ++ key :: b) (a ++ key :: b).length a.length key (by simp) (Nat.le_refl _) (by simp [List.getD]) (fun j hj => by
    have e : (a ++ key :: b).getD j ByteArray.empty = a[j] := by simp [List.getD, List.getElem?_append_left hj, hj]
    rw [e]
    intro hh
    exact h (hh ▸ List.getElem_mem hj))
  rw [List.take_length] at this
  exact this

/-- an object, right: its pairs -/
theorem right_obj {n : Int} {t : ByteArray} {ks : List ByteArray} {l : List V} (h : right ⟨5, n, t, ks, l⟩ = true) :
    n = 0 ∧ t.toList.isEmpty = true ∧ Up ks ∧ ks.length = l.length ∧ l.all right = true := by
  rw [right_mk] at h
  simp only [Bool.and_eq_true, keysOk, if_true, decide_eq_true_eq, numOk, textOk] at h
  obtain ⟨⟨⟨⟨⟨_, h1⟩, h2⟩, h3, h4⟩, h5⟩, _⟩ := h
  refine ⟨by simpa using h1, by simpa using h2, (rises_up _).1 h3, h4, h5⟩
theorem obj_right {n : Int} {t : ByteArray} {ks : List ByteArray} {l : List V} (h1 : n = 0) (h2 : t.toList.isEmpty = true) (h3 : Up ks) (h4 : ks.length = l.length) (h5 : l.all right = true) : right ⟨5, n, t, ks, l⟩ = true := by
  rw [right_mk]
  simp [kindOk, numOk, textOk, keysOk, h1, h2, (rises_up _).2 h3, h4, h5]

theorem all_take {l : List V} (h : l.all right = true) (m : Nat) : (l.take m).all right = true := by
  rw [List.all_eq_true] at *
  exact fun x hx => h x (List.mem_of_mem_take hx)
theorem all_drop {l : List V} (h : l.all right = true) (m : Nat) : (l.drop m).all right = true := by
  rw [List.all_eq_true] at *
  exact fun x hx => h x (List.mem_of_mem_drop hx)
theorem up_no {ka kb : List ByteArray} {key : ByteArray} (hu : Up (ka ++ key :: kb)) : key ∉ ka ∧ key ∉ kb := by
  obtain ⟨_, h2, h3⟩ := List.pairwise_append.1 hu.2
  constructor
  · intro hh
    have := h3 key hh key (by simp)
    rw [less_irr] at this
    cases this
  · intro hh
    have := (List.pairwise_cons.1 h2).1 key hh
    rw [less_irr] at this
    cases this
theorem up_sub {ka kb : List ByteArray} {key : ByteArray} (hu : Up (ka ++ key :: kb)) : Up (ka ++ kb) := by
  refine ⟨fun k hk => hu.1 k ?_, hu.2.sublist ?_⟩
  · rcases List.mem_append.1 hk with h | h
    · exact List.mem_append.2 (.inl h)
    · exact List.mem_append.2 (.inr (List.mem_cons_of_mem _ h))
  · exact (List.Sublist.refl ka).append (List.sublist_cons_self _ _)

/-- where the key is there -/
theorem hit_form (n : Int) (t : ByteArray) (key : ByteArray) (z : V) {ka kb : List ByteArray} {la lb : List V} (h1 : ka.length = la.length) (h2 : kb.length = lb.length) (hu : Up (ka ++ key :: kb)) :
    place ⟨5, n, t, ka ++ key :: kb, la ++ z :: lb⟩ key = ka.length ∧
    (∀ x, withV ⟨5, n, t, ka ++ key :: kb, la ++ z :: lb⟩ key x = ⟨5, n, t, ka ++ key :: kb, la ++ x :: lb⟩) ∧
    without ⟨5, n, t, ka ++ key :: kb, la ++ z :: lb⟩ key = ⟨5, n, t, ka ++ kb, la ++ lb⟩ := by
  have hm : min (ka ++ key :: kb).length (la ++ z :: lb).length = (ka ++ key :: kb).length := by simp; omega
  have hm3 : (ka ++ key :: kb).take (min (ka ++ key :: kb).length (la ++ z :: lb).length) = ka ++ key :: kb := by rw [hm, List.take_length]
  have hm2 : (la ++ z :: lb).take (min (ka ++ key :: kb).length (la ++ z :: lb).length) = la ++ z :: lb := by
    rw [hm, show (ka ++ key :: kb).length = (la ++ z :: lb).length by simp; omega, List.take_length]
  have hp : place ⟨5, n, t, ka ++ key :: kb, la ++ z :: lb⟩ key = ka.length := by
    simp only [place, if_true, hm3]
    exact idx_yes ka kb rfl (up_no hu).1
  have e1 : (ka ++ key :: kb).take ka.length = ka := by simp
  have e2 : (ka ++ key :: kb).drop (ka.length + 1) = kb := by
    rw [← List.drop_drop]; simp
  have e3 : (la ++ z :: lb).take ka.length = la := by rw [h1]; simp
  have e4 : (la ++ z :: lb).drop (ka.length + 1) = lb := by
    rw [h1, ← List.drop_drop]; simp
  refine ⟨hp, fun x => ?_, ?_⟩
  · unfold withV
    rw [if_pos rfl]
    unfold with5
    rw [hp, if_pos (by omega)]
    simp only [laid, splice, hm2, hm3, Int.toNat_natCast, e1, e2, e3, e4, List.append_assoc, List.singleton_append]
  · unfold without
    rw [hp, if_pos (by omega)]
    simp only [laid, splice, hm2, hm3, Int.toNat_natCast, e1, e2, e3, e4, List.append_nil]

/-- where it is not -/
theorem miss_form (n : Int) (t : ByteArray) (key : ByteArray) (hk : utf key = true) {ks : List ByteArray} {l : List V} (hl : ks.length = l.length) (hu : Up ks) (hno : key ∉ ks) :
    place ⟨5, n, t, ks, l⟩ key < 0 ∧ without ⟨5, n, t, ks, l⟩ key = ⟨5, n, t, ks, l⟩ ∧
    ∃ r, r ≤ ks.length ∧ Up (ks.take r ++ key :: ks.drop r) ∧ ∀ x, withV ⟨5, n, t, ks, l⟩ key x = ⟨5, n, t, ks.take r ++ key :: ks.drop r, l.take r ++ x :: l.drop r⟩ := by
  have hm : min ks.length l.length = ks.length := by omega
  have hm3 : ks.take (min ks.length l.length) = ks := by rw [hm, List.take_length]
  have hm2 : l.take (min ks.length l.length) = l := by rw [hm, hl, List.take_length]
  have hp : place ⟨5, n, t, ks, l⟩ key < 0 := by
    simp only [place, if_true, hm3]
    exact idx_no hno
  refine ⟨hp, ?_, room ks key, room_le _ _, ?_, fun x => ?_⟩
  · unfold without
    rw [if_neg (by omega)]
  · have hb : ∀ a ∈ ks.take (room ks key), less a key = true := by
      intro a ha
      obtain ⟨i, hi, rfl⟩ := List.getElem_of_mem ha
      rw [List.length_take] at hi
      rw [List.getElem_take]
      have := List.not_of_lt_findIdx (p := fun k => !less k key) (xs := ks) (i := i) (by unfold room at hi; omega)
      simpa using this
    have hd : ∀ b ∈ ks.drop (room ks key), less key b = true := by
      intro b hb'
      have hr : room ks key < ks.length := by
        rcases Nat.lt_or_ge (room ks key) ks.length with h | h
        · exact h
        · rw [List.drop_eq_nil_of_le h] at hb'; cases hb'
      have h0 := List.findIdx_getElem (p := fun k => !less k key) (xs := ks) (w := hr)
      have h1 : less ks[room ks key] key = false := by
        simp only [Bool.not_eq_true'] at h0
        exact h0
      have h2 : less key ks[room ks key] = true := by
        rcases less_tri key ks[room ks key] with h | h | h
        · exact absurd (h ▸ List.getElem_mem hr) hno
        · exact h
        · rw [h1] at h; cases h
      rw [List.drop_eq_getElem_cons hr] at hb'
      rcases List.mem_cons.1 hb' with rfl | h3
      · exact h2
      · have hpw : (ks.drop (room ks key)).Pairwise (fun a b => less a b = true) := hu.2.sublist (List.drop_sublist _ _)
        rw [List.drop_eq_getElem_cons hr] at hpw
        exact less_trans h2 ((List.pairwise_cons.1 hpw).1 b h3)
    refine ⟨?_, ?_⟩
    · intro k hkm
      rcases List.mem_append.1 hkm with h | h
      · exact hu.1 k (List.mem_of_mem_take h)
      · rcases List.mem_cons.1 h with rfl | h
        · exact hk
        · exact hu.1 k (List.mem_of_mem_drop h)
    · rw [List.pairwise_append]
      refine ⟨hu.2.sublist (List.take_sublist _ _), List.pairwise_cons.2 ⟨hd, hu.2.sublist (List.drop_sublist _ _)⟩, ?_⟩
      intro a ha b hb'
      rcases List.mem_cons.1 hb' with rfl | h
      · exact hb a ha
      · exact less_trans (hb a ha) (hd b h)
  · unfold withV
    rw [if_pos rfl]
    unfold with5
    rw [if_neg (by omega)]
    simp only [laid, splice, hm2, hm3, List.append_assoc, List.singleton_append]

/-- another key is where it was -/
theorem find_mid {ka kb : List ByteArray} {la lb : List V} (h1 : ka.length = la.length) (h2 : kb.length = lb.length) (o : ByteArray) :
    (o ∉ ka ∧ o ∉ kb) ∨ ∃ y, ∀ (mid : List ByteArray) (ml : List V), o ∉ mid → mid.length = ml.length → ∃ p : Nat, Lib.idxOfS (ka ++ (mid ++ kb)) o = p ∧ (la ++ (ml ++ lb))[p]? = some y := by
  by_cases ha : o ∈ ka
  · right
    have hfirst : ∃ a1 a2, ka = a1 ++ o :: a2 ∧ o ∉ a1 := by
      clear h1
      induction ka with
      | nil => cases ha
      | cons c ka ih =>
        by_cases e : c = o
        · exact ⟨[], ka, by rw [e]; rfl, by simp⟩
        · rcases List.mem_cons.1 ha with h | h
          · exact absurd h.symm e
          · obtain ⟨a1, a2, h3, h4⟩ := ih h
            exact ⟨c :: a1, a2, by rw [h3]; rfl, by simp [h4, Ne.symm e]⟩
    obtain ⟨a1, a2, rfl, hn⟩ := hfirst
    have hlt : a1.length < la.length := by simp at h1; omega
    refine ⟨la[a1.length], fun mid ml _ _ => ⟨a1.length, idx_yes a1 (a2 ++ (mid ++ kb)) (by simp) hn, ?_⟩⟩
    rw [List.getElem?_append_left hlt, List.getElem?_eq_getElem hlt]
  · by_cases hb : o ∈ kb
    · right
      have hfirst : ∃ a1 a2, kb = a1 ++ o :: a2 ∧ o ∉ a1 := by
        clear h2
        induction kb with
        | nil => cases hb
        | cons c kb ih =>
          by_cases e : c = o
          · exact ⟨[], kb, by rw [e]; rfl, by simp⟩
          · rcases List.mem_cons.1 hb with h | h
            · exact absurd h.symm e
            · obtain ⟨a1, a2, h3, h4⟩ := ih h
              exact ⟨c :: a1, a2, by rw [h3]; rfl, by simp [h4, Ne.symm e]⟩
      obtain ⟨a1, a2, rfl, hn⟩ := hfirst
      have hlt : a1.length < lb.length := by simp at h2; omega
      refine ⟨lb[a1.length], fun mid ml hm hml => ⟨(ka ++ (mid ++ a1)).length, idx_yes (ka ++ (mid ++ a1)) a2 (by simp) (by simp [ha, hm, hn]), ?_⟩⟩
      have e : (ka ++ (mid ++ a1)).length = la.length + (ml.length + a1.length) := by simp; omega
      rw [e, List.getElem?_append_right (by omega), List.getElem?_append_right (by omega)]
      have e2 : la.length + (ml.length + a1.length) - la.length - ml.length = a1.length := by omega
      rw [e2, List.getElem?_eq_getElem hlt]
    · exact .inl ⟨ha, hb⟩

theorem place_obj (n : Int) (t : ByteArray) {ks : List ByteArray} {l : List V} (hl : ks.length = l.length) (o : ByteArray) : place ⟨5, n, t, ks, l⟩ o = Lib.idxOfS ks o := by
  have hm : min ks.length l.length = ks.length := by omega
  simp only [place, if_true, hm, List.take_length]

/-- all that ValueLaid asks -/
structure Laid (v : V) (key other : ByteArray) (x : V) : Prop where
  rw : right (withV v key x) = true
  put : ∃ p : Nat, place (withV v key x) key = p ∧ (withV v key x).list[p]? = some x
  same : without (withV v key x) key = without v key
  ru : right (without v key) = true
  gone : place (without v key) key < 0
  twice : without (without v key) key = without v key
  again : withV (withV v key x) key x = withV v key x
  rest : other = key ∨ (place v other < 0 ∧ place (withV v key x) other < 0) ∨ ∃ (y : V) (p q : Nat), place v other = p ∧ v.list[p]? = some y ∧ place (withV v key x) other = q ∧ (withV v key x).list[q]? = some y

theorem laid_all {v : V} (hv : right v = true) (h5 : v.kind = 5) (key other : ByteArray) (hk : utf key = true) (x : V) (hx : right x = true) : Laid v key other x := by
  obtain ⟨k, n, t, ks, l⟩ := v
  simp only at h5
  subst h5
  obtain ⟨hn, ht, hu, hl, ha⟩ := right_obj hv
  -- the form, either way
  have form : ∃ ka kb la lb, ka.length = la.length ∧ kb.length = lb.length ∧ Up (ka ++ key :: kb) ∧ la.all right = true ∧ lb.all right = true ∧ withV ⟨5, n, t, ks, l⟩ key x = ⟨5, n, t, ka ++ key :: kb, la ++ x :: lb⟩ ∧ without ⟨5, n, t, ks, l⟩ key = ⟨5, n, t, ka ++ kb, la ++ lb⟩ ∧ ∃ mid ml, ks = ka ++ (mid ++ kb) ∧ l = la ++ (ml ++ lb) ∧ mid.length = ml.length ∧ (mid = [] ∨ mid = [key]) := by
    by_cases hin : key ∈ ks
    · obtain ⟨ka, kb, rfl⟩ := List.append_of_mem hin
      have hlt : ka.length < l.length := by simp at hl; omega
      have hsp : l = l.take ka.length ++ l[ka.length] :: l.drop (ka.length + 1) := by
        rw [← List.drop_eq_getElem_cons hlt, List.take_append_drop]
      have q1 : ka.length = (l.take ka.length).length := by rw [List.length_take]; omega
      have q2 : kb.length = (l.drop (ka.length + 1)).length := by simp at hl ⊢; omega
      have hf := hit_form n t key l[ka.length] q1 q2 hu
      rw [← hsp] at hf
      exact ⟨ka, kb, _, _, q1, q2, hu, all_take ha _, all_drop ha _, hf.2.1 x, hf.2.2, [key], [l[ka.length]], rfl, hsp, rfl, .inr rfl⟩
    · obtain ⟨h1, h2, r, hr, h3, h4⟩ := miss_form n t key hk hl hu hin
      exact ⟨ks.take r, ks.drop r, l.take r, l.drop r, by simp; omega, by simp; omega, h3, all_take ha _, all_drop ha _, h4 x, by rw [h2, List.take_append_drop, List.take_append_drop], [], [], by simp, by simp, rfl, .inl rfl⟩
  obtain ⟨ka, kb, la, lb, q1, q2, hup, hla, hlb, hw, ho, mid, ml, hks, hll, hml, hmid⟩ := form
  have hf := hit_form n t key x q1 q2 hup
  have hlo : (ka ++ kb).length = (la ++ lb).length := by simp; omega
  have hno : key ∉ ka ++ kb := by
    have := up_no hup
    simp [this.1, this.2]
  have hm := miss_form n t key hk hlo (up_sub hup) hno
  have hlw : (ka ++ key :: kb).length = (la ++ x :: lb).length := by simp; omega
  refine ⟨?_, ?_, ?_, ?_, ?_, ?_, ?_, ?_⟩
  · rw [hw]
    refine obj_right hn ht hup hlw ?_
    simp [hla, hlb, hx]
  · refine ⟨ka.length, by rw [hw]; exact hf.1, ?_⟩
    rw [hw, q1]
    simp
  · rw [hw, ho]; exact hf.2.2
  · rw [ho]
    refine obj_right hn ht (up_sub hup) hlo ?_
    simp [hla, hlb]
  · rw [ho]; exact hm.1
  · rw [ho]; exact hm.2.1
  · rw [hw]; exact hf.2.1 x
  · by_cases he : other = key
    · exact .inl he
    · right
      rw [hw, place_obj n t hl, place_obj n t hlw]
      have hnm : other ∉ mid := by
        rcases hmid with rfl | rfl
        · simp
        · simp [he]
      have hnk : other ∉ [key] := by simp [he]
      rcases find_mid q1 q2 other with ⟨h1, h2⟩ | ⟨y, hy⟩
      · left
        rw [hks]
        exact ⟨idx_no (by simp [h1, h2, hnm]), idx_no (by simp [h1, h2, he])⟩
      · right
        obtain ⟨p, hp1, hp2⟩ := hy mid ml hnm hml
        obtain ⟨q, hq1, hq2⟩ := hy [key] [x] hnk rfl
        exact ⟨y, p, q, by rw [hks]; exact hp1, by rw [hll]; exact hp2, hq1, hq2⟩
end V
end Go.Proofs.Yteijnkdfacndoaa
