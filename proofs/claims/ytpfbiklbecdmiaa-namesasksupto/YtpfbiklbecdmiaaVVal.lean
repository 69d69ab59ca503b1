/-
  Layer 2, plain: the values that choices make.
-/
import Derived.Test.YtpfbiklbecdmiaaVMathB
set_option linter.unusedVariables false
set_option linter.unusedSimpArgs false
namespace Go.Proofs.Ytpfbiklbecdmiaa
namespace V
def keyTab : List ByteArray := [⟨#[97]⟩, ⟨#[98]⟩, ⟨#[109, 101, 109, 98, 101, 114, 115, 104, 105, 112]⟩, ⟨#[117, 115, 101, 114, 115]⟩, ⟨#[195, 169]⟩, ⟨#[101, 118, 101, 110, 116, 115]⟩, ⟨#[120]⟩, ⟨#[116, 121, 112, 101]⟩]
def kidsN (c : Int) (l : List V) : Nat := min (c % 4).toNat l.length
def objKey (c : Int) (j : Nat) : ByteArray := keyTab.getD ((c.toNat / 4 + 3 * j) % 8) ByteArray.empty
def objTo (c : Int) (kids : List V) : Nat → V
  | 0 => none5
  | j + 1 => withV (objTo c kids j) (objKey c j) (kids.getD j nul)
def textRaw (zs : List Int) (len i : Nat) : ByteArray := ⟨(Gm.pick Gm.textTab (zs.drop i) (min (min len (i + 3) - i) 40)).toArray⟩
def textOf (zs : List Int) (len i : Nat) : ByteArray := if 0 ≤ Gm.checkZ (textRaw zs len i).data.toList then ⟨#[122]⟩ else textRaw zs len i
def stepL (b c : Int) (l : List V) : List V := if b = 7 ∨ b = 8 ∨ b = 9 ∨ b = 10 then l.take (l.length - kidsN c l) else l
def stepX (zs : List Int) (len i : Nat) (b c : Int) (l : List V) : V :=
  if b = 0 then ⟨1, c % 2, ⟨#[]⟩, [], []⟩
  else if b = 1 ∨ b = 2 ∨ b = 3 then ⟨2, c - 100, ⟨#[]⟩, [], []⟩
  else if b = 4 then ⟨2, 9007199254740991 - c % 2, ⟨#[]⟩, [], []⟩
  else if b = 5 ∨ b = 6 then ⟨3, 0, textOf zs len i, [], []⟩
  else if b = 7 then ⟨4, 0, ⟨#[]⟩, [], l.drop (l.length - kidsN c l)⟩
  else if b = 8 ∨ b = 9 ∨ b = 10 then objTo c (l.drop (l.length - kidsN c l)) (kidsN c l)
  else nul
def stepV (zs : List Int) (len i : Nat) (l : List V) : List V :=
  stepL (zs.getD i 0 % 12) (zs.getD (i + 1) 0) l ++ [stepX zs len i (zs.getD i 0 % 12) (zs.getD (i + 1) 0) l]
def valTo (zs : List Int) (len : Nat) : Nat → List V
  | 0 => []
  | r + 1 => stepV zs len (2 * r) (valTo zs len r)
def valV (zs : List Int) (len : Nat) : V := ⟨4, 0, ⟨#[]⟩, [], valTo zs len (min 30 (len / 2))⟩

theorem wtK_splice (l : List ByteArray) (a b : Nat) (h : a ≤ b) (mid : List ByteArray) : wtK (splice l a b mid) ≤ wtK l + wtK mid := by
  unfold splice
  rw [wtK_append, wtK_append]
  have h1 := wtK_append (l.take a) (l.drop a)
  rw [List.take_append_drop] at h1
  have h2 : l.drop b = (l.drop a).drop (b - a) := by rw [List.drop_drop]; congr 1; omega
  have h3 := wtK_drop (l.drop a) (b - a)
  rw [← h2] at h3
  omega
theorem wtL_splice (l : List V) (a b : Nat) (h : a ≤ b) (mid : List V) : wtL (splice l a b mid) ≤ wtL l + wtL mid := by
  unfold splice
  rw [wtL_append, wtL_append]
  have h1 := wtL_append (l.take a) (l.drop a)
  rw [List.take_append_drop] at h1
  have h2 : l.drop b = (l.drop a).drop (b - a) := by rw [List.drop_drop]; congr 1; omega
  have h3 := wtL_drop (l.drop a) (b - a)
  rw [← h2] at h3
  omega
theorem wt_laid_le (x : V) (a b : Nat) (h : a ≤ b) (mk' : List ByteArray) (ml : List V) : wt (laid x a b mk' ml) ≤ wt x + wtK mk' + wtL ml := by
  obtain ⟨k, n, t, ks, l⟩ := x
  simp only [laid, wt_mk]
  have h1 := wtK_splice (ks.take (min ks.length l.length)) a b h mk'
  have h2 := wtK_take ks (min ks.length l.length)
  have h3 := wtL_splice (l.take (min ks.length l.length)) a b h ml
  have h4 := wtL_take l (min ks.length l.length)
  omega
theorem wt_with_le (x : V) (key : ByteArray) (y : V) : wt (withV x key y) ≤ wt x + 1 + key.size + wt y := by
  have e1 : wtK [key] = 1 + key.size := by simp [wtK]
  have e2 : wtL [y] = wt y := by rw [wtL_cons, wtL_nil]; omega
  have h5 : ∀ z : V, wt (with5 z key y) ≤ wt z + (1 + key.size) + wt y := by
    intro z
    unfold with5
    split
    · have := wt_laid_le z (place z key).toNat ((place z key).toNat + 1) (by omega) [key] [y]; omega
    · have := wt_laid_le z (room (z.keys.take (min z.keys.length z.list.length)) key) (room (z.keys.take (min z.keys.length z.list.length)) key) (Nat.le_refl _) [key] [y]; omega
  unfold withV
  split
  · have := h5 x; omega
  · have := h5 none5
    have e3 : wt none5 = 1 := by unfold none5; rw [wt_mk]; rfl
    have := wt_pos x
    omega
theorem kind_laid (x : V) (a b : Nat) (mk' : List ByteArray) (ml : List V) : (laid x a b mk' ml).kind = x.kind := by obtain ⟨k, n, t, ks, l⟩ := x; rfl
theorem kind_with (x : V) (key : ByteArray) (y : V) : (withV x key y).kind = 5 := by
  unfold withV with5
  split
  · rename_i h
    split
    · rw [kind_laid]; exact h
    · rw [kind_laid]; exact h
  · split <;> rw [kind_laid] <;> rfl
theorem kind_obj (c : Int) (kids : List V) (j : Nat) : (objTo c kids j).kind = 5 := by
  cases j with
  | zero => rfl
  | succ j => exact kind_with _ _ _
theorem objKey_size (c : Int) (j : Nat) : (objKey c j).size ≤ 10 := by
  unfold objKey
  have h : (c.toNat / 4 + 3 * j) % 8 < 8 := Nat.mod_lt _ (by decide)
  generalize (c.toNat / 4 + 3 * j) % 8 = q at h
  have : q = 0 ∨ q = 1 ∨ q = 2 ∨ q = 3 ∨ q = 4 ∨ q = 5 ∨ q = 6 ∨ q = 7 := by omega
  rcases this with rfl | rfl | rfl | rfl | rfl | rfl | rfl | rfl <;> decide
theorem wt_obj (c : Int) (kids : List V) (j : Nat) (hj : j ≤ kids.length) : wt (objTo c kids j) ≤ 1 + 11 * j + wtL (kids.take j) := by
  induction j with
  | zero =>
    have e3 : wt none5 = 1 := by unfold none5; rw [wt_mk]; rfl
    simp only [objTo, e3]; omega
  | succ j ih =>
    have h1 := wt_with_le (objTo c kids j) (objKey c j) (kids.getD j nul)
    have h2 := ih (by omega)
    have h3 := objKey_size c j
    have h4 : kids.getD j nul = kids[j] := by simp [List.getD, List.getElem?_eq_getElem (show j < kids.length by omega)]
    have h5 : wtL (kids.take (j + 1)) = wtL (kids.take j) + wt kids[j] := by
      rw [List.take_succ_eq_append_getElem (by omega), wtL_append, wtL_cons, wtL_nil]; omega
    simp only [objTo]
    rw [h4] at h1
    rw [h5, h4]
    omega
theorem pick_len (zs : List Int) (n : Nat) : (Gm.pick Gm.textTab zs n).length ≤ 4 * n := by
  unfold Gm.pick
  have hb : ∀ q : Nat, (Gm.textTab.getD q []).length ≤ 4 := by
    intro q
    by_cases h : q < 16
    · have : q = 0 ∨ q = 1 ∨ q = 2 ∨ q = 3 ∨ q = 4 ∨ q = 5 ∨ q = 6 ∨ q = 7 ∨ q = 8 ∨ q = 9 ∨ q = 10 ∨ q = 11 ∨ q = 12 ∨ q = 13 ∨ q = 14 ∨ q = 15 := by omega
      rcases this with rfl | rfl | rfl | rfl | rfl | rfl | rfl | rfl | rfl | rfl | rfl | rfl | rfl | rfl | rfl | rfl <;> decide
    · have : Gm.textTab.getD q [] = [] := by simp [List.getD, List.getElem?_eq_none (show Gm.textTab.length ≤ q by simp [Gm.textTab]; omega)]
      rw [this]; simp
  have hg : ∀ l : List Int, (l.flatMap fun z => Gm.textTab.getD (z.toNat % 16) []).length ≤ 4 * l.length := by
    intro l
    induction l with
    | nil => simp
    | cons z l ih =>
      rw [List.flatMap_cons, List.length_append, List.length_cons]
      have := hb (z.toNat % 16)
      omega
  have := hg (zs.take n)
  have h2 : (zs.take n).length ≤ n := by rw [List.length_take]; omega
  omega
theorem textRaw_size (zs : List Int) (len i : Nat) : (textRaw zs len i).size ≤ 12 := by
  unfold textRaw
  have := pick_len (zs.drop i) (min (min len (i + 3) - i) 40)
  show (Gm.pick Gm.textTab (zs.drop i) (min (min len (i + 3) - i) 40)).toArray.size ≤ 12
  rw [List.size_toArray]
  omega
theorem textOf_size (zs : List Int) (len i : Nat) : (textOf zs len i).size ≤ 12 := by
  unfold textOf
  split
  · decide
  · exact textRaw_size _ _ _
theorem textOf_utf (zs : List Int) (len i : Nat) : utf (textOf zs len i) = true := by
  unfold textOf
  split
  · unfold utf; rw [show Gm.checkZ (⟨#[122]⟩ : ByteArray).data.toList = -1 by decide +kernel]; rfl
  · rename_i h; unfold utf; simpa using h
section
variable {zs : List Int} {len i : Nat} {b c : Int} {l : List V}
theorem stepX_0 (h : b = 0) : stepX zs len i b c l = ⟨1, c % 2, ⟨#[]⟩, [], []⟩ := by unfold stepX; rw [if_pos h]
theorem stepX_1 (h : b = 1 ∨ b = 2 ∨ b = 3) : stepX zs len i b c l = ⟨2, c - 100, ⟨#[]⟩, [], []⟩ := by unfold stepX; rw [if_neg (by omega), if_pos h]
theorem stepX_4 (h : b = 4) : stepX zs len i b c l = ⟨2, 9007199254740991 - c % 2, ⟨#[]⟩, [], []⟩ := by unfold stepX; rw [if_neg (by omega), if_neg (by omega), if_pos h]
theorem stepX_5 (h : b = 5 ∨ b = 6) : stepX zs len i b c l = ⟨3, 0, textOf zs len i, [], []⟩ := by unfold stepX; rw [if_neg (by omega), if_neg (by omega), if_neg (by omega), if_pos h]
theorem stepX_7 (h : b = 7) : stepX zs len i b c l = ⟨4, 0, ⟨#[]⟩, [], l.drop (l.length - kidsN c l)⟩ := by unfold stepX; rw [if_neg (by omega), if_neg (by omega), if_neg (by omega), if_neg (by omega), if_pos h]
theorem stepX_8 (h : b = 8 ∨ b = 9 ∨ b = 10) : stepX zs len i b c l = objTo c (l.drop (l.length - kidsN c l)) (kidsN c l) := by unfold stepX; rw [if_neg (by omega), if_neg (by omega), if_neg (by omega), if_neg (by omega), if_neg (by omega), if_pos h]
theorem stepX_e (h : b < 0 ∨ 10 < b) : stepX zs len i b c l = nul := by unfold stepX; rw [if_neg (by omega), if_neg (by omega), if_neg (by omega), if_neg (by omega), if_neg (by omega), if_neg (by omega)]
theorem stepL_all (h : ¬ (b = 7 ∨ b = 8 ∨ b = 9 ∨ b = 10)) : stepL b c l = l := by unfold stepL; rw [if_neg h]
theorem stepL_cut (h : b = 7 ∨ b = 8 ∨ b = 9 ∨ b = 10) : stepL b c l = l.take (l.length - kidsN c l) := by unfold stepL; rw [if_pos h]
end
theorem wt_step (zs : List Int) (len i : Nat) (l : List V) : wtL (stepV zs len i l) ≤ wtL l + 100 := by
  unfold stepV
  generalize zs.getD i 0 % 12 = b
  generalize zs.getD (i + 1) 0 = c
  rw [wtL_append, wtL_cons, wtL_nil]
  have hk : kidsN c l ≤ l.length := by unfold kidsN; omega
  have hk4 : kidsN c l ≤ 3 := by unfold kidsN; omega
  have hs := wtL_append (l.take (l.length - kidsN c l)) (l.drop (l.length - kidsN c l))
  rw [List.take_append_drop] at hs
  have hd : (l.drop (l.length - kidsN c l)).length = kidsN c l := by rw [List.length_drop]; omega
  have hb : ∀ (k n : Int) (t : ByteArray), t.size ≤ 12 → wt ⟨k, n, t, [], []⟩ ≤ 13 := by
    intro k n t ht; rw [wt_mk]; simp only [wtK, wtL_nil]; omega
  have e0 : (⟨#[]⟩ : ByteArray).size ≤ 12 := by decide
  by_cases h0 : b = 0
  · rw [stepX_0 h0, stepL_all (by omega)]; have := hb 1 (c % 2) ⟨#[]⟩ e0; omega
  · by_cases h1 : b = 1 ∨ b = 2 ∨ b = 3
    · rw [stepX_1 h1, stepL_all (by omega)]; have := hb 2 (c - 100) ⟨#[]⟩ e0; omega
    · by_cases h4 : b = 4
      · rw [stepX_4 h4, stepL_all (by omega)]; have := hb 2 (9007199254740991 - c % 2) ⟨#[]⟩ e0; omega
      · by_cases h5 : b = 5 ∨ b = 6
        · rw [stepX_5 h5, stepL_all (by omega)]; have := hb 3 0 _ (textOf_size zs len i); omega
        · by_cases h7 : b = 7
          · rw [stepX_7 h7, stepL_cut (by omega), wt_mk]
            have e1 : (⟨#[]⟩ : ByteArray).size = 0 := rfl
            simp only [wtK, e1]; omega
          · by_cases h8 : b = 8 ∨ b = 9 ∨ b = 10
            · rw [stepX_8 h8, stepL_cut (by omega)]
              have h1 := wt_obj c (l.drop (l.length - kidsN c l)) (kidsN c l) (by omega)
              have h2 := wtL_take (l.drop (l.length - kidsN c l)) (kidsN c l)
              omega
            · rw [stepX_e (by omega), stepL_all (by omega)]; have := hb 0 0 ⟨#[]⟩ e0; unfold nul; omega
theorem wt_valTo (zs : List Int) (len r : Nat) : wtL (valTo zs len r) ≤ 100 * r := by
  induction r with
  | zero => simp [valTo, wtL_nil]
  | succ r ih => have := wt_step zs len (2 * r) (valTo zs len r); simp only [valTo]; omega
theorem wt_val (zs : List Int) (len : Nat) : wt (valV zs len) ≤ 4000 := by
  unfold valV
  rw [wt_mk]
  have := wt_valTo zs len (min 30 (len / 2))
  have e1 : (⟨#[]⟩ : ByteArray).size = 0 := rfl
  simp only [wtK, e1]
  omega
end V
end Go.Proofs.Ytpfbiklbecdmiaa
