/-
  Layer 2, plain: more on values.
-/
import Derived.Test.YtpfbiklbecdmiaaVMath
set_option linter.unusedVariables false
set_option linter.unusedSimpArgs false
namespace Go.Proofs.Ytpfbiklbecdmiaa
namespace V
theorem wtL_list (x : V) : wtL x.list < wt x := by cases x; rw [wt_mk]; simp only; omega
theorem wtK_keys (x : V) : wtK x.keys < wt x := by cases x; rw [wt_mk]; simp only; omega
theorem text_wt (x : V) : x.text.size < wt x := by cases x; rw [wt_mk]; simp only; omega
theorem wt_get (x : V) (p : Nat) (h : p < x.list.length) : wt x.list[p] < wt x := Nat.lt_of_le_of_lt (wtL_mem (List.getElem_mem h)) (wtL_list x)
theorem len_wt (x : V) : x.list.length < wt x := Nat.lt_of_le_of_lt (wtL_len _) (wtL_list x)
theorem klen_wt (x : V) : x.keys.length < wt x := Nat.lt_of_le_of_lt (wtK_len _) (wtK_keys x)
theorem room_hit (ks : List ByteArray) (key : ByteArray) (j : Nat) (h : j < ks.length) (h1 : less (ks.getD j ByteArray.empty) key = false) (h2 : ∀ i, i < j → less (ks.getD i ByteArray.empty) key = true) : room ks key = j := by
  unfold room
  rw [List.findIdx_eq h]
  have e : ∀ i (hi : i < ks.length), ks.getD i ByteArray.empty = ks[i] := fun i hi => by simp [List.getD, hi]
  constructor
  · rw [← e j h, h1]; rfl
  · intro i hi
    rw [← e i (by omega), h2 i hi]; rfl
theorem room_miss (ks : List ByteArray) (key : ByteArray) (h2 : ∀ i, i < ks.length → less (ks.getD i ByteArray.empty) key = true) : room ks key = ks.length := by
  unfold room
  rw [List.findIdx_eq_length]
  intro x hx
  obtain ⟨i, hi, rfl⟩ := List.getElem_of_mem hx
  have e : ks.getD i ByteArray.empty = ks[i] := by simp [List.getD, hi]
  rw [← e, h2 i hi]; rfl
theorem room_le (ks : List ByteArray) (key : ByteArray) : room ks key ≤ ks.length := List.findIdx_le_length
theorem getD_take (ks : List ByteArray) (m i : Nat) (h : i < m) : (ks.take m).getD i ByteArray.empty = ks.getD i ByteArray.empty := by
  simp only [List.getD, List.getElem?_take_of_lt h]
theorem idx_lt (ks : List ByteArray) (key : ByteArray) (h : 0 ≤ Lib.idxOfS ks key) : (Lib.idxOfS ks key).toNat < ks.length := by
  have hm := (Lib.idxOfS_nonneg_iff ks key).1 h
  have hx : ∃ k, k < ks.length ∧ ks.getD k ByteArray.empty = key ∧ ∀ j, j < k → ks.getD j ByteArray.empty ≠ key := by
    clear h
    induction ks with
    | nil => cases hm
    | cons a ks ih =>
      by_cases e : a = key
      · exact ⟨0, by simp, by simpa using e, fun j hj => absurd hj (Nat.not_lt_zero _)⟩
      · have hm' : key ∈ ks := by
          rcases List.mem_cons.1 hm with h | h
          · exact absurd h.symm e
          · exact h
        obtain ⟨k, h1, h2, h3⟩ := ih hm'
        refine ⟨k + 1, by simpa using h1, by simpa using h2, fun j hj => ?_⟩
        cases j with
        | zero => simpa using e
        | succ j => simpa using h3 j (by omega)
  obtain ⟨k, h1, h2, h3⟩ := hx
  have := Lib.idxOfS_hit ks ks.length k key h1 (Nat.le_refl _) h2 h3
  rw [List.take_length] at this
  omega
theorem place_lt (x : V) (key : ByteArray) (h : 0 ≤ place x key) : x.kind = 5 ∧ (place x key).toNat < min x.keys.length x.list.length := by
  obtain ⟨k, n, t, ks, l⟩ := x
  simp only [place] at *
  by_cases hk : k = 5
  · rw [if_pos hk] at *
    have := idx_lt _ _ h
    rw [List.length_take] at this
    exact ⟨hk, by omega⟩
  · rw [if_neg hk] at h; omega
theorem wt_laid (x : V) (a b : Nat) (mk' : List ByteArray) (ml : List V) : wt (laid x a b mk' ml) ≤ 2 * wt x + wtK mk' + wtL ml := by
  obtain ⟨k, n, t, ks, l⟩ := x
  simp only [laid, wt_mk, splice, wtK_append, wtL_append]
  have h1 := wtK_take (ks.take (min ks.length l.length)) a
  have h2 := wtK_take ks (min ks.length l.length)
  have h3 := wtK_drop (ks.take (min ks.length l.length)) b
  have h4 := wtL_take (l.take (min ks.length l.length)) a
  have h5 := wtL_take l (min ks.length l.length)
  have h6 := wtL_drop (l.take (min ks.length l.length)) b
  omega
theorem wt_withV (x : V) (key : ByteArray) (y : V) : wt (withV x key y) ≤ 2 * wt x + key.size + wt y + 5 := by
  have e1 : wtK [key] = 1 + key.size := by simp [wtK]
  have e2 : wtL [y] = wt y := by rw [wtL_cons, wtL_nil]; omega
  have h5 : ∀ z : V, wt (with5 z key y) ≤ 2 * wt z + (1 + key.size) + wt y := by
    intro z
    unfold with5
    split
    · have := wt_laid z (place z key).toNat ((place z key).toNat + 1) [key] [y]; omega
    · have := wt_laid z (room (z.keys.take (min z.keys.length z.list.length)) key) (room (z.keys.take (min z.keys.length z.list.length)) key) [key] [y]; omega
  unfold withV
  split
  · have := h5 x; omega
  · have := h5 none5
    have e3 : wt none5 = 1 := by unfold none5; rw [wt_mk]; rfl
    have := wt_pos x
    omega
theorem wt_without (x : V) (key : ByteArray) : wt (without x key) ≤ 2 * wt x := by
  unfold without
  split
  · have := wt_laid x (place x key).toNat ((place x key).toNat + 1) [] []
    simp [wtK, wtL_nil] at this
    omega
  · have := wt_pos x; omega
end V
end Go.Proofs.Ytpfbiklbecdmiaa
