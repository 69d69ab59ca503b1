/-
  Slices of strings of the call's own; THE WALK of the document's All (frame).
-/
import Derived.Test.YtgfjpbiioaahhaaFRefN
set_option linter.unusedVariables false
set_option linter.unusedSimpArgs false
set_option maxRecDepth 100000
namespace Go.Proofs.Ytgfjpbiioaahhaa
open Go.RowKit Fr

/-- strings as cells -/
abbrev strs (l : List Bs) : List Value := l.map fun b => Value.string (strOf b)
/-- a slice of strings of the call's own -/
abbrev Strs (base : Nat) (w : World) (v : Value) (l : List Bs) : Prop := w.ownsRow base 9 1 v l.length (strs l)
theorem strs_length (l : List Bs) : (strs l).length = l.length := List.length_map _
theorem strs_one (l : List Bs) : ∀ u ∈ strs l, u.oneCell' = true := by
  intro u hu
  obtain ⟨b, _, rfl⟩ := List.mem_map.1 hu
  rfl
theorem Strs.shape {base : Nat} {w : World} {v : Value} {l : List Bs} (h : Strs base w v l) : ∃ a c, v = .slice a l.length c := by
  rcases h.2 with ⟨rfl, h2⟩ | ⟨g, cap, cur, rfl, _⟩
  · rw [List.eq_nil_of_length_eq_zero h2]; exact ⟨_, _, rfl⟩
  · exact ⟨_, _, rfl⟩
theorem Strs.later {base : Nat} {w w' : World} {v : Value} {l : List Bs} (h : Strs base w v l) (k : Below w.heap.size w w') : Strs base w' v l := own_later h k
theorem infoStr : (Try.prog.info? 9).map (fun i => (i.zero, i.size, i.bytes)) = some (some (.string ⟨#[]⟩), 1, 16) := by kernel_rfl
/-- append(v, s) -/
theorem append_str {w : World} {base : Nat} {v : Value} {l : List Bs} (h : Strs base w v l) (s : Bs) (hbase : base ≤ w.heap.size) (hl : l.length + 1 ≤ 1000000000000) :
    ∃ v' w', (Builtin.append_ #[22, 22] 22 #[v, .slice (some ⟨w.heap.size, 0, none⟩) 1 1]).run Try.prog (w.alloc (.cells #[.string (strOf s)] 9)) = .ok v' w' ∧ Strs base w' v' (l ++ [s]) ∧ (w.alloc (.cells #[.string (strOf s)] 9)).grownBy w' v.ownBlock := by
  obtain ⟨i0, hi, hz0, hz1, hz2⟩ := info_parts infoStr
  have h1 := h.later (below_alloc w (.cells #[.string (strOf s)] 9))
  have hb := Blk.new w #[.string (strOf s)] 9
  obtain ⟨v', w', hr, ho, hg, _, _⟩ := run_append_own_at (w.alloc (.cells #[.string (strOf s)] 9)) base 22 22 9 i0 (.string ⟨#[]⟩) 1 16 Try.underlying22 hi hz0 hz1 hz2 rfl (by decide) v l.length (strs l) h1 ⟨w.heap.size, 0, none⟩ 1 1 [.string (strOf s)] rfl
    (by
      intro j u hj
      have hj0 : j = 0 := by
        rcases Nat.eq_zero_or_pos j with h | h
        · exact h
        · rw [List.getElem?_eq_none (by simp; omega)] at hj; cases hj
      subst hj0
      simp at hj
      rw [← hj, Addr.add_lit]
      exact hb.cell 0)
    (by intro u hu; simp at hu; subst hu; rfl) (by unfold maxLen; omega) (by omega) (by simp; omega)
  refine ⟨v', w', hr, ?_, hg⟩
  show w'.ownsRow _ _ _ _ (l ++ [s]).length (strs (l ++ [s]))
  rw [List.length_append, show strs (l ++ [s]) = strs l ++ [.string (strOf s)] from List.map_append]
  exact ho

theorem took_nil : took [] = 0 := rfl
theorem took_one (l : List Bs) (b : Bs) : took (l ++ [b]) = took l + (8 + b.length) := by rw [took_append]; simp [took]
theorem took_len (l : List Bs) : 8 * l.length ≤ took l := by
  induction l with
  | nil => exact Nat.le_refl _
  | cons b l ih => simp [took] at ih ⊢; omega

set_option maxHeartbeats 1000000 in
theorem rall_any (w : World) (s : ByteArray) (hs : s.size ≤ 1000000000) :
    Calls Try.prog 28 #[.string s] w fun e w' => ∃ v, e = .returned (.tuple #[v, .int .i64 (took (all (bs s)) : Nat)]) ∧ Strs w.heap.size w' v (all (bs s)) ∧ Below w.heap.size w w' := by
  obtain ⟨AL, hAL⟩ : ∃ AL, AL = all (bs s) := ⟨_, rfl⟩
  rw [← hAL]
  have HAL := hide hAL
  clear hAL
  go_enter Try.func28, Try.ntmps28
  go_wp2_with fail
  go_loopw [4, 5] (fun v i wr => ∃ (l : List Bs) (at' : Nat), Hid (at' = took l) ∧ at' ≤ s.size ∧ i = .int .i64 at' ∧ Hid (Strs w.heap.size wr v l) ∧ Hid (AL = l ++ all ((bs s).drop at')) ∧ Hid (Below w.heap.size w wr)) (fun v i _ => s.size - (intOf i).toNat)
  case atStart => exact ⟨[], 0, rfl, by omega, rfl, World.ownsRow_nil .., HAL, Below.refl _ _⟩
  case round =>
    obtain ⟨l, k, HK, hk, rfl, HS, HA, HB⟩ := hrel
    obtain ⟨R, hR⟩ : ∃ R, R = s.extract k s.size := ⟨_, rfl⟩
    have hbR : bs R = (bs s).drop k := by rw [hR, bs_extract, List.take_of_length_le (by rw [bs_length]; exact Nat.le_refl _)]
    have hRz : R.size = s.size - k := by rw [← bs_length, hbR, List.length_drop, bs_length]
    have hki : (k : Int) ≤ (s.size : Int) := by omega
    have HR := hide hR
    have HbR := hide hbR
    have HRz := hide hRz
    obtain ⟨a, c, rfl⟩ := HS.out.shape
    have hll := took_len l
    rw [← HK.out] at hll
    clear hR hbR hRz
    go_wp2_with fail
    rw [← HR.out]
    refine (rnext_any _ R (by rw [HRz.out]; omega)).mono ?_
    rintro e w2 ⟨⟨b, hnx, rfl⟩ | ⟨hnx, rfl⟩, b2⟩
    · have hb := (nx_some hnx).2.1
      rw [bs_length, HRz.out] at hb
      have HA2 : Hid (AL = (l ++ [b]) ++ all ((bs s).drop (k + (8 + b.length)))) := by
        show AL = _
        rw [HA.out, ← HbR.out, all_some hnx, HbR.out, List.drop_drop, List.append_assoc]
        rfl
      have hne : (8 + (b.length : Int) == 0) = false := by simp; omega
      have hne2 : ¬ (8 + (b.length : Int)) = 0 := by omega
      have HS2 := hide (HS.out.later b2)
      have HB2 := hide (bthen HB.out b2)
      obtain ⟨v', w3, hrun, ho, hg⟩ := append_str HS2.out b HB2.out.size (by omega)
      obtain ⟨a', c', rfl⟩ := ho.shape
      have HB3 : Hid (Below w.heap.size w w3) := (HB2.out.alloc HB2.out.size _).grown hg (Nat.le_trans HB2.out.size (by simp)) (fun q hq => (HS2.out.lt q hq).1)
      have HRUN := hide hrun
      have ho2 : Strs w.heap.size w3 (.slice a' (l.length + 1) c') (l ++ [b]) := by rw [show l.length + 1 = (l ++ [b]).length by simp]; exact ho
      have HO := hide ho2
      clear hnx HA HS HB b2 hrun ho ho2 hg HS2 HB2
      go_wp2_with (at_builtin; refine Lib.wpList_append_run _ rfl (.tmp 19) (.tmp 21) 22 22 rfl _ _ (by simp [Act.eval, Act.put]) (by simp [Act.eval, Act.put]) _ _ HRUN.out ?_)
      go_roundw
      case rel => exact ⟨l ++ [b], k + (8 + b.length), by show _ = _; rw [took_one, HK.out], by omega, by go_num, HO.out, HA2.out, HB3.out⟩
      case measure => simp [intOf]; omega
    · have HF : Hid (AL = l) := by
        show AL = l
        rw [HA.out, ← HbR.out, all_none hnx, List.append_nil]
      clear hnx HA
      go_wp2_with fail
      go_ret2
      refine ⟨.slice a l.length c, ?_, ?_, bthen HB.out b2⟩
      · rw [HF.out, ← HK.out]
        rfl
      · rw [HF.out]
        exact HS.out.later b2
end Go.Proofs.Ytgfjpbiioaahhaa
