/-
  THE WALKS of heliastref09's find, Used (layer 9).
-/
import Derived.Test.YtmbjlnnoemenoaaKRefA
set_option linter.unusedVariables false
set_option linter.unusedSimpArgs false
set_option maxRecDepth 100000
namespace Go.Proofs.Ytmbjlnnoemenoaa
open Go.RowKit Go.Maps Go.Sort Dk

def idx : List (Bs × PF) → Bs → Option Nat
  | [], _ => none
  | p :: r, n => if p.1 = n then some 0 else (idx r n).map (· + 1)
theorem idx_none : ∀ {fs : List (Bs × PF)} {n : Bs}, get fs n = none → idx fs n = none
  | [], _, _ => rfl
  | p :: r, n, h => by
    unfold Dk.get at h
    split at h
    · cases h
    · rename_i e
      simp only [idx, if_neg e, idx_none h, Option.map_none]
theorem idx_some : ∀ {fs : List (Bs × PF)} {n : Bs} {f : PF}, get fs n = some f → ∃ k, ∃ h : k < fs.length, idx fs n = some k ∧ fs[k] = (n, f) ∧ ∀ j (hj : j < k), fs[j].1 ≠ n
  | [], _, _, h => by cases h
  | p :: r, n, f, h => by
    unfold Dk.get at h
    split at h
    · rename_i e
      cases h
      exact ⟨0, by simp, by simp [idx, e], by simp [← e], fun j hj => absurd hj (Nat.not_lt_zero _)⟩
    · rename_i e
      obtain ⟨k, hk, h1, h2, h3⟩ := idx_some h
      refine ⟨k + 1, by simp; omega, by simp [idx, e, h1], by simpa using h2, fun j hj => ?_⟩
      cases j with
      | zero => simpa using e
      | succ j => simpa using h3 j (by omega)
def idxI (fs : List (Bs × PF)) (n : Bs) : Int := match idx fs n with | some k => k | none => -1
theorem idxI_none {fs : List (Bs × PF)} {n : Bs} (h : get fs n = none) : idxI fs n = -1 := by unfold idxI; rw [idx_none h]
theorem idxI_some {fs : List (Bs × PF)} {n : Bs} {f : PF} (h : get fs n = some f) : ∃ k, ∃ hk : k < fs.length, idxI fs n = k ∧ fs[k] = (n, f) ∧ ∀ j (hj : j < k), fs[j].1 ≠ n := by
  obtain ⟨k, hk, h1, h2⟩ := idx_some h
  exact ⟨k, hk, by unfold idxI; rw [h1], h2⟩

set_option maxHeartbeats 2000000 in
theorem rfind_any (P : PD) (e : Nat) (S : Nat → Prop) (n : ByteArray) (w : World) (h : IsE w e S P) :
    Calls Try.prog 58 #[ptr e, .string n] w fun x w' => x = .returned (.int .i64 (idxI P.fs (bs n))) ∧ w' = w := by
  obtain ⟨v, lv, h⟩ := h
  obtain ⟨a, cap, rfl, hlc, hcm⟩ := h.row.shape
  have hfew := h.wf.few
  have c1 := h.blk.cell 1
  simp [rHead] at c1
  have H := hide h
  clear h
  obtain ⟨len, hlen⟩ : ∃ len, len = P.fs.length := ⟨_, rfl⟩
  rw [← hlen] at c1 hlc hfew
  have HLN := hide hlen
  clear hlen
  unfold maxLen at hcm
  go_enter Try.func58, Try.ntmps58
  go_wp2_with fail
  go_loop [5] (fun i => ∃ k : Nat, i = .int .i64 k ∧ k ≤ len ∧ Hid (∀ j (hj : j < P.fs.length), j < k → P.fs[j].1 ≠ bs n)) (fun i => len - (intOf i).toNat)
  case atStart => exact ⟨0, rfl, Nat.zero_le _, hide (fun j hj h => absurd h (Nat.not_lt_zero _))⟩
  case round =>
    obtain ⟨k, rfl, hk, HNO⟩ := hrel
    by_cases hlt : k < len
    · have hli : (k : Int) < len := by omega
      have hkl : k < P.fs.length := by have := HLN.out; omega
      obtain ⟨g, cur, rfl, hb, g0, _, _⟩ := H.out.row.at hkl
      obtain ⟨T, hT⟩ : ∃ T, T = st P.fs[k].1 := ⟨_, rfl⟩
      have hbT : bs T = P.fs[k].1 := by rw [hT]
      rw [← hT] at g0
      have HBT := hide hbT
      clear hT hbT hb
      by_cases heq : P.fs[k].1 = bs n
      · have hc : T.toList = n.toList := by rw [Lib.toList_data, Lib.toList_data]; show bs T = bs n; rw [HBT.out, heq]
        have HEQ := hide heq
        clear heq
        go_wp2_with fail
        go_ret
        refine ⟨?_, rfl⟩
        cases hg : get P.fs (bs n) with
        | none => exact absurd HEQ.out (get_none hg _ (List.getElem_mem hkl))
        | some f =>
          obtain ⟨k', hk', h1, h2, h3⟩ := idxI_some hg
          have : k' = k := by
            rcases Nat.lt_trichotomy k' k with h | h | h
            · exact absurd (by rw [h2]) (HNO.out k' hk' h)
            · exact h
            · exact absurd HEQ.out (h3 k h)
          rw [h1, this]; rfl
      · have hc : ¬ T.toList = n.toList := by rw [Lib.toList_data, Lib.toList_data]; intro hh; exact heq (HBT.out.symm.trans hh)
        have HNO2 : Hid (∀ j (hj : j < P.fs.length), j < k + 1 → P.fs[j].1 ≠ bs n) := hide (fun j hj h => by
          rcases Nat.lt_or_ge j k with h' | h'
          · exact HNO.out j hj h'
          · have : j = k := by omega
            subst this; exact heq)
        have hc2 : (T.toList == n.toList) = false := by simpa using hc
        have hc3 : decide (T.toList = n.toList) = false := by simpa using hc
        clear heq HNO
        go_wp2_with fail
        refine ⟨⟨k + 1, by congr 1, by omega, HNO2⟩, ?_⟩
        simp [intOf]; omega
    · have hnl : ¬ ((k : Int) < len) := by omega
      go_wp2_with fail
      go_ret
      refine ⟨?_, rfl⟩
      cases hg : get P.fs (bs n) with
      | none => rw [idxI_none hg]; rfl
      | some f =>
        obtain ⟨k', hk', h1, h2, h3⟩ := idxI_some hg
        exact absurd (by rw [h2]) (HNO.out k' hk' (by have := HLN.out; omega))

theorem used_take : ∀ (fs : List (Bs × PF)) (k : Nat) (h : k < fs.length), used (fs.take (k + 1)) = used (fs.take k) + fs[k].2.all.length
  | [], k, h => absurd h (Nat.not_lt_zero _)
  | p :: r, 0, h => by simp [Dk.used]
  | p :: r, k + 1, h => by
    have := used_take r k (by simpa using h)
    simp only [List.take_succ_cons, Dk.used, List.getElem_cons_succ, this]; omega
theorem used_take_le : ∀ (fs : List (Bs × PF)) (k : Nat), used (fs.take k) ≤ used fs
  | [], k => by simp
  | p :: r, 0 => by simp [Dk.used]
  | p :: r, k + 1 => by have := used_take_le r k; simp only [List.take_succ_cons, Dk.used]; omega

set_option maxHeartbeats 2000000 in
theorem rused_any (P : PD) (e : Nat) (S : Nat → Prop) (w : World) (h : IsE w e S P) :
    Calls Try.prog 51 #[ptr e] w fun x w' => x = .returned (.int .i64 (used P.fs)) ∧ w' = w := by
  obtain ⟨v, lv, h⟩ := h
  obtain ⟨a, cap, rfl, hlc, hcm⟩ := h.row.shape
  have hfew := h.wf.few
  have HU : Hid (used P.fs ≤ 4194304) := hide (Nat.le_trans h.wf.used h.wf.room)
  have c1 := h.blk.cell 1
  simp [rHead] at c1
  have H := hide h
  clear h
  obtain ⟨len, hlen⟩ : ∃ len, len = P.fs.length := ⟨_, rfl⟩
  rw [← hlen] at c1 hlc hfew
  have HLN := hide hlen
  clear hlen
  unfold maxLen at hcm
  go_enter Try.func51, Try.ntmps51
  go_wp2_with fail
  go_loop [3, 4] (fun u i => ∃ k x : Nat, i = .int .i64 k ∧ u = .int .i64 x ∧ k ≤ len ∧ Hid (x = used (P.fs.take k))) (fun _ i => len - (intOf i).toNat)
  case atStart => exact ⟨0, 0, rfl, rfl, Nat.zero_le _, hide (by simp [Dk.used])⟩
  case round =>
    obtain ⟨k, x, rfl, rfl, hk, HX⟩ := hrel
    by_cases hlt : k < len
    · have hli : (k : Int) < len := by omega
      have hkl : k < P.fs.length := by have := HLN.out; omega
      obtain ⟨g, cur, rfl, hb, _, g1, _⟩ := H.out.row.at hkl
      have hs := used_take P.fs k hkl
      have hle := used_take_le P.fs (k + 1)
      obtain ⟨T, hT⟩ : ∃ T, T = st P.fs[k].2.all := ⟨_, rfl⟩
      have hTs : T.size = P.fs[k].2.all.length := by rw [hT, st_size]
      rw [← hT] at g1
      have hxb : x + T.size ≤ 4194304 := by have := HX.out; have := HU.out; omega
      have HX2 : Hid (x + T.size = used (P.fs.take (k + 1))) := hide (by rw [hs, HX.out, hTs])
      have hwr : IntKind.i64.wrap ((x : Int) + T.size) = ((x + T.size : Nat) : Int) := by rw [IntKind.wrap_i64]; omega
      clear hT hTs hs hle hb HX
      go_wp2_with fail
      go_round
      case rel => exact ⟨k + 1, x + T.size, by go_num, rfl, by omega, HX2⟩
      case measure => simp [intOf]; omega
    · have hnl : ¬ ((k : Int) < len) := by omega
      go_wp2_with fail
      go_ret
      refine ⟨?_, rfl⟩
      have h1 := HX.out
      rw [List.take_of_length_le (by have := HLN.out; omega)] at h1
      rw [← h1]; rfl
end Go.Proofs.Ytmbjlnnoemenoaa
