/-
  THE WALK of the document's Glob (layer 6).
-/
import Derived.Test.YtpfbiklbecdmiaaNRefB
import Derived.Test.YtpfbiklbecdmiaaVWalksD
import Derived.Laws.OwnMore
import Derived.Deep.DeepCutAuto
import Derived.Deep.CutBlock
set_option linter.unusedVariables false
set_option linter.unusedSimpArgs false
namespace Go.Proofs.Ytpfbiklbecdmiaa
open Go.RowKit Go.Shelf

/-- may the first i signs of a pattern be the first k bytes? -/
def gl (P S : List UInt8) (i k : Nat) : Bool := Nm.glob (P.take i) (S.take k)
theorem gl_zero (P S : List UInt8) (k : Nat) (hk : k ≤ S.length) : gl P S 0 k = decide (k = 0) := by
  unfold gl
  rw [List.take_zero, Nm.glob_end]
  cases k with
  | zero => rfl
  | succ k =>
    have : (S.take (k + 1)).length = k + 1 := by rw [List.length_take]; omega
    cases e : S.take (k + 1) with
    | nil => rw [e] at this; simp at this
    | cons _ _ => simp
theorem gl_star (P S : List UInt8) (i k : Nat) (hi : i < P.length) (hc : P[i] = 42) (hk : k + 1 ≤ S.length) : gl P S (i + 1) (k + 1) = (gl P S i (k + 1) || gl P S (i + 1) k) := by
  unfold gl
  rw [List.take_succ_eq_append_getElem hi, hc]
  apply Nm.bool_ext
  rw [Nm.glob_append, Bool.or_eq_true, Nm.glob_append]
  have hs : S.take (k + 1) = S.take k ++ [S[k]'(by omega)] := List.take_succ_eq_append_getElem (by omega)
  constructor
  · rintro ⟨u, v, e, h1, h2⟩
    cases hv : v.reverse with
    | nil =>
      have : v = [] := by simpa using hv
      subst this
      left
      rw [e, List.append_nil]
      exact h1
    | cons x r =>
      right
      have hv' : v = r.reverse ++ [x] := by
        have := congrArg List.reverse hv
        simpa using this
      refine ⟨u, r.reverse, ?_, h1, Nm.glob_all _⟩
      rw [hs, hv', ← List.append_assoc] at e
      exact (List.append_inj' e rfl).1
  · rintro (h | ⟨u, v, e, h1, _⟩)
    · exact ⟨_, [], by simp, h, Nm.glob_all _⟩
    · refine ⟨u, v ++ [S[k]'(by omega)], ?_, h1, Nm.glob_all _⟩
      rw [hs, e]; simp
theorem gl_star0 (P S : List UInt8) (i : Nat) (hi : i < P.length) (hc : P[i] = 42) : gl P S (i + 1) 0 = gl P S i 0 := by
  unfold gl
  rw [List.take_succ_eq_append_getElem hi, hc, List.take_zero]
  apply Nm.bool_ext
  rw [Nm.glob_append]
  constructor
  · rintro ⟨u, v, e, h1, _⟩
    have : u = [] := by
      have := congrArg List.length e
      simp at this
      exact List.length_eq_zero_iff.1 (by omega)
    rw [this] at h1
    exact h1
  · intro h
    exact ⟨[], [], rfl, h, rfl⟩
theorem gl_one (P S : List UInt8) (i k : Nat) (hi : i < P.length) (hc : ¬ P[i] = 42) (hk : k < S.length) : gl P S (i + 1) (k + 1) = ((decide (P[i] = 63) || decide (P[i] = S[k])) && gl P S i k) := by
  unfold gl
  have hs : S.take (k + 1) = S.take k ++ [S[k]] := List.take_succ_eq_append_getElem hk
  rw [List.take_succ_eq_append_getElem hi, hs]
  apply Nm.bool_ext
  rw [Nm.glob_append, Bool.and_eq_true]
  have hone : ∀ x, Nm.glob [P[i]] [x] = (decide (P[i] = 63) || decide (P[i] = x)) := fun x => by
    rw [Nm.glob_cons _ _ _ _ hc, Nm.glob_end]; simp
  constructor
  · rintro ⟨u, v, e, h1, h2⟩
    cases v with
    | nil => rw [Nm.glob_cons_nil _ _ hc] at h2; cases h2
    | cons x r =>
      have hr : r = [] := by
        rw [Nm.glob_cons _ _ _ _ hc, Bool.and_eq_true, Nm.glob_end] at h2
        simpa using h2.2
      subst hr
      obtain ⟨e1, e2⟩ := List.append_inj' e rfl
      have e3 : S[k] = x := by simpa using e2
      rw [← e3, hone] at h2
      rw [← e1] at h1
      exact ⟨h2, h1⟩
  · rintro ⟨h1, h2⟩
    exact ⟨_, _, rfl, h2, by rw [hone]; exact h1⟩
theorem gl_one0 (P S : List UInt8) (i : Nat) (hi : i < P.length) (hc : ¬ P[i] = 42) : gl P S (i + 1) 0 = false := by
  unfold gl
  rw [List.take_succ_eq_append_getElem hi, List.take_zero, ← Bool.not_eq_true, Nm.glob_append]
  rintro ⟨u, v, e, _, h2⟩
  have : v = [] := by
    have := congrArg List.length e
    simp at this
    exact List.length_eq_zero_iff.1 (by omega)
  rw [this, Nm.glob_cons_nil _ _ hc] at h2
  cases h2
theorem gl_all (P S : List UInt8) : gl P S P.length S.length = Nm.glob P S := by
  unfold gl
  rw [List.take_length, List.take_length]

theorem info_bool : (Try.prog.info? 4).map (fun i => (i.zero, i.size, i.bytes)) = some (some (.bool false), 1, 1) := by kernel_rfl
theorem Row.keepSet {w : World} {g g' m o : Nat} {c : Nat → Value} (h : Row w g m c) (v : Value) (hne : g ≠ g') : Row (w.setCell ⟨g', o, none⟩ v) g m c := fun i hi =>
  ⟨box_other (h i hi).1 (.inl hne), by rw [World.frozen?_setCell]; exact (h i hi).2⟩
theorem step_row (P S : List UInt8) (i k j : Nat) (b : Bool) (hb : gl P S (i + 1) k = b) : (if j = k then Value.bool b else .bool (decide (j < k) && gl P S (i + 1) j)) = .bool (decide (j < k + 1) && gl P S (i + 1) j) := by
  by_cases e : j = k
  · subst e
    rw [if_pos rfl, hb]
    have : decide (j < j + 1) = true := by simp
    rw [this, Bool.true_and]
  · rw [if_neg e]
    have : decide (j < k) = decide (j < k + 1) := by rw [Bool.eq_iff_iff]; simp; omega
    rw [this]
/-- make([]bool, n + 1) -/
theorem make_bool (n : Nat) (hn : n ≤ 4294967295) : ∃ M : Array Value, M.size = n + 1 ∧ (∀ i, i < n + 1 → M.getD i undef = .bool false) ∧ ∀ W : World, (Instr.makeSlice 54 (.int .i64 ((n : Int) + 1)) (.int .i64 ((n : Int) + 1))).run Try.prog W = .ok (.slice (some ⟨W.heap.size, 0, none⟩) (n + 1) (n + 1)) (W.alloc (.cells M 4)) := by
  obtain ⟨i0, hi, hz0, hz1, hz2⟩ := info_parts info_bool
  refine ⟨madeCells (Value.bool false).cells (((n : Int) + 1).toNat * i0.size), ?_, ?_, fun W => ?_⟩
  · rw [size_madeCells, hz1]; omega
  · intro i hi'
    have h1 : (madeCells #[Value.bool false] (((n : Int) + 1).toNat * i0.size)).toList = _ := toList_madeCells_one _ _
    have h2 : (madeCells #[Value.bool false] (((n : Int) + 1).toNat * i0.size)).size = n + 1 := by rw [size_madeCells, hz1]; omega
    show (madeCells #[Value.bool false] (((n : Int) + 1).toNat * i0.size)).getD i undef = _
    have h3 : i < (madeCells #[Value.bool false] (((n : Int) + 1).toNat * i0.size)).size := by omega
    simp only [Array.getD, h3, dif_pos]
    show (madeCells #[Value.bool false] (((n : Int) + 1).toNat * i0.size))[i] = _
    rw [← Array.getElem_toList]
    simp only [h1, List.getElem_replicate]
  · have h := run_make (P := Try.prog) W 54 4 i0 _ Try.underlying54 hi hz0 .i64 .i64 ((n : Int) + 1) ((n : Int) + 1) (by omega) (by omega) (by rw [hz2]; omega) (by omega)
    have e : ((n : Int) + 1).toNat = n + 1 := by omega
    rw [e] at h ⊢
    exact h

set_option maxRecDepth 100000 in
set_option maxHeartbeats 1000000 in
theorem refGlob_any (P S : ByteArray) (w : World) (hP : P.size ≤ 140737488355328) (hS : S.size ≤ 4294967295) :
    Calls Try.prog 32 #[.string P, .string S] w fun e w' => e = .returned (.bool (Nm.glob P.data.toList S.data.toList)) ∧ Below w.heap.size w w' := by
  obtain ⟨M, hM, hMf, hmk⟩ := make_bool S.size hS
  obtain ⟨r, hr⟩ : ∃ r, r = Nm.glob P.data.toList S.data.toList := ⟨_, rfl⟩
  rw [← hr]
  have HR := nhide hr
  have HM := nhide hM
  have HMf := nhide hMf
  have HPl : Hid (P.data.toList.length = P.size) := (Lib.size_eq P).symm
  have HSl : Hid (S.data.toList.length = S.size) := (Lib.size_eq S).symm
  clear hr hM hMf
  have hw1 : IntKind.i64.wrap ((S.size : Int) + 1) = (S.size : Int) + 1 := by rw [IntKind.wrap_i64]; omega
  have hrow : Row (w.alloc (.cells (M.setIfInBounds 0 (.bool true)) 4)) w.heap.size (S.size + 1) (fun k => .bool (gl P.data.toList S.data.toList 0 k)) := by
    have h := row_new w (M.setIfInBounds 0 (.bool true)) 4 _ rfl
    rw [Array.size_setIfInBounds, HM.out] at h
    refine h.congr (fun j hj => ?_)
    rw [gl_zero _ _ _ (by rw [HSl.out]; omega)]
    by_cases h0 : j = 0
    · subst h0
      have : 0 < M.size := by rw [HM.out]; omega
      simp [Array.getD, this]
    · have h1 := HMf.out j hj
      have h2 : j < M.size := by rw [HM.out]; exact hj
      simp only [Array.getD, Array.size_setIfInBounds, h2, dif_pos, Array.getInternal_eq_getElem] at h1 ⊢
      rw [Array.getElem_setIfInBounds_ne h2 (by omega), h1]
      simp [h0]
  have hrow0 : Row (w.alloc (.cells M 4)) w.heap.size (S.size + 1) (fun i => M.getD i undef) := by rw [← HM.out]; exact row_new w M 4 _ rfl
  obtain ⟨y0, g0⟩ := hrow0 0 (by omega)
  have hb1 : Below w.heap.size w (w.alloc (.cells (M.setIfInBounds 0 (.bool true)) 4)) := below_alloc _ _
  have hs1 : w.heap.size < (w.alloc (.cells (M.setIfInBounds 0 (.bool true)) 4)).heap.size := by simp
  clear hrow0
  go_enter Try.func32, Try.ntmps32
  go_upto_region 3 with fail
  clear y0 g0
  generalize w.alloc (.cells (M.setIfInBounds 0 (.bool true)) 4) = W1 at hrow hb1 hs1 ⊢
  have HRow := nhide hrow
  have HB1 := nhide hb1
  clear hrow hb1
  go_wp2_with fail
  go_loopw [5, 6] (fun vm vi wr => ∃ (i g : Nat), i ≤ P.size ∧ vi = .int .i64 i ∧ vm = .slice (some ⟨g, 0, none⟩) (S.size + 1) (S.size + 1) ∧ w.heap.size ≤ g ∧ g < wr.heap.size ∧ Hid (Row wr g (S.size + 1) (fun k => .bool (gl P.data.toList S.data.toList i k))) ∧ Hid (Below w.heap.size w wr)) (fun _ vi _ => P.size - (intOf vi).toNat)
  case atStart => exact ⟨0, w.heap.size, by omega, rfl, rfl, Nat.le_refl _, hs1, HRow, HB1⟩
  case round =>
    obtain ⟨i, g, hi, rfl, rfl, hg, hgr, HA, HBw⟩ := hrel
    by_cases hlt : i < P.size
    · have hlt' : i < P.data.toList.length := by rw [HPl.out]; exact hlt
      have hrow2 : Row (wr.alloc (.cells M 4)) wr.heap.size (S.size + 1) (fun j => .bool (decide (j < 0) && gl P.data.toList S.data.toList (i + 1) j)) := by
        have h := row_new wr M 4 _ rfl
        rw [HM.out] at h
        refine h.congr (fun j hj => ?_)
        rw [HMf.out j hj]
        simp
      have hA2 := HA.out.keep hgr (below_alloc wr (.cells M 4))
      have hb2 : Below w.heap.size w (wr.alloc (.cells M 4)) := bthen HBw.out (below_alloc _ _)
      have hs2 : wr.heap.size < (wr.alloc (.cells M 4)).heap.size := by simp
      have hgw := HBw.out.size
      go_upto_region 7 with fail
      generalize wr.alloc (.cells M 4) = W2 at hrow2 hA2 hb2 hs2 ⊢
      obtain ⟨g2, hg2⟩ : ∃ g2, g2 = wr.heap.size := ⟨_, rfl⟩
      rw [← hg2] at hrow2 hs2 hgr hgw ⊢
      have HR2 := nhide hrow2
      have HA2 := nhide hA2
      have HB2 := nhide hb2
      clear hrow2 hA2 hb2 hg2
      go_wp2_with fail
      go_loopw [8] (fun vk wr => ∃ k : Nat, k ≤ S.size + 1 ∧ vk = .int .i64 k ∧ Hid (Row wr g (S.size + 1) (fun k => .bool (gl P.data.toList S.data.toList i k))) ∧ Hid (Row wr g2 (S.size + 1) (fun j => .bool (decide (j < k) && gl P.data.toList S.data.toList (i + 1) j))) ∧ Hid (Below w.heap.size w wr) ∧ g2 < wr.heap.size) (fun vk _ => S.size + 1 - (intOf vk).toNat)
      case atStart => exact ⟨0, by omega, rfl, HA2, HR2, HB2, hs2⟩
      case round =>
        obtain ⟨k, hk, rfl, HA, HB, HBr, hg2r⟩ := hrel
        by_cases hkn : k ≤ S.size
        · have e42 := byteEq hlt 42 42 rfl
          have n0 : wr.cell? ⟨g2, k, none⟩ = some (.bool (decide (k < k) && gl P.data.toList S.data.toList (i + 1) k)) := (HB.out k (by omega)).1
          have f0 := (HB.out k (by omega)).2
          have m0 : wr.cell? ⟨g, k, none⟩ = some (.bool (gl P.data.toList S.data.toList i k)) := (HA.out k (by omega)).1
          by_cases hc : P.data.toList[i]'hlt' = 42
          · rw [decide_eq_true hc] at e42
            cases hb : gl P.data.toList S.data.toList i k with
            | true =>
              rw [hb] at m0
              have hst : gl P.data.toList S.data.toList (i + 1) k = true := by
                cases k with
                | zero => rw [gl_star0 _ _ _ hlt' hc]; exact hb
                | succ k => rw [gl_star _ _ _ _ hlt' hc (by rw [HSl.out]; omega), hb]; rfl
              have HST := nhide hst
              clear hst hc hb
              go_wp2_with fail
              go_roundw
              case rel =>
                refine ⟨k + 1, by omega, by go_num, Row.keepSet HA.out _ (by omega), ?_, HBr.out.setCell (p := ⟨g2, k, none⟩) (by simp only; omega) _, by rw [size_set]; exact hg2r⟩
                refine (Row.set HB.out (by omega) _).congr (fun j hj => ?_)
                exact step_row _ _ _ _ _ _ HST.out
              case measure => simp [intOf]; try omega
            | false =>
              rw [hb] at m0
              by_cases hk0 : k = 0
              · subst hk0
                have hst : gl P.data.toList S.data.toList (i + 1) 0 = false := by
                  rw [gl_star0 _ _ _ hlt' hc]; exact hb
                have HST := nhide hst
                clear hst hc hb
                go_wp2_with fail
                go_roundw
                case rel =>
                  refine ⟨0 + 1, by omega, by go_num, Row.keepSet HA.out _ (by omega), ?_, HBr.out.setCell (p := ⟨g2, 0, none⟩) (by simp only; omega) _, by rw [size_set]; exact hg2r⟩
                  refine (Row.set HB.out (by omega) _).congr (fun j hj => ?_)
                  exact step_row _ _ _ _ _ _ HST.out
                case measure => simp [intOf]; try omega
              · obtain ⟨kk, hkk⟩ : ∃ kk, k = kk + 1 := ⟨k - 1, by omega⟩
                have hst : gl P.data.toList S.data.toList (i + 1) k = gl P.data.toList S.data.toList (i + 1) kk := by
                  rw [hkk] at hb ⊢
                  rw [gl_star _ _ _ _ hlt' hc (by rw [HSl.out]; omega), hb, Bool.false_or]
                obtain ⟨b, hbb⟩ : ∃ b, b = gl P.data.toList S.data.toList (i + 1) kk := ⟨_, rfl⟩
                rw [← hbb] at hst
                have n1 : wr.cell? ⟨g2, kk, none⟩ = some (.bool b) := by
                  rw [(HB.out kk (by omega)).1, hbb]
                  have : decide (kk < k) = true := by simp; omega
                  simp only [this, Bool.true_and]
                have HST := nhide hst
                have hkd : decide (0 < (k : Int)) = true := by simp; omega
                have hki : (k : Int) - 1 = (kk : Int) := by omega
                have hwk : IntKind.i64.wrap ((k : Int) - 1) = (kk : Int) := by rw [IntKind.wrap_i64]; omega
                have HKK := nhide hkk
                clear hst hc hb hk0 hbb hkk
                go_wp2_with fail
                go_roundw
                case rel =>
                  refine ⟨k + 1, by omega, by go_num, Row.keepSet HA.out _ (by omega), ?_, HBr.out.setCell (p := ⟨g2, k, none⟩) (by simp only; omega) _, by rw [size_set]; exact hg2r⟩
                  refine (Row.set HB.out (by omega) _).congr (fun j hj => ?_)
                  exact step_row _ _ _ _ _ _ HST.out
                case measure => simp [intOf]; try omega
          · rw [decide_eq_false hc] at e42
            by_cases hk0 : k = 0
            · subst hk0
              have hst : gl P.data.toList S.data.toList (i + 1) 0 = false := gl_one0 _ _ _ hlt' hc
              have HST := nhide hst
              clear hst hc
              go_wp2_with fail
              go_quiet (fail)
              go_wp2_with fail
              go_roundw
              case rel =>
                refine ⟨0 + 1, by omega, by go_num, (fun j hj => HA.out j hj), ?_, below_drewN HBr.out _, hg2r⟩
                exact (show Row (wr.drewN nq) g2 (S.size + 1) _ from fun j hj => HB.out j hj).congr (fun j hj => by
                  have h := step_row _ _ i 0 j false HST.out
                  rw [← h]
                  by_cases e : j = 0
                  · subst e; simp
                  · rw [if_neg e])
              case measure => simp [intOf]; try omega
            · obtain ⟨kk, hkk⟩ : ∃ kk, k = kk + 1 := ⟨k - 1, by omega⟩
              have hkS : kk < S.size := by omega
              have hkS' : kk < S.data.toList.length := by rw [HSl.out]; exact hkS
              have hst : gl P.data.toList S.data.toList (i + 1) k = ((decide (P.data.toList[i]'hlt' = 63) || decide (P.data.toList[i]'hlt' = S.data.toList[kk]'hkS')) && gl P.data.toList S.data.toList i kk) := by
                rw [hkk]; exact gl_one _ _ _ _ hlt' hc hkS'
              obtain ⟨b, hbb⟩ : ∃ b, b = gl P.data.toList S.data.toList i kk := ⟨_, rfl⟩
              rw [← hbb] at hst
              have n1 : wr.cell? ⟨g, kk, none⟩ = some (.bool b) := by rw [hbb]; exact (HA.out kk (by omega)).1
              have e63 := byteEq hlt 63 63 rfl
              have eS := byteEq2 hlt hkS
              have hkd : decide (0 < (k : Int)) = true := by simp; omega
              have hkp : 0 < k := by omega
              have hki : (k : Int) - 1 = (kk : Int) := by omega
              have hwk : IntKind.i64.wrap ((k : Int) - 1) = (kk : Int) := by rw [IntKind.wrap_i64]; omega
              have HKK := nhide hkk
              clear hkk hk0 hc hbb
              by_cases hq : (decide (P.data.toList[i]'hlt' = 63) || decide (P.data.toList[i]'hlt' = S.data.toList[kk]'hkS')) = true
              · rw [hq, Bool.true_and] at hst
                have HST := nhide hst
                clear hst
                by_cases h63 : P.data.toList[i]'hlt' = 63
                · rw [decide_eq_true h63] at e63
                  clear hq h63 eS
                  go_wp2_with fail
                  go_quiet (fail)
                  go_wp2_with fail
                  go_roundw
                  case rel =>
                    refine ⟨k + 1, by omega, by go_num, Row.keepSet (w := wr.drewN nq) (fun j hj => HA.out j hj) _ (by omega), ?_, (below_drewN HBr.out nq).setCell (p := ⟨g2, k, none⟩) (by simp only; omega) _, by rw [size_set]; exact hg2r⟩
                    refine (Row.set (w := wr.drewN nq) (fun j hj => HB.out j hj) (by omega) _).congr (fun j hj => ?_)
                    exact step_row _ _ _ _ _ _ HST.out
                  case measure => simp [intOf]; try omega
                · rw [decide_eq_false h63] at e63 hq
                  rw [Bool.false_or] at hq
                  rw [hq] at eS
                  clear hq h63
                  go_wp2_with fail
                  go_quiet (fail)
                  go_wp2_with fail
                  go_roundw
                  case rel =>
                    refine ⟨k + 1, by omega, by go_num, Row.keepSet (w := wr.drewN nq) (fun j hj => HA.out j hj) _ (by omega), ?_, (below_drewN HBr.out nq).setCell (p := ⟨g2, k, none⟩) (by simp only; omega) _, by rw [size_set]; exact hg2r⟩
                    refine (Row.set (w := wr.drewN nq) (fun j hj => HB.out j hj) (by omega) _).congr (fun j hj => ?_)
                    exact step_row _ _ _ _ _ _ HST.out
                  case measure => simp [intOf]; try omega
              · have hq' : (decide (P.data.toList[i]'hlt' = 63) || decide (P.data.toList[i]'hlt' = S.data.toList[kk]'hkS')) = false := by simpa using hq
                rw [hq', Bool.false_and] at hst
                have HST := nhide hst
                obtain ⟨q1, q2⟩ := Bool.or_eq_false_iff.1 hq'
                rw [q1] at e63
                rw [q2] at eS
                clear hst hq hq' q1 q2
                go_wp2_with fail
                go_quiet (fail)
                go_wp2_with fail
                go_roundw
                case rel =>
                  refine ⟨k + 1, by omega, by go_num, (fun j hj => HA.out j hj), ?_, below_drewN HBr.out _, hg2r⟩
                  exact (show Row (wr.drewN nq) g2 (S.size + 1) _ from fun j hj => HB.out j hj).congr (fun j hj => by
                    have h := step_row _ _ i k j false HST.out
                    rw [← h]
                    by_cases e : j = k
                    · subst e; simp
                    · rw [if_neg e])
                case measure => simp [intOf]; try omega
        · have hkE : k = S.size + 1 := by omega
          have HE : Hid (Row wr g2 (S.size + 1) (fun k => .bool (gl P.data.toList S.data.toList (i + 1) k))) := by
            refine HB.out.congr (fun j hj => ?_)
            have : decide (j < k) = true := by simp; omega
            rw [this, Bool.true_and]
          clear hkE
          go_wp2_with fail
          go_roundw
          case rel => exact ⟨i + 1, g2, hlt, by go_num, rfl, hgw, hg2r, HE, HBr⟩
          case measure => simp [intOf]; try omega
    · have hie : i = P.size := by omega
      have hfin : r = gl P.data.toList S.data.toList i S.size := by
        rw [HR.out, ← gl_all, HPl.out, HSl.out, hie]
      have m0 : wr.cell? ⟨g, S.size, none⟩ = some (.bool r) := by rw [hfin]; exact (HA.out S.size (by omega)).1
      clear hie hfin
      go_wp2_with fail
      go_ret
      exact ⟨rfl, HBw.out⟩
end Go.Proofs.Ytpfbiklbecdmiaa
