/-
  THE WALKS of heliastref09's Read, Lasting, Sync, Cut (layer 9).
-/
import Derived.Test.YtmbjlnnoemenoaaKRefB
import Derived.Lib.QuietBelow
import Derived.BigRegion
import Derived.Deep.RegionLaw
set_option linter.unusedVariables false
set_option linter.unusedSimpArgs false
set_option maxRecDepth 100000
namespace Go.Proofs.Ytmbjlnnoemenoaa
open Go.RowKit Go.Maps Go.Sort Dk

theorem fcs_all : ∀ (fs : List (Bs × PF)) (k : Nat) (h : k < fs.length) {n : Bs} {f : PF} (x : Bs), fs[k] = (n, f) → (∀ j (hj : j < k), fs[j].1 ≠ n) → fcs (upd n ⟨x, f.last⟩ fs) = (fcs fs).set (k * 3 + 1) (.string (st x))
  | [], k, h, _, _, _, _, _ => absurd h (Nat.not_lt_zero _)
  | p :: r, 0, h, n, f, x, hk, _ => by
    simp only [List.getElem_cons_zero] at hk
    subst hk
    simp [Dk.upd, fcs]
  | p :: r, k + 1, h, n, f, x, hk, hno => by
    have h0 : p.1 ≠ n := by have := hno 0 (by omega); simpa using this
    have ih := fcs_all r k (by simpa using h) x (by simpa using hk) (fun j hj => by have := hno (j + 1) (by omega); simpa using this)
    simp only [Dk.upd, if_neg h0, fcs, ih, show (k + 1) * 3 + 1 = k * 3 + 1 + 1 + 1 + 1 by omega, List.set_cons_succ]
theorem fcs_last : ∀ (fs : List (Bs × PF)) (k : Nat) (h : k < fs.length) {n : Bs} {f : PF} (m : Nat), fs[k] = (n, f) → (∀ j (hj : j < k), fs[j].1 ≠ n) → fcs (upd n ⟨f.all, m⟩ fs) = (fcs fs).set (k * 3 + 2) (.int .i64 m)
  | [], k, h, _, _, _, _, _ => absurd h (Nat.not_lt_zero _)
  | p :: r, 0, h, n, f, x, hk, _ => by
    simp only [List.getElem_cons_zero] at hk
    subst hk
    simp [Dk.upd, fcs]
  | p :: r, k + 1, h, n, f, x, hk, hno => by
    have h0 : p.1 ≠ n := by have := hno 0 (by omega); simpa using this
    have ih := fcs_last r k (by simpa using h) x (by simpa using hk) (fun j hj => by have := hno (j + 1) (by omega); simpa using this)
    simp only [Dk.upd, if_neg h0, fcs, ih, show (k + 1) * 3 + 2 = k * 3 + 2 + 1 + 1 + 1 by omega, List.set_cons_succ]

theorem FRow.set {w : World} {g cap : Nat} {n : Nat} {xs : List Value} (h : w.ownsRow 0 91 3 (.slice (some ⟨g, 0, none⟩) n cap) n xs) (j : Nat) (hj : j < xs.length) (u : Value) :
    (w.setCell ⟨g, j, none⟩ u).ownsRow 0 91 3 (.slice (some ⟨g, 0, none⟩) n cap) n (xs.set j u) := by
  have hl := h.1
  refine ⟨by rw [List.length_set]; exact hl, ?_⟩
  rcases h.2 with ⟨h1, h2⟩ | ⟨g', cap', cur, h1, h2, hb, h4, h5, h6, h7⟩
  · rw [hl, h2] at hj; omega
  · simp only [Value.slice.injEq, Option.some.injEq, Addr.mk.injEq, and_true, true_and] at h1
    obtain ⟨rfl, rfl⟩ := h1
    refine .inr ⟨_, _, cur.setIfInBounds j u, rfl, h2, Blk.set hb j u, h4, h5, by simpa using h6, ?_⟩
    rw [Array.toList_setIfInBounds, List.take_set, h7]

theorem wf_upd {P : PD} (h : Wf P) {n : Bs} {f f' : PF} (hg : get P.fs n = some f) {P' : PD} (hf : P'.fs = upd n f' P.fs) (hr : P'.room = P.room) (hl : P'.left < 9223372036854775808) (hu : used P'.fs ≤ P.room) (hla : f'.last ≤ f'.all.length) : Wf P' := by
  have hkeys : P'.fs.map (·.1) = P.fs.map (·.1) := by rw [hf, keys_upd]
  refine ⟨hr ▸ h.room, hr ▸ hu, hf ▸ rise_upd h.rise, ?_, ?_, hl, names_of_keys hkeys h.names⟩
  · intro p hp
    rw [hf] at hp
    rcases mem_upd h.rise hp with rfl | ⟨h1, _⟩
    · exact hla
    · exact h.last p h1
  · rw [hf, len_upd]; exact h.few
/-- row and head have turned, within the row's block -/
theorem IsR.within {w w' : World} {e : Nat} {S : Nat → Prop} {P P' : PD} {v : Value} {lv lv' : Int} (h : IsR w e S P v lv) (k : Ch (fun i => i = e ∨ v.ownBlock = some i) w w') (hw : Wf P')
    (hb : Blk w' e (rHead P' v lv') 75) (hlv : P'.fused = true → lv' = P'.left) (hrow : FRow w' v P'.fs) : IsR w' e S P' v lv' ∧ Turn S w S w' :=
  ⟨⟨hw, hb, hlv, hrow, h.inS, h.rowS, fun i hi => Nat.lt_of_lt_of_le (h.low i hi) k.size⟩, k.weak (fun i _ hi => by rcases hi with rfl | hi; exact h.inS; exact h.rowS i hi), fun i hi => .inl hi⟩

set_option maxHeartbeats 2000000 in
theorem rread_any (P : PD) (e : Nat) (S : Nat → Prop) (n : ByteArray) (w : World) (h : IsE w e S P) :
    Calls Try.prog 48 #[ptr e, .string n] w fun x w' => x = .returned (.string (st (read P (bs n)))) ∧ Below w.heap.size w w' := by
  have HE := hide h
  obtain ⟨v, lv, h⟩ := h
  have c1 := h.blk.cell 1
  simp [rHead] at c1
  have HB := hide h.blk
  have HF := hide (fun w => rfind_any P e S n w)
  cases hd : P.dead with
  | true =>
    have HD := hide hd
    clear h hd
    go_enter Try.func48, Try.ntmps48
    go_wp2_with fail
    refine (rdead_any HB.out).mono ?_
    rintro x w ⟨rfl, rfl⟩
    rw [HD.out]
    go_wp2_with fail
    go_ret
    exact ⟨by unfold Dk.read; rw [HD.out]; rfl, Below.refl _ _⟩
  | false =>
    have HD := hide hd
    clear hd
    cases hg : get P.fs (bs n) with
    | none =>
      have hi := idxI_none hg
      have HG := hide hg
      clear h hg
      go_enter Try.func48, Try.ntmps48
      go_wp2_with fail
      refine (rdead_any HB.out).mono ?_
      rintro x w ⟨rfl, rfl⟩
      rw [HD.out]
      go_wp2_with fail
      refine (HF.out _ HE.out).mono ?_
      rintro x w ⟨rfl, rfl⟩
      rw [hi]
      clear hi
      go_wp2_with fail
      go_ret
      exact ⟨by unfold Dk.read; rw [HD.out, HG.out]; rfl, Below.refl _ _⟩
    | some f =>
      obtain ⟨k, hk, hi, hfk, _⟩ := idxI_some hg
      obtain ⟨a, cap, rfl, hlc, hcm⟩ := h.row.shape
      obtain ⟨g, cur, rfl, hb, _, g1, _⟩ := h.row.at hk
      rw [hfk] at g1
      obtain ⟨len, hlen⟩ : ∃ len, len = P.fs.length := ⟨_, rfl⟩
      rw [← hlen] at c1 hlc hk
      have hki : (k : Int) < len := by omega
      have HG := hide hg
      have hnk : ¬ ((k : Int) < 0) := by omega
      clear h hg hfk hb hlen
      go_enter Try.func48, Try.ntmps48
      go_wp2_with fail
      refine (rdead_any HB.out).mono ?_
      rintro x w ⟨rfl, rfl⟩
      rw [HD.out]
      go_wp2_with fail
      refine (HF.out _ HE.out).mono ?_
      rintro x w ⟨rfl, rfl⟩
      rw [hi]
      go_upto_region 3 with fail
      have cA : ∀ d os, Calls Try.prog 58 #[ptr e, .string n] (grow (redrawn w d) os) fun x w'' => x = .returned (.int .i64 (k : Int)) ∧ ∃ p : Regrown, w'' = grow (redrawn w p.d) p.os := fun d os => Calls.regrown_of (by
        refine (HF.out _ (HE.out.below (below_regrown w d os))).mono ?_
        rintro x w' ⟨rfl, rfl⟩
        rw [hi]
        exact ⟨rfl, Below.refl _ _⟩)
      have k1 := cell_regrown c1
      have k2 := cell_regrown g1
      refine wp_region_quiet_below (by kernel_rfl) (by kernel_rfl) ?_
      repeat (go_big_quiet_step (with_reducible exact cA _ _))
      refine wpQuiet_nil ?_
      intro _ hw'
      obtain ⟨⟨dq, osq⟩, rfl⟩ := hw'
      have b2 := below_regrown w dq osq
      generalize grow (redrawn w dq) osq = w20 at *
      clear cA k1 k2
      go_wp2_with fail
      go_ret
      exact ⟨by unfold Dk.read; rw [HD.out, HG.out]; rfl, b2⟩
end Go.Proofs.Ytmbjlnnoemenoaa
