/-
  THE WALK of two.does (layer 9's DiskDoes).
-/
import Derived.Test.YtmbjlnnoemenoaaKTwo
set_option linter.unusedVariables false
set_option linter.unusedSimpArgs false
set_option maxRecDepth 100000
namespace Go.Proofs.Ytmbjlnnoemenoaa
open Go.RowKit Go.Maps Dk

set_option maxHeartbeats 16000000 in
theorem tdoes_any (B : Nat) (w0 w : World) (t d e : Nat) (P : PD) (kd ka kn : Int) (kb : ByteArray) (hkd : 0 ≤ kd ∧ kd < 256) (hka : 0 ≤ ka ∧ ka < 256) (hkn : kn < 9223372036854775808) (hbz : kb.size ≤ 140737488355328)
    (h : Tz B w0 w t t d e (.cells #[ptr d, ptr e] 52 (0, 0)) P P) :
    Calls Try.prog 28 #[ptr t, .agg #[.int .u8 kd, .int .u8 ka, .int .i64 kn, .string kb]] w fun r w' => r = .returned (.bool true) ∧ ∃ d' e' P', Tz B w0 w' t t d' e' (.cells #[ptr d', ptr e'] 52 (0, 0)) P' P' := by
  obtain ⟨q, hq, hq9⟩ : ∃ q : Nat, kd.tmod 9 = q ∧ q < 9 := ⟨(kd.tmod 9).toNat, by rw [Int.tmod_eq_emod_of_nonneg hkd.1]; omega, by rw [Int.tmod_eq_emod_of_nonneg hkd.1]; omega⟩
  have HH := hide h
  clear h
  go_enter Try.func28, Try.ntmps28
  go_wp2_with fail
  refine (file_any ka hka _).mono ?_
  rintro r w1 ⟨⟨nm, hnm, rfl⟩, b1⟩
  have hz := (HH.out.boxed (.cells #[.int .u8 kd, .int .u8 ka, .int .i64 kn, .string kb] 44)).below b1
  obtain ⟨ob, hob⟩ : ∃ ob, ob = w.heap.size := ⟨_, rfl⟩
  rw [← hob] at hz ⊢
  have k0 := Blk.cell hz.box 0
  simp at k0
  obtain ⟨oo, hoo⟩ : ∃ oo, oo = Obj.cells #[.int .u8 kd, .int .u8 ka, .int .i64 kn, .string kb] 44 (0, 0) := ⟨_, rfl⟩
  rw [← hoo] at hz
  have HOO := hide hoo
  have HZ := hide hz
  have hns := nms_small nm hnm
  clear b1 hob hoo hz hnm HH hkd hka
  by_cases h3 : q = 3
  · have hq0 : kd.tmod 9 = 3 := by omega
    clear hq hq9 h3
    go_upto_region 5 with fail
    clear k0 hq0
    have hJ0 : Tz B w0 w1.drew t ob d e oo P P := HZ.out.below ((Below.refl _ _).drew)
    have HWR : Hid (IntKind.i64.wrap (((sync P (bs nm)).1 : Nat) : Int) = (((sync P (bs nm)).1 : Nat) : Int)) := hide (by have := sync_low P (bs nm); rw [IntKind.wrap_i64]; omega)
    refine' wp_region_inv [(fun v => v = (.pointer (some ⟨t, 0, none⟩))), (fun v => v = (.pointer (some ⟨t, 0, none⟩))), (fun v => v = (.pointer (some ⟨t, 0, none⟩))), (fun v => v = (.pointer (some ⟨d, 0, none⟩))), (fun v => v = (.string nm)), (fun v => v = (.int .u16 (((sync P (bs nm)).1 : Nat) : Int))), (fun v => v = (.int .i64 (((sync P (bs nm)).1 : Nat) : Int))), (fun v => v = (.pointer (some ⟨t, 0, none⟩))), (fun v => v = (.pointer (some ⟨t, 0, none⟩))), (fun v => v = (.pointer (some ⟨t, 1, none⟩))), (fun v => v = (.pointer (some ⟨e, 0, none⟩))), (fun v => v = (.string nm)), (fun v => v = (.int .i64 (((sync P (bs nm)).1 : Nat) : Int))), (fun v => v = (.bool true))] 5 12 (fun b1 b2 wr => Tz B w0 wr t ob d e oo (if b1 = true then (sync P (bs nm)).2 else P) (if b2 = true then (sync P (bs nm)).2 else P)) (by kernel_rfl) rfl ?hA (by kernel_rfl) (by kernel_rfl) (by kernel_rfl) rfl (by decide) ?hJ0 ?steps ?last
    case hA =>
      intro vs
      simp only [puts, Act.put, List.setIfInBounds_toArray, List.set_cons_zero, List.set_cons_succ, Nat.zero_add, Nat.reduceAdd]
      rfl
    case hJ0 => exact hJ0
    case steps =>
      intro Q'
      refine And.intro ?_ ?_
      · intro vs w' b1 b2 hJ h1 h2 hd K' hK
        dsimp only at hK ⊢
        simp only [Act.put, List.setIfInBounds_toArray, List.set_cons_zero, List.set_cons_succ] at hK
        clear h1 h2
        go_simp
        exact hK.out _ _ rfl hJ
      refine And.intro ?_ ?_
      · intro vs w' b1 b2 hJ h1 h2 hd K' hK
        dsimp only at hK ⊢
        simp only [Act.put, List.setIfInBounds_toArray, List.set_cons_zero, List.set_cons_succ] at hK
        have e0 : vs 0 = (.pointer (some ⟨t, 0, none⟩)) := hd 0 (by kernel_rfl)
        simp only [e0] at hK ⊢
        clear e0
        clear h1 h2
        go_simp
        exact hK.out _ _ rfl hJ
      refine And.intro ?_ ?_
      · intro vs w' b1 b2 hJ h1 h2 hd K' hK
        dsimp only at hK ⊢
        simp only [Act.put, List.setIfInBounds_toArray, List.set_cons_zero, List.set_cons_succ] at hK
        have e1 : vs 1 = (.pointer (some ⟨t, 0, none⟩)) := hd 1 (by kernel_rfl)
        simp only [e1] at hK ⊢
        clear e1
        clear h1 h2
        go_simp
        exact hK.out _ _ rfl hJ
      refine And.intro ?_ ?_
      · intro vs w' b1 b2 hJ h1 h2 hd K' hK
        dsimp only at hK ⊢
        simp only [Act.put, List.setIfInBounds_toArray, List.set_cons_zero, List.set_cons_succ] at hK
        have e2 : vs 2 = (.pointer (some ⟨t, 0, none⟩)) := hd 2 (by kernel_rfl)
        simp only [e2] at hK ⊢
        clear e2
        clear h1 h2
        have q0 := hJ.blk.cell 0
        simp at q0
        go_simp
        exact hK.out _ _ rfl hJ
      refine And.intro ?_ ?_
      · intro vs w' b1 b2 hJ h1 h2 hd K' hK
        dsimp only at hK ⊢
        simp only [Act.put, List.setIfInBounds_toArray, List.set_cons_zero, List.set_cons_succ] at hK
        clear h1 h2
        go_simp
        exact hK.out _ _ rfl hJ
      refine And.intro ?_ ?_
      · intro vs w' b1 b2 hJ h1 h2 hd K' hK
        dsimp only at hK ⊢
        simp only [Act.put, List.setIfInBounds_toArray, List.set_cons_zero, List.set_cons_succ] at hK
        have e3 : vs 3 = (.pointer (some ⟨d, 0, none⟩)) := hd 3 (by kernel_rfl)
        have e4 : vs 4 = (.string nm) := hd 4 (by kernel_rfl)
        simp only [e3, e4] at hK ⊢
        clear e3 e4
        obtain rfl := h1 rfl
        go_simp
        refine (Tz.call1 (P := P) (P' := (sync P (bs nm)).2) hJ (fun S h => (sync_any P d S nm _ h hns).mono (fun r w' ⟨h1, h2⟩ => ⟨h1, h2⟩))).mono ?_
        rintro r w5 ⟨rfl, hz5⟩
        exact hK.out _ _ rfl hz5
      refine And.intro ?_ ?_
      · intro vs w' b1 b2 hJ h1 h2 hd K' hK
        dsimp only at hK ⊢
        simp only [Act.put, List.setIfInBounds_toArray, List.set_cons_zero, List.set_cons_succ] at hK
        have e5 : vs 5 = (.int .u16 (((sync P (bs nm)).1 : Nat) : Int)) := hd 5 (by kernel_rfl)
        simp only [e5] at hK ⊢
        clear e5
        clear h1 h2
        have hw := HWR.out
        go_simp
        exact hK.out _ _ rfl hJ
      refine And.intro ?_ ?_
      · intro vs w' b1 b2 hJ h1 h2 hd K' hK
        dsimp only at hK ⊢
        simp only [Act.put, List.setIfInBounds_toArray, List.set_cons_zero, List.set_cons_succ] at hK
        clear h1 h2
        go_simp
        exact hK.out _ _ rfl hJ
      refine And.intro ?_ ?_
      · intro vs w' b1 b2 hJ h1 h2 hd K' hK
        dsimp only at hK ⊢
        simp only [Act.put, List.setIfInBounds_toArray, List.set_cons_zero, List.set_cons_succ] at hK
        have e7 : vs 7 = (.pointer (some ⟨t, 0, none⟩)) := hd 7 (by kernel_rfl)
        simp only [e7] at hK ⊢
        clear e7
        clear h1 h2
        go_simp
        exact hK.out _ _ rfl hJ
      refine And.intro ?_ ?_
      · intro vs w' b1 b2 hJ h1 h2 hd K' hK
        dsimp only at hK ⊢
        simp only [Act.put, List.setIfInBounds_toArray, List.set_cons_zero, List.set_cons_succ] at hK
        have e8 : vs 8 = (.pointer (some ⟨t, 0, none⟩)) := hd 8 (by kernel_rfl)
        simp only [e8] at hK ⊢
        clear e8
        clear h1 h2
        go_simp
        exact hK.out _ _ rfl hJ
      refine And.intro ?_ ?_
      · intro vs w' b1 b2 hJ h1 h2 hd K' hK
        dsimp only at hK ⊢
        simp only [Act.put, List.setIfInBounds_toArray, List.set_cons_zero, List.set_cons_succ] at hK
        have e9 : vs 9 = (.pointer (some ⟨t, 1, none⟩)) := hd 9 (by kernel_rfl)
        simp only [e9] at hK ⊢
        clear e9
        clear h1 h2
        have q0 := hJ.blk.cell 1
        simp at q0
        go_simp
        exact hK.out _ _ rfl hJ
      refine And.intro ?_ ?_
      · intro vs w' b1 b2 hJ h1 h2 hd K' hK
        dsimp only at hK ⊢
        simp only [Act.put, List.setIfInBounds_toArray, List.set_cons_zero, List.set_cons_succ] at hK
        clear h1 h2
        go_simp
        exact hK.out _ _ rfl hJ
      refine And.intro ?_ ?_
      · intro vs w' b1 b2 hJ h1 h2 hd K' hK
        dsimp only at hK ⊢
        simp only [Act.put, List.setIfInBounds_toArray, List.set_cons_zero, List.set_cons_succ] at hK
        have e10 : vs 10 = (.pointer (some ⟨e, 0, none⟩)) := hd 10 (by kernel_rfl)
        have e11 : vs 11 = (.string nm) := hd 11 (by kernel_rfl)
        simp only [e10, e11] at hK ⊢
        clear e10 e11
        obtain rfl := h2 rfl
        go_simp
        refine (Tz.call2 (Q := P) (Q' := (sync P (bs nm)).2) hJ (fun S h => (rsync_any P e S nm _ h).mono (fun r w' ⟨h1, h2, h3⟩ => ⟨h1, S, h2, h3⟩))).mono ?_
        rintro r w5 ⟨rfl, hz5⟩
        exact hK.out _ _ rfl hz5
      refine And.intro ?_ ?_
      · intro vs w' b1 b2 hJ h1 h2 hd K' hK
        dsimp only at hK ⊢
        simp only [Act.put, List.setIfInBounds_toArray, List.set_cons_zero, List.set_cons_succ] at hK
        have e6 : vs 6 = (.int .i64 (((sync P (bs nm)).1 : Nat) : Int)) := hd 6 (by kernel_rfl)
        have e12 : vs 12 = (.int .i64 (((sync P (bs nm)).1 : Nat) : Int)) := hd 12 (by kernel_rfl)
        simp only [e6, e12] at hK ⊢
        clear e6 e12
        clear h1 h2
        go_simp
        exact hK.out _ _ rfl hJ
      exact trivial
    case last =>
      intro vs w' hJ hall K' Q' hK
      obtain ⟨e0, e1, e2, e3, e4, e5, e6, e7, e8, e9, e10, e11, e12, e13, _⟩ := hall
      dsimp only
      simp only [e0, e1, e2, e3, e4, e5, e6, e7, e8, e9, e10, e11, e12, e13]
      clear e0 e1 e2 e3 e4 e5 e6 e7 e8 e9 e10 e11 e12 e13
      go_simp
      refine hK.out _ _ ?_
      clear hK
      have HZ5 : Hid (Tz B w0 w' t ob d e oo (sync P (bs nm)).2 (sync P (bs nm)).2) := hide hJ
      clear hJ
      go_wp2_with fail
      go_ret
      exact ⟨rfl, d, e, _, HZ5.out.plain⟩
  by_cases h4 : q = 4
  · have hq0 : kd.tmod 9 = 4 := by omega
    clear hq hq9 h4
    go_upto_region 5 with fail
    clear k0 hq0
    have hJ0 : Tz B w0 w1.drew t ob d e oo P P := HZ.out.below ((Below.refl _ _).drew)
    have HWR : Hid (IntKind.i64.wrap (((sync P (bs nm)).1 : Nat) : Int) = (((sync P (bs nm)).1 : Nat) : Int)) := hide (by have := sync_low P (bs nm); rw [IntKind.wrap_i64]; omega)
    refine' wp_region_inv [(fun v => v = (.pointer (some ⟨t, 0, none⟩))), (fun v => v = (.pointer (some ⟨t, 0, none⟩))), (fun v => v = (.pointer (some ⟨t, 0, none⟩))), (fun v => v = (.pointer (some ⟨d, 0, none⟩))), (fun v => v = (.string nm)), (fun v => v = (.int .u16 (((sync P (bs nm)).1 : Nat) : Int))), (fun v => v = (.int .i64 (((sync P (bs nm)).1 : Nat) : Int))), (fun v => v = (.pointer (some ⟨t, 0, none⟩))), (fun v => v = (.pointer (some ⟨t, 0, none⟩))), (fun v => v = (.pointer (some ⟨t, 1, none⟩))), (fun v => v = (.pointer (some ⟨e, 0, none⟩))), (fun v => v = (.string nm)), (fun v => v = (.int .i64 (((sync P (bs nm)).1 : Nat) : Int))), (fun v => v = (.bool true))] 5 12 (fun b1 b2 wr => Tz B w0 wr t ob d e oo (if b1 = true then (sync P (bs nm)).2 else P) (if b2 = true then (sync P (bs nm)).2 else P)) (by kernel_rfl) rfl ?hA (by kernel_rfl) (by kernel_rfl) (by kernel_rfl) rfl (by decide) ?hJ0 ?steps ?last
    case hA =>
      intro vs
      simp only [puts, Act.put, List.setIfInBounds_toArray, List.set_cons_zero, List.set_cons_succ, Nat.zero_add, Nat.reduceAdd]
      rfl
    case hJ0 => exact hJ0
    case steps =>
      intro Q'
      refine And.intro ?_ ?_
      · intro vs w' b1 b2 hJ h1 h2 hd K' hK
        dsimp only at hK ⊢
        simp only [Act.put, List.setIfInBounds_toArray, List.set_cons_zero, List.set_cons_succ] at hK
        clear h1 h2
        go_simp
        exact hK.out _ _ rfl hJ
      refine And.intro ?_ ?_
      · intro vs w' b1 b2 hJ h1 h2 hd K' hK
        dsimp only at hK ⊢
        simp only [Act.put, List.setIfInBounds_toArray, List.set_cons_zero, List.set_cons_succ] at hK
        have e0 : vs 0 = (.pointer (some ⟨t, 0, none⟩)) := hd 0 (by kernel_rfl)
        simp only [e0] at hK ⊢
        clear e0
        clear h1 h2
        go_simp
        exact hK.out _ _ rfl hJ
      refine And.intro ?_ ?_
      · intro vs w' b1 b2 hJ h1 h2 hd K' hK
        dsimp only at hK ⊢
        simp only [Act.put, List.setIfInBounds_toArray, List.set_cons_zero, List.set_cons_succ] at hK
        have e1 : vs 1 = (.pointer (some ⟨t, 0, none⟩)) := hd 1 (by kernel_rfl)
        simp only [e1] at hK ⊢
        clear e1
        clear h1 h2
        go_simp
        exact hK.out _ _ rfl hJ
      refine And.intro ?_ ?_
      · intro vs w' b1 b2 hJ h1 h2 hd K' hK
        dsimp only at hK ⊢
        simp only [Act.put, List.setIfInBounds_toArray, List.set_cons_zero, List.set_cons_succ] at hK
        have e2 : vs 2 = (.pointer (some ⟨t, 0, none⟩)) := hd 2 (by kernel_rfl)
        simp only [e2] at hK ⊢
        clear e2
        clear h1 h2
        have q0 := hJ.blk.cell 0
        simp at q0
        go_simp
        exact hK.out _ _ rfl hJ
      refine And.intro ?_ ?_
      · intro vs w' b1 b2 hJ h1 h2 hd K' hK
        dsimp only at hK ⊢
        simp only [Act.put, List.setIfInBounds_toArray, List.set_cons_zero, List.set_cons_succ] at hK
        clear h1 h2
        go_simp
        exact hK.out _ _ rfl hJ
      refine And.intro ?_ ?_
      · intro vs w' b1 b2 hJ h1 h2 hd K' hK
        dsimp only at hK ⊢
        simp only [Act.put, List.setIfInBounds_toArray, List.set_cons_zero, List.set_cons_succ] at hK
        have e3 : vs 3 = (.pointer (some ⟨d, 0, none⟩)) := hd 3 (by kernel_rfl)
        have e4 : vs 4 = (.string nm) := hd 4 (by kernel_rfl)
        simp only [e3, e4] at hK ⊢
        clear e3 e4
        obtain rfl := h1 rfl
        go_simp
        refine (Tz.call1 (P := P) (P' := (sync P (bs nm)).2) hJ (fun S h => (sync_any P d S nm _ h hns).mono (fun r w' ⟨h1, h2⟩ => ⟨h1, h2⟩))).mono ?_
        rintro r w5 ⟨rfl, hz5⟩
        exact hK.out _ _ rfl hz5
      refine And.intro ?_ ?_
      · intro vs w' b1 b2 hJ h1 h2 hd K' hK
        dsimp only at hK ⊢
        simp only [Act.put, List.setIfInBounds_toArray, List.set_cons_zero, List.set_cons_succ] at hK
        have e5 : vs 5 = (.int .u16 (((sync P (bs nm)).1 : Nat) : Int)) := hd 5 (by kernel_rfl)
        simp only [e5] at hK ⊢
        clear e5
        clear h1 h2
        have hw := HWR.out
        go_simp
        exact hK.out _ _ rfl hJ
      refine And.intro ?_ ?_
      · intro vs w' b1 b2 hJ h1 h2 hd K' hK
        dsimp only at hK ⊢
        simp only [Act.put, List.setIfInBounds_toArray, List.set_cons_zero, List.set_cons_succ] at hK
        clear h1 h2
        go_simp
        exact hK.out _ _ rfl hJ
      refine And.intro ?_ ?_
      · intro vs w' b1 b2 hJ h1 h2 hd K' hK
        dsimp only at hK ⊢
        simp only [Act.put, List.setIfInBounds_toArray, List.set_cons_zero, List.set_cons_succ] at hK
        have e7 : vs 7 = (.pointer (some ⟨t, 0, none⟩)) := hd 7 (by kernel_rfl)
        simp only [e7] at hK ⊢
        clear e7
        clear h1 h2
        go_simp
        exact hK.out _ _ rfl hJ
      refine And.intro ?_ ?_
      · intro vs w' b1 b2 hJ h1 h2 hd K' hK
        dsimp only at hK ⊢
        simp only [Act.put, List.setIfInBounds_toArray, List.set_cons_zero, List.set_cons_succ] at hK
        have e8 : vs 8 = (.pointer (some ⟨t, 0, none⟩)) := hd 8 (by kernel_rfl)
        simp only [e8] at hK ⊢
        clear e8
        clear h1 h2
        go_simp
        exact hK.out _ _ rfl hJ
      refine And.intro ?_ ?_
      · intro vs w' b1 b2 hJ h1 h2 hd K' hK
        dsimp only at hK ⊢
        simp only [Act.put, List.setIfInBounds_toArray, List.set_cons_zero, List.set_cons_succ] at hK
        have e9 : vs 9 = (.pointer (some ⟨t, 1, none⟩)) := hd 9 (by kernel_rfl)
        simp only [e9] at hK ⊢
        clear e9
        clear h1 h2
        have q0 := hJ.blk.cell 1
        simp at q0
        go_simp
        exact hK.out _ _ rfl hJ
      refine And.intro ?_ ?_
      · intro vs w' b1 b2 hJ h1 h2 hd K' hK
        dsimp only at hK ⊢
        simp only [Act.put, List.setIfInBounds_toArray, List.set_cons_zero, List.set_cons_succ] at hK
        clear h1 h2
        go_simp
        exact hK.out _ _ rfl hJ
      refine And.intro ?_ ?_
      · intro vs w' b1 b2 hJ h1 h2 hd K' hK
        dsimp only at hK ⊢
        simp only [Act.put, List.setIfInBounds_toArray, List.set_cons_zero, List.set_cons_succ] at hK
        have e10 : vs 10 = (.pointer (some ⟨e, 0, none⟩)) := hd 10 (by kernel_rfl)
        have e11 : vs 11 = (.string nm) := hd 11 (by kernel_rfl)
        simp only [e10, e11] at hK ⊢
        clear e10 e11
        obtain rfl := h2 rfl
        go_simp
        refine (Tz.call2 (Q := P) (Q' := (sync P (bs nm)).2) hJ (fun S h => (rsync_any P e S nm _ h).mono (fun r w' ⟨h1, h2, h3⟩ => ⟨h1, S, h2, h3⟩))).mono ?_
        rintro r w5 ⟨rfl, hz5⟩
        exact hK.out _ _ rfl hz5
      refine And.intro ?_ ?_
      · intro vs w' b1 b2 hJ h1 h2 hd K' hK
        dsimp only at hK ⊢
        simp only [Act.put, List.setIfInBounds_toArray, List.set_cons_zero, List.set_cons_succ] at hK
        have e6 : vs 6 = (.int .i64 (((sync P (bs nm)).1 : Nat) : Int)) := hd 6 (by kernel_rfl)
        have e12 : vs 12 = (.int .i64 (((sync P (bs nm)).1 : Nat) : Int)) := hd 12 (by kernel_rfl)
        simp only [e6, e12] at hK ⊢
        clear e6 e12
        clear h1 h2
        go_simp
        exact hK.out _ _ rfl hJ
      exact trivial
    case last =>
      intro vs w' hJ hall K' Q' hK
      obtain ⟨e0, e1, e2, e3, e4, e5, e6, e7, e8, e9, e10, e11, e12, e13, _⟩ := hall
      dsimp only
      simp only [e0, e1, e2, e3, e4, e5, e6, e7, e8, e9, e10, e11, e12, e13]
      clear e0 e1 e2 e3 e4 e5 e6 e7 e8 e9 e10 e11 e12 e13
      go_simp
      refine hK.out _ _ ?_
      clear hK
      have HZ5 : Hid (Tz B w0 w' t ob d e oo (sync P (bs nm)).2 (sync P (bs nm)).2) := hide hJ
      clear hJ
      go_wp2_with fail
      go_ret
      exact ⟨rfl, d, e, _, HZ5.out.plain⟩
  by_cases h5 : q = 5
  · have hq0 : kd.tmod 9 = 5 := by omega
    clear hq hq9 h5
    go_upto_region 7 with fail
    clear k0 hq0
    have hJ0 : Tz B w0 w1.drew t ob d e oo P P := HZ.out.below ((Below.refl _ _).drew)
    have HWR : Hid (IntKind.i64.wrap (((cut P (bs nm) kn).1 : Nat) : Int) = (((cut P (bs nm) kn).1 : Nat) : Int)) := hide (by have := cut_low P (bs nm) kn; rw [IntKind.wrap_i64]; omega)
    refine' wp_region_inv [(fun v => v = (.pointer (some ⟨t, 0, none⟩))), (fun v => v = (.pointer (some ⟨t, 0, none⟩))), (fun v => v = (.pointer (some ⟨t, 0, none⟩))), (fun v => v = (.pointer (some ⟨d, 0, none⟩))), (fun v => v = (.string nm)), (fun v => v = (.pointer (some ⟨ob, 2, none⟩))), (fun v => v = (.int .i64 kn)), (fun v => v = (.int .u16 (((cut P (bs nm) kn).1 : Nat) : Int))), (fun v => v = (.int .i64 (((cut P (bs nm) kn).1 : Nat) : Int))), (fun v => v = (.pointer (some ⟨t, 0, none⟩))), (fun v => v = (.pointer (some ⟨t, 0, none⟩))), (fun v => v = (.pointer (some ⟨t, 1, none⟩))), (fun v => v = (.pointer (some ⟨e, 0, none⟩))), (fun v => v = (.string nm)), (fun v => v = (.pointer (some ⟨ob, 2, none⟩))), (fun v => v = (.int .i64 kn)), (fun v => v = (.int .i64 (((cut P (bs nm) kn).1 : Nat) : Int))), (fun v => v = (.bool true))] 7 16 (fun b1 b2 wr => Tz B w0 wr t ob d e oo (if b1 = true then (cut P (bs nm) kn).2 else P) (if b2 = true then (cut P (bs nm) kn).2 else P)) (by kernel_rfl) rfl ?hA (by kernel_rfl) (by kernel_rfl) (by kernel_rfl) rfl (by decide) ?hJ0 ?steps ?last
    case hA =>
      intro vs
      simp only [puts, Act.put, List.setIfInBounds_toArray, List.set_cons_zero, List.set_cons_succ, Nat.zero_add, Nat.reduceAdd]
      rfl
    case hJ0 => exact hJ0
    case steps =>
      intro Q'
      refine And.intro ?_ ?_
      · intro vs w' b1 b2 hJ h1 h2 hd K' hK
        dsimp only at hK ⊢
        simp only [Act.put, List.setIfInBounds_toArray, List.set_cons_zero, List.set_cons_succ] at hK
        clear h1 h2
        go_simp
        exact hK.out _ _ rfl hJ
      refine And.intro ?_ ?_
      · intro vs w' b1 b2 hJ h1 h2 hd K' hK
        dsimp only at hK ⊢
        simp only [Act.put, List.setIfInBounds_toArray, List.set_cons_zero, List.set_cons_succ] at hK
        have e0 : vs 0 = (.pointer (some ⟨t, 0, none⟩)) := hd 0 (by kernel_rfl)
        simp only [e0] at hK ⊢
        clear e0
        clear h1 h2
        go_simp
        exact hK.out _ _ rfl hJ
      refine And.intro ?_ ?_
      · intro vs w' b1 b2 hJ h1 h2 hd K' hK
        dsimp only at hK ⊢
        simp only [Act.put, List.setIfInBounds_toArray, List.set_cons_zero, List.set_cons_succ] at hK
        have e1 : vs 1 = (.pointer (some ⟨t, 0, none⟩)) := hd 1 (by kernel_rfl)
        simp only [e1] at hK ⊢
        clear e1
        clear h1 h2
        go_simp
        exact hK.out _ _ rfl hJ
      refine And.intro ?_ ?_
      · intro vs w' b1 b2 hJ h1 h2 hd K' hK
        dsimp only at hK ⊢
        simp only [Act.put, List.setIfInBounds_toArray, List.set_cons_zero, List.set_cons_succ] at hK
        have e2 : vs 2 = (.pointer (some ⟨t, 0, none⟩)) := hd 2 (by kernel_rfl)
        simp only [e2] at hK ⊢
        clear e2
        clear h1 h2
        have q0 := hJ.blk.cell 0
        simp at q0
        go_simp
        exact hK.out _ _ rfl hJ
      refine And.intro ?_ ?_
      · intro vs w' b1 b2 hJ h1 h2 hd K' hK
        dsimp only at hK ⊢
        simp only [Act.put, List.setIfInBounds_toArray, List.set_cons_zero, List.set_cons_succ] at hK
        clear h1 h2
        go_simp
        exact hK.out _ _ rfl hJ
      refine And.intro ?_ ?_
      · intro vs w' b1 b2 hJ h1 h2 hd K' hK
        dsimp only at hK ⊢
        simp only [Act.put, List.setIfInBounds_toArray, List.set_cons_zero, List.set_cons_succ] at hK
        clear h1 h2
        go_simp
        exact hK.out _ _ rfl hJ
      refine And.intro ?_ ?_
      · intro vs w' b1 b2 hJ h1 h2 hd K' hK
        dsimp only at hK ⊢
        simp only [Act.put, List.setIfInBounds_toArray, List.set_cons_zero, List.set_cons_succ] at hK
        have e5 : vs 5 = (.pointer (some ⟨ob, 2, none⟩)) := hd 5 (by kernel_rfl)
        simp only [e5] at hK ⊢
        clear e5
        clear h1 h2
        have q0 := hJ.box
        rw [HOO.out] at q0
        have q1 := Blk.cell q0 2
        simp at q1
        go_simp
        exact hK.out _ _ rfl hJ
      refine And.intro ?_ ?_
      · intro vs w' b1 b2 hJ h1 h2 hd K' hK
        dsimp only at hK ⊢
        simp only [Act.put, List.setIfInBounds_toArray, List.set_cons_zero, List.set_cons_succ] at hK
        have e3 : vs 3 = (.pointer (some ⟨d, 0, none⟩)) := hd 3 (by kernel_rfl)
        have e4 : vs 4 = (.string nm) := hd 4 (by kernel_rfl)
        have e6 : vs 6 = (.int .i64 kn) := hd 6 (by kernel_rfl)
        simp only [e3, e4, e6] at hK ⊢
        clear e3 e4 e6
        obtain rfl := h1 rfl
        go_simp
        refine (Tz.call1 (P := P) (P' := (cut P (bs nm) kn).2) hJ (fun S h => (cut_any P d S nm kn _ h hns).mono (fun r w' ⟨h1, h2⟩ => ⟨h1, h2⟩))).mono ?_
        rintro r w5 ⟨rfl, hz5⟩
        exact hK.out _ _ rfl hz5
      refine And.intro ?_ ?_
      · intro vs w' b1 b2 hJ h1 h2 hd K' hK
        dsimp only at hK ⊢
        simp only [Act.put, List.setIfInBounds_toArray, List.set_cons_zero, List.set_cons_succ] at hK
        have e7 : vs 7 = (.int .u16 (((cut P (bs nm) kn).1 : Nat) : Int)) := hd 7 (by kernel_rfl)
        simp only [e7] at hK ⊢
        clear e7
        clear h1 h2
        have hw := HWR.out
        go_simp
        exact hK.out _ _ rfl hJ
      refine And.intro ?_ ?_
      · intro vs w' b1 b2 hJ h1 h2 hd K' hK
        dsimp only at hK ⊢
        simp only [Act.put, List.setIfInBounds_toArray, List.set_cons_zero, List.set_cons_succ] at hK
        clear h1 h2
        go_simp
        exact hK.out _ _ rfl hJ
      refine And.intro ?_ ?_
      · intro vs w' b1 b2 hJ h1 h2 hd K' hK
        dsimp only at hK ⊢
        simp only [Act.put, List.setIfInBounds_toArray, List.set_cons_zero, List.set_cons_succ] at hK
        have e9 : vs 9 = (.pointer (some ⟨t, 0, none⟩)) := hd 9 (by kernel_rfl)
        simp only [e9] at hK ⊢
        clear e9
        clear h1 h2
        go_simp
        exact hK.out _ _ rfl hJ
      refine And.intro ?_ ?_
      · intro vs w' b1 b2 hJ h1 h2 hd K' hK
        dsimp only at hK ⊢
        simp only [Act.put, List.setIfInBounds_toArray, List.set_cons_zero, List.set_cons_succ] at hK
        have e10 : vs 10 = (.pointer (some ⟨t, 0, none⟩)) := hd 10 (by kernel_rfl)
        simp only [e10] at hK ⊢
        clear e10
        clear h1 h2
        go_simp
        exact hK.out _ _ rfl hJ
      refine And.intro ?_ ?_
      · intro vs w' b1 b2 hJ h1 h2 hd K' hK
        dsimp only at hK ⊢
        simp only [Act.put, List.setIfInBounds_toArray, List.set_cons_zero, List.set_cons_succ] at hK
        have e11 : vs 11 = (.pointer (some ⟨t, 1, none⟩)) := hd 11 (by kernel_rfl)
        simp only [e11] at hK ⊢
        clear e11
        clear h1 h2
        have q0 := hJ.blk.cell 1
        simp at q0
        go_simp
        exact hK.out _ _ rfl hJ
      refine And.intro ?_ ?_
      · intro vs w' b1 b2 hJ h1 h2 hd K' hK
        dsimp only at hK ⊢
        simp only [Act.put, List.setIfInBounds_toArray, List.set_cons_zero, List.set_cons_succ] at hK
        clear h1 h2
        go_simp
        exact hK.out _ _ rfl hJ
      refine And.intro ?_ ?_
      · intro vs w' b1 b2 hJ h1 h2 hd K' hK
        dsimp only at hK ⊢
        simp only [Act.put, List.setIfInBounds_toArray, List.set_cons_zero, List.set_cons_succ] at hK
        clear h1 h2
        go_simp
        exact hK.out _ _ rfl hJ
      refine And.intro ?_ ?_
      · intro vs w' b1 b2 hJ h1 h2 hd K' hK
        dsimp only at hK ⊢
        simp only [Act.put, List.setIfInBounds_toArray, List.set_cons_zero, List.set_cons_succ] at hK
        have e14 : vs 14 = (.pointer (some ⟨ob, 2, none⟩)) := hd 14 (by kernel_rfl)
        simp only [e14] at hK ⊢
        clear e14
        clear h1 h2
        have q0 := hJ.box
        rw [HOO.out] at q0
        have q1 := Blk.cell q0 2
        simp at q1
        go_simp
        exact hK.out _ _ rfl hJ
      refine And.intro ?_ ?_
      · intro vs w' b1 b2 hJ h1 h2 hd K' hK
        dsimp only at hK ⊢
        simp only [Act.put, List.setIfInBounds_toArray, List.set_cons_zero, List.set_cons_succ] at hK
        have e12 : vs 12 = (.pointer (some ⟨e, 0, none⟩)) := hd 12 (by kernel_rfl)
        have e13 : vs 13 = (.string nm) := hd 13 (by kernel_rfl)
        have e15 : vs 15 = (.int .i64 kn) := hd 15 (by kernel_rfl)
        simp only [e12, e13, e15] at hK ⊢
        clear e12 e13 e15
        obtain rfl := h2 rfl
        go_simp
        refine (Tz.call2 (Q := P) (Q' := (cut P (bs nm) kn).2) hJ (fun S h => (rcut_any P e S nm kn _ h).mono (fun r w' ⟨h1, h2, h3⟩ => ⟨h1, S, h2, h3⟩))).mono ?_
        rintro r w5 ⟨rfl, hz5⟩
        exact hK.out _ _ rfl hz5
      refine And.intro ?_ ?_
      · intro vs w' b1 b2 hJ h1 h2 hd K' hK
        dsimp only at hK ⊢
        simp only [Act.put, List.setIfInBounds_toArray, List.set_cons_zero, List.set_cons_succ] at hK
        have e8 : vs 8 = (.int .i64 (((cut P (bs nm) kn).1 : Nat) : Int)) := hd 8 (by kernel_rfl)
        have e16 : vs 16 = (.int .i64 (((cut P (bs nm) kn).1 : Nat) : Int)) := hd 16 (by kernel_rfl)
        simp only [e8, e16] at hK ⊢
        clear e8 e16
        clear h1 h2
        go_simp
        exact hK.out _ _ rfl hJ
      exact trivial
    case last =>
      intro vs w' hJ hall K' Q' hK
      obtain ⟨e0, e1, e2, e3, e4, e5, e6, e7, e8, e9, e10, e11, e12, e13, e14, e15, e16, e17, _⟩ := hall
      dsimp only
      simp only [e0, e1, e2, e3, e4, e5, e6, e7, e8, e9, e10, e11, e12, e13, e14, e15, e16, e17]
      clear e0 e1 e2 e3 e4 e5 e6 e7 e8 e9 e10 e11 e12 e13 e14 e15 e16 e17
      go_simp
      refine hK.out _ _ ?_
      clear hK
      have HZ5 : Hid (Tz B w0 w' t ob d e oo (cut P (bs nm) kn).2 (cut P (bs nm) kn).2) := hide hJ
      clear hJ
      go_wp2_with fail
      go_ret
      exact ⟨rfl, d, e, _, HZ5.out.plain⟩
  by_cases h6 : q = 6
  · have hq0 : kd.tmod 9 = 6 := by omega
    clear hq hq9 h6
    go_upto_region 9 with fail
    clear k0 hq0
    refine' wp_region_facts [(fun _ _ v _ => v = (.pointer (some ⟨t, 0, none⟩))), (fun _ _ v _ => v = (.pointer (some ⟨t, 0, none⟩))), (fun _ _ v _ => v = (.pointer (some ⟨t, 0, none⟩))), (fun _ _ v _ => v = (.pointer (some ⟨d, 0, none⟩))), (fun _ _ v _ => v = (.pointer (some ⟨ob, 2, none⟩))), (fun _ _ v _ => v = (.int .i64 kn))] (by kernel_rfl) rfl ?hA (by kernel_rfl) (by kernel_rfl) (by kernel_rfl) rfl ?mono ?steps ?last
    case hA =>
      intro vs
      simp only [puts, Act.put, List.setIfInBounds_toArray, List.set_cons_zero, List.set_cons_succ, Nat.zero_add, Nat.reduceAdd]
      rfl
    case mono => exact ⟨mono_eq _, mono_eq _, mono_eq _, mono_eq _, mono_eq _, mono_eq _, trivial⟩
    case steps =>
      intro Q'
      refine And.intro ?_ ?_
      · intro vs lo hi w' hM hd K' hK
        dsimp only at hK ⊢
        simp only [Act.put, List.setIfInBounds_toArray, List.set_cons_zero, List.set_cons_succ] at hK
        go_simp
        exact hK.out _ _ rfl (Below.refl _ _)
      refine And.intro ?_ ?_
      · intro vs lo hi w' hM hd K' hK
        dsimp only at hK ⊢
        simp only [Act.put, List.setIfInBounds_toArray, List.set_cons_zero, List.set_cons_succ] at hK
        have e0 : vs 0 = (.pointer (some ⟨t, 0, none⟩)) := hd 0 (by kernel_rfl)
        simp only [e0] at hK ⊢
        clear e0
        go_simp
        exact hK.out _ _ rfl (Below.refl _ _)
      refine And.intro ?_ ?_
      · intro vs lo hi w' hM hd K' hK
        dsimp only at hK ⊢
        simp only [Act.put, List.setIfInBounds_toArray, List.set_cons_zero, List.set_cons_succ] at hK
        have e1 : vs 1 = (.pointer (some ⟨t, 0, none⟩)) := hd 1 (by kernel_rfl)
        simp only [e1] at hK ⊢
        clear e1
        go_simp
        exact hK.out _ _ rfl (Below.refl _ _)
      refine And.intro ?_ ?_
      · intro vs lo hi w' hM hd K' hK
        dsimp only at hK ⊢
        simp only [Act.put, List.setIfInBounds_toArray, List.set_cons_zero, List.set_cons_succ] at hK
        have e2 : vs 2 = (.pointer (some ⟨t, 0, none⟩)) := hd 2 (by kernel_rfl)
        simp only [e2] at hK ⊢
        clear e2
        have hJ := HZ.out.below hM
        have q0 := hJ.blk.cell 0
        simp at q0
        clear hJ
        go_simp
        exact hK.out _ _ rfl (Below.refl _ _)
      refine And.intro ?_ ?_
      · intro vs lo hi w' hM hd K' hK
        dsimp only at hK ⊢
        simp only [Act.put, List.setIfInBounds_toArray, List.set_cons_zero, List.set_cons_succ] at hK
        go_simp
        exact hK.out _ _ rfl (Below.refl _ _)
      refine And.intro ?_ ?_
      · intro vs lo hi w' hM hd K' hK
        dsimp only at hK ⊢
        simp only [Act.put, List.setIfInBounds_toArray, List.set_cons_zero, List.set_cons_succ] at hK
        have e4 : vs 4 = (.pointer (some ⟨ob, 2, none⟩)) := hd 4 (by kernel_rfl)
        simp only [e4] at hK ⊢
        clear e4
        have hJ := HZ.out.below hM
        have q0 := hJ.box
        rw [HOO.out] at q0
        have q1 := Blk.cell q0 2
        simp at q1
        clear hJ q0
        go_simp
        exact hK.out _ _ rfl (Below.refl _ _)
      exact trivial
    case last =>
      intro vs lo hi w' hM hlo hap hall K' Q' hK
      obtain ⟨e0, e1, e2, e3, e4, e5, _⟩ := hall
      dsimp only
      simp only [e3, e5]
      clear e0 e1 e2 e3 e4 e5 hap hlo
      go_simp
      refine (Tz.call1 (P := P) (P' := fuse P kn) (HZ.out.below hM) (fun S h => (fuse_any P d S kn _ h hkn).mono (fun r w' ⟨h1, h2, h3⟩ => ⟨h1, S, h2, h3⟩))).mono ?_
      rintro r w5 ⟨rfl, hz5⟩
      refine hK.out _ _ ?_
      clear hK hM
      have HZ5 := hide hz5
      clear hz5 HZ
      have HZ := HZ5
      clear HZ5
      go_upto_region 10 with fail
      refine' wp_region_facts [(fun _ _ v _ => v = (.pointer (some ⟨t, 0, none⟩))), (fun _ _ v _ => v = (.pointer (some ⟨t, 0, none⟩))), (fun _ _ v _ => v = (.pointer (some ⟨t, 1, none⟩))), (fun _ _ v _ => v = (.pointer (some ⟨e, 0, none⟩))), (fun _ _ v _ => v = (.pointer (some ⟨ob, 2, none⟩))), (fun _ _ v _ => v = (.int .i64 kn))] (by kernel_rfl) rfl ?hA (by kernel_rfl) (by kernel_rfl) (by kernel_rfl) rfl ?mono ?steps ?last
      case hA =>
        intro vs
        simp only [puts, Act.put, List.setIfInBounds_toArray, List.set_cons_zero, List.set_cons_succ, Nat.zero_add, Nat.reduceAdd]
        rfl
      case mono => exact ⟨mono_eq _, mono_eq _, mono_eq _, mono_eq _, mono_eq _, mono_eq _, trivial⟩
      case steps =>
        intro Q'
        refine And.intro ?_ ?_
        · intro vs lo hi w' hM hd K' hK
          dsimp only at hK ⊢
          simp only [Act.put, List.setIfInBounds_toArray, List.set_cons_zero, List.set_cons_succ] at hK
          go_simp
          exact hK.out _ _ rfl (Below.refl _ _)
        refine And.intro ?_ ?_
        · intro vs lo hi w' hM hd K' hK
          dsimp only at hK ⊢
          simp only [Act.put, List.setIfInBounds_toArray, List.set_cons_zero, List.set_cons_succ] at hK
          have e0 : vs 0 = (.pointer (some ⟨t, 0, none⟩)) := hd 0 (by kernel_rfl)
          simp only [e0] at hK ⊢
          clear e0
          go_simp
          exact hK.out _ _ rfl (Below.refl _ _)
        refine And.intro ?_ ?_
        · intro vs lo hi w' hM hd K' hK
          dsimp only at hK ⊢
          simp only [Act.put, List.setIfInBounds_toArray, List.set_cons_zero, List.set_cons_succ] at hK
          have e1 : vs 1 = (.pointer (some ⟨t, 0, none⟩)) := hd 1 (by kernel_rfl)
          simp only [e1] at hK ⊢
          clear e1
          go_simp
          exact hK.out _ _ rfl (Below.refl _ _)
        refine And.intro ?_ ?_
        · intro vs lo hi w' hM hd K' hK
          dsimp only at hK ⊢
          simp only [Act.put, List.setIfInBounds_toArray, List.set_cons_zero, List.set_cons_succ] at hK
          have e2 : vs 2 = (.pointer (some ⟨t, 1, none⟩)) := hd 2 (by kernel_rfl)
          simp only [e2] at hK ⊢
          clear e2
          have hJ := HZ.out.below hM
          have q0 := hJ.blk.cell 1
          simp at q0
          clear hJ
          go_simp
          exact hK.out _ _ rfl (Below.refl _ _)
        refine And.intro ?_ ?_
        · intro vs lo hi w' hM hd K' hK
          dsimp only at hK ⊢
          simp only [Act.put, List.setIfInBounds_toArray, List.set_cons_zero, List.set_cons_succ] at hK
          go_simp
          exact hK.out _ _ rfl (Below.refl _ _)
        refine And.intro ?_ ?_
        · intro vs lo hi w' hM hd K' hK
          dsimp only at hK ⊢
          simp only [Act.put, List.setIfInBounds_toArray, List.set_cons_zero, List.set_cons_succ] at hK
          have e4 : vs 4 = (.pointer (some ⟨ob, 2, none⟩)) := hd 4 (by kernel_rfl)
          simp only [e4] at hK ⊢
          clear e4
          have hJ := HZ.out.below hM
          have q0 := hJ.box
          rw [HOO.out] at q0
          have q1 := Blk.cell q0 2
          simp at q1
          clear hJ q0
          go_simp
          exact hK.out _ _ rfl (Below.refl _ _)
        exact trivial
      case last =>
        intro vs lo hi w' hM hlo hap hall K' Q' hK
        obtain ⟨e0, e1, e2, e3, e4, e5, _⟩ := hall
        dsimp only
        simp only [e3, e5]
        clear e0 e1 e2 e3 e4 e5 hap hlo
        go_simp
        refine (Tz.call2 (Q := P) (Q' := fuse P kn) (HZ.out.below hM) (fun S h => (rfuse_any P e S kn _ h hkn).mono (fun r w' ⟨h1, h2, h3⟩ => ⟨h1, S, h2, h3⟩))).mono ?_
        rintro r w5 ⟨rfl, hz5⟩
        refine hK.out _ _ ?_
        clear hK hM
        have HZ5 := hide hz5
        clear hz5 HZ
        go_wp2_with fail
        go_ret
        exact ⟨rfl, d, e, _, HZ5.out.plain⟩
  by_cases h7 : q = 7
  · have hq0 : kd.tmod 9 = 7 := by omega
    clear hq hq9 h7
    go_upto_region 13 with fail
    clear k0 hq0
    refine' wp_region_facts [(fun _ _ v _ => v = (.pointer (some ⟨t, 0, none⟩))), (fun _ _ v _ => v = (.pointer (some ⟨t, 0, none⟩))), (fun _ _ v _ => v = (.pointer (some ⟨t, 0, none⟩))), (fun _ _ v _ => v = (.pointer (some ⟨d, 0, none⟩))), (fun _ _ v _ => v = (.pointer (some ⟨ob, 2, none⟩))), (fun _ _ v _ => v = (.int .i64 kn))] (by kernel_rfl) rfl ?hA (by kernel_rfl) (by kernel_rfl) (by kernel_rfl) rfl ?mono ?steps ?last
    case hA =>
      intro vs
      simp only [puts, Act.put, List.setIfInBounds_toArray, List.set_cons_zero, List.set_cons_succ, Nat.zero_add, Nat.reduceAdd]
      rfl
    case mono => exact ⟨mono_eq _, mono_eq _, mono_eq _, mono_eq _, mono_eq _, mono_eq _, trivial⟩
    case steps =>
      intro Q'
      refine And.intro ?_ ?_
      · intro vs lo hi w' hM hd K' hK
        dsimp only at hK ⊢
        simp only [Act.put, List.setIfInBounds_toArray, List.set_cons_zero, List.set_cons_succ] at hK
        go_simp
        exact hK.out _ _ rfl (Below.refl _ _)
      refine And.intro ?_ ?_
      · intro vs lo hi w' hM hd K' hK
        dsimp only at hK ⊢
        simp only [Act.put, List.setIfInBounds_toArray, List.set_cons_zero, List.set_cons_succ] at hK
        have e0 : vs 0 = (.pointer (some ⟨t, 0, none⟩)) := hd 0 (by kernel_rfl)
        simp only [e0] at hK ⊢
        clear e0
        go_simp
        exact hK.out _ _ rfl (Below.refl _ _)
      refine And.intro ?_ ?_
      · intro vs lo hi w' hM hd K' hK
        dsimp only at hK ⊢
        simp only [Act.put, List.setIfInBounds_toArray, List.set_cons_zero, List.set_cons_succ] at hK
        have e1 : vs 1 = (.pointer (some ⟨t, 0, none⟩)) := hd 1 (by kernel_rfl)
        simp only [e1] at hK ⊢
        clear e1
        go_simp
        exact hK.out _ _ rfl (Below.refl _ _)
      refine And.intro ?_ ?_
      · intro vs lo hi w' hM hd K' hK
        dsimp only at hK ⊢
        simp only [Act.put, List.setIfInBounds_toArray, List.set_cons_zero, List.set_cons_succ] at hK
        have e2 : vs 2 = (.pointer (some ⟨t, 0, none⟩)) := hd 2 (by kernel_rfl)
        simp only [e2] at hK ⊢
        clear e2
        have hJ := HZ.out.below hM
        have q0 := hJ.blk.cell 0
        simp at q0
        clear hJ
        go_simp
        exact hK.out _ _ rfl (Below.refl _ _)
      refine And.intro ?_ ?_
      · intro vs lo hi w' hM hd K' hK
        dsimp only at hK ⊢
        simp only [Act.put, List.setIfInBounds_toArray, List.set_cons_zero, List.set_cons_succ] at hK
        go_simp
        exact hK.out _ _ rfl (Below.refl _ _)
      refine And.intro ?_ ?_
      · intro vs lo hi w' hM hd K' hK
        dsimp only at hK ⊢
        simp only [Act.put, List.setIfInBounds_toArray, List.set_cons_zero, List.set_cons_succ] at hK
        have e4 : vs 4 = (.pointer (some ⟨ob, 2, none⟩)) := hd 4 (by kernel_rfl)
        simp only [e4] at hK ⊢
        clear e4
        have hJ := HZ.out.below hM
        have q0 := hJ.box
        rw [HOO.out] at q0
        have q1 := Blk.cell q0 2
        simp at q1
        clear hJ q0
        go_simp
        exact hK.out _ _ rfl (Below.refl _ _)
      exact trivial
    case last =>
      intro vs lo hi w' hM hlo hap hall K' Q' hK
      obtain ⟨e0, e1, e2, e3, e4, e5, _⟩ := hall
      dsimp only
      simp only [e3, e5]
      clear e0 e1 e2 e3 e4 e5 hap hlo
      go_simp
      refine (Tz.call1 (P := P) (P' := crash P kn) (HZ.out.below hM) (fun S h => (crash_any P d S kn _ h hkn).mono (fun r w' h9 => h9))).mono ?_
      rintro r w5 ⟨rfl, hz5⟩
      refine hK.out _ _ ?_
      clear hK hM
      have HZ5 := hide hz5
      clear hz5 HZ
      have HZ := HZ5
      clear HZ5
      go_upto_region 14 with fail
      refine' wp_region_facts [(fun _ _ v _ => v = (.pointer (some ⟨t, 0, none⟩))), (fun _ _ v _ => v = (.pointer (some ⟨t, 0, none⟩))), (fun _ _ v _ => v = (.pointer (some ⟨t, 1, none⟩))), (fun _ _ v _ => v = (.pointer (some ⟨e, 0, none⟩))), (fun _ _ v _ => v = (.pointer (some ⟨ob, 2, none⟩))), (fun _ _ v _ => v = (.int .i64 kn))] (by kernel_rfl) rfl ?hA (by kernel_rfl) (by kernel_rfl) (by kernel_rfl) rfl ?mono ?steps ?last
      case hA =>
        intro vs
        simp only [puts, Act.put, List.setIfInBounds_toArray, List.set_cons_zero, List.set_cons_succ, Nat.zero_add, Nat.reduceAdd]
        rfl
      case mono => exact ⟨mono_eq _, mono_eq _, mono_eq _, mono_eq _, mono_eq _, mono_eq _, trivial⟩
      case steps =>
        intro Q'
        refine And.intro ?_ ?_
        · intro vs lo hi w' hM hd K' hK
          dsimp only at hK ⊢
          simp only [Act.put, List.setIfInBounds_toArray, List.set_cons_zero, List.set_cons_succ] at hK
          go_simp
          exact hK.out _ _ rfl (Below.refl _ _)
        refine And.intro ?_ ?_
        · intro vs lo hi w' hM hd K' hK
          dsimp only at hK ⊢
          simp only [Act.put, List.setIfInBounds_toArray, List.set_cons_zero, List.set_cons_succ] at hK
          have e0 : vs 0 = (.pointer (some ⟨t, 0, none⟩)) := hd 0 (by kernel_rfl)
          simp only [e0] at hK ⊢
          clear e0
          go_simp
          exact hK.out _ _ rfl (Below.refl _ _)
        refine And.intro ?_ ?_
        · intro vs lo hi w' hM hd K' hK
          dsimp only at hK ⊢
          simp only [Act.put, List.setIfInBounds_toArray, List.set_cons_zero, List.set_cons_succ] at hK
          have e1 : vs 1 = (.pointer (some ⟨t, 0, none⟩)) := hd 1 (by kernel_rfl)
          simp only [e1] at hK ⊢
          clear e1
          go_simp
          exact hK.out _ _ rfl (Below.refl _ _)
        refine And.intro ?_ ?_
        · intro vs lo hi w' hM hd K' hK
          dsimp only at hK ⊢
          simp only [Act.put, List.setIfInBounds_toArray, List.set_cons_zero, List.set_cons_succ] at hK
          have e2 : vs 2 = (.pointer (some ⟨t, 1, none⟩)) := hd 2 (by kernel_rfl)
          simp only [e2] at hK ⊢
          clear e2
          have hJ := HZ.out.below hM
          have q0 := hJ.blk.cell 1
          simp at q0
          clear hJ
          go_simp
          exact hK.out _ _ rfl (Below.refl _ _)
        refine And.intro ?_ ?_
        · intro vs lo hi w' hM hd K' hK
          dsimp only at hK ⊢
          simp only [Act.put, List.setIfInBounds_toArray, List.set_cons_zero, List.set_cons_succ] at hK
          go_simp
          exact hK.out _ _ rfl (Below.refl _ _)
        refine And.intro ?_ ?_
        · intro vs lo hi w' hM hd K' hK
          dsimp only at hK ⊢
          simp only [Act.put, List.setIfInBounds_toArray, List.set_cons_zero, List.set_cons_succ] at hK
          have e4 : vs 4 = (.pointer (some ⟨ob, 2, none⟩)) := hd 4 (by kernel_rfl)
          simp only [e4] at hK ⊢
          clear e4
          have hJ := HZ.out.below hM
          have q0 := hJ.box
          rw [HOO.out] at q0
          have q1 := Blk.cell q0 2
          simp at q1
          clear hJ q0
          go_simp
          exact hK.out _ _ rfl (Below.refl _ _)
        exact trivial
      case last =>
        intro vs lo hi w' hM hlo hap hall K' Q' hK
        obtain ⟨e0, e1, e2, e3, e4, e5, _⟩ := hall
        dsimp only
        simp only [e3, e5]
        clear e0 e1 e2 e3 e4 e5 hap hlo
        go_simp
        refine (Tz.call2 (Q := P) (Q' := crash P kn) (HZ.out.below hM) (fun S h => (rcrash_any P e S kn _ h hkn).mono (fun r w' ⟨h1, h2, h3⟩ => ⟨h1, S, h2, h3⟩))).mono ?_
        rintro r w5 ⟨rfl, hz5⟩
        refine hK.out _ _ ?_
        clear hK hM
        have HZ5 := hide hz5
        clear hz5 HZ
        go_wp2_with fail
        go_ret
        exact ⟨rfl, d, e, _, HZ5.out.plain⟩
  by_cases h8 : q = 8
  · have hq0 : kd.tmod 9 = 8 := by omega
    clear hq hq9 h8
    obtain ⟨S, T, hs⟩ := HZ.out
    have hne : ob ≠ t := fun e9 => by
      have q1 := hs.box
      have q2 := hs.blk
      rw [e9, HOO.out] at q1
      exact ne_of_blk q1 q2 (by decide) rfl
    have HS := hide hs
    have c0 := hs.blk.cell 0
    have c1 := hs.blk.cell 1
    simp at c0 c1
    have HNE := hide hne
    clear hs hne HZ
    go_wp2_with fail
    refine (copy_any P d S _ HS.out.disk).mono ?_
    rintro r w2 ⟨c, Sc, rfl, hc, hcl, b2⟩
    have hs3 := HS.out.first b2 hc hcl HNE.out
    have hd3 : IsD (w2.setCell ⟨t, 0, none⟩ (ptr c)) d S P := (HS.out.disk.below b2).keep (Ch.set t 0 _) (fun i hi e9 => HS.out.tS (e9 ▸ hi))
    have hap : ∀ k, Sc k → ¬ S k := fun k h1 h2 => by have q1 := hcl k h1; have q2 := HS.out.disk.low k h2; omega
    have f0 := (HS.out.below b2).blk.free 0
    have c0' := (HS.out.below b2).blk.cell 0
    have c1' := (HS.out.below b2).blk.cell 1
    simp at c0' c1'
    have HS3 := hide hs3
    have HD3 := hide hd3
    have HAP := hide hap
    clear hs3 hd3 hap hc hcl b2 c0 c1 k0
    go_wp2_with fail
    refine (rcopy_any P e T _ HS3.out.ref).mono ?_
    rintro r w4 ⟨e2, Te, rfl, hc, hcl, b4⟩
    have hs5 := HS3.out.second b4 hc hcl HNE.out
    have hd5 : IsD (w4.setCell ⟨t, 1, none⟩ (ptr e2)) d S P := (HD3.out.below b4).keep (Ch.set t 1 _) (fun i hi e9 => HS.out.tS (e9 ▸ hi))
    have hap2 : ∀ k, Te k → ¬ S k := fun k h1 h2 => by have q1 := hcl k h1; have q2 := HD3.out.low k h2; omega
    have f1 := (HS3.out.below b4).blk.free 1
    have c1 := (HS3.out.below b4).blk.cell 1
    simp at c1
    have HS5 := hide hs5
    have HD5 := hide hd5
    have HAP2 := hide hap2
    clear hs5 hd5 hap2 hc hcl b4 c0' c1' f0
    go_wp2_with fail
    refine (crash_any P d S 0 _ HD5.out (by decide)).mono ?_
    rintro r w6 ⟨rfl, S6, hd6, ht6⟩
    have hs6 := HS5.out.keep ht6.ch HAP.out HAP2.out HS.out.tS HS.out.oS HS.out.lowS
    have hq1 : ∀ k, Sc k → ¬ S6 k := fun k h1 h2 => by
      rcases ht6.sub k h2 with h3 | h3
      · exact HAP.out k h1 h3
      · have := HS5.out.disk.low k h1; omega
    have hq2 : ∀ k, Te k → ¬ S6 k := fun k h1 h2 => by
      rcases ht6.sub k h2 with h3 | h3
      · exact HAP2.out k h1 h3
      · have := HS5.out.ref.low k h1; omega
    have hq3 : ¬ S6 t := fun h2 => by
      rcases ht6.sub t h2 with h3 | h3
      · exact HS.out.tS h3
      · have := HS5.out.blk.lt; omega
    have hq4 : ¬ S6 ob := fun h2 => by
      rcases ht6.sub ob h2 with h3 | h3
      · exact HS.out.oS h3
      · have := lt_of_heap HS5.out.box; omega
    have hq5 : ∀ k, S6 k → B ≤ k := fun k h2 => by
      rcases ht6.sub k h2 with h3 | h3
      · exact HS.out.lowS k h3
      · have := HS5.out.big; omega
    have HS6 := hide hs6
    have HD6 := hide hd6
    have HQ := hide (And.intro hq1 (And.intro hq2 (And.intro hq3 (And.intro hq4 hq5))))
    clear hs6 hd6 hq1 hq2 hq3 hq4 hq5 ht6 c1 f1
    go_wp2_with fail
    obtain ⟨mv, A, hda⟩ := HD6.out
    refine (append_any (crash P 0) mv A d S6 ⟨#[122]⟩ ⟨#[122, 122]⟩ w6 hda (by decide)).mono ?_
    rintro r w7 ⟨rfl, S7, hd7, ht7⟩
    obtain ⟨hq1, hq2, hq3, hq4, hq5⟩ := HQ.out
    have hs7 := HS6.out.keep ht7.ch hq1 hq2 hq3 hq4 hq5
    have c0 := hs7.blk.cell 0
    simp at c0
    have HS7 := hide hs7
    clear hs7 hq1 hq2 hq3 hq4 hq5 ht7 hd7 hda
    go_wp2_with fail
    go_ret
    exact ⟨rfl, c, e2, P, Tz.plain ⟨Sc, Te, HS7.out⟩⟩
  · have hq0 : kd.tmod 9 = 0 ∨ kd.tmod 9 = 1 ∨ kd.tmod 9 = 2 := by omega
    have n3 : ¬ kd.tmod 9 = 3 := by omega
    have n4 : ¬ kd.tmod 9 = 4 := by omega
    have n5 : ¬ kd.tmod 9 = 5 := by omega
    have n6 : ¬ kd.tmod 9 = 6 := by omega
    have n7 : ¬ kd.tmod 9 = 7 := by omega
    have n8 : ¬ kd.tmod 9 = 8 := by omega
    clear hq hq9 h3 h4 h5 h6 h7 h8 hq0
    go_upto_region 23 with fail
    try generalize (kd.tmod 9 == 3) = z3
    try generalize (kd.tmod 9 == 4) = z4
    try generalize (kd.tmod 9 == 5) = z5
    try generalize (kd.tmod 9 == 6) = z6
    try generalize (kd.tmod 9 == 7) = z7
    try generalize (kd.tmod 9 == 8) = z8
    try generalize kd.tmod 9 = z9
    clear k0 n3 n4 n5 n6 n7 n8
    have hJ0 : Tz B w0 w1.drew t ob d e oo P P := HZ.out.below ((Below.refl _ _).drew)
    have HWR : Hid (IntKind.i64.wrap (((append P (bs nm) (bs kb)).1 : Nat) : Int) = (((append P (bs nm) (bs kb)).1 : Nat) : Int)) := hide (by have := append_low P (bs nm) (bs kb); rw [IntKind.wrap_i64]; omega)
    refine' wp_region_inv [(fun v => v = (.pointer (some ⟨t, 0, none⟩))), (fun v => v = (.pointer (some ⟨t, 0, none⟩))), (fun v => v = (.pointer (some ⟨t, 0, none⟩))), (fun v => v = (.pointer (some ⟨d, 0, none⟩))), (fun v => v = (.string nm)), (fun v => v = (.pointer (some ⟨ob, 3, none⟩))), (fun v => v = (.string kb)), (fun v => v = (.int .u16 (((append P (bs nm) (bs kb)).1 : Nat) : Int))), (fun v => v = (.int .i64 (((append P (bs nm) (bs kb)).1 : Nat) : Int))), (fun v => v = (.pointer (some ⟨t, 0, none⟩))), (fun v => v = (.pointer (some ⟨t, 0, none⟩))), (fun v => v = (.pointer (some ⟨t, 1, none⟩))), (fun v => v = (.pointer (some ⟨e, 0, none⟩))), (fun v => v = (.string nm)), (fun v => v = (.pointer (some ⟨ob, 3, none⟩))), (fun v => v = (.string kb)), (fun v => v = (.int .i64 (((append P (bs nm) (bs kb)).1 : Nat) : Int))), (fun v => v = (.bool true))] 7 16 (fun b1 b2 wr => Tz B w0 wr t ob d e oo (if b1 = true then (append P (bs nm) (bs kb)).2 else P) (if b2 = true then (append P (bs nm) (bs kb)).2 else P)) (by kernel_rfl) rfl ?hA (by kernel_rfl) (by kernel_rfl) (by kernel_rfl) rfl (by decide) ?hJ0 ?steps ?last
    case hA =>
      intro vs
      simp only [puts, Act.put, List.setIfInBounds_toArray, List.set_cons_zero, List.set_cons_succ, Nat.zero_add, Nat.reduceAdd]
      rfl
    case hJ0 => exact hJ0
    case steps =>
      intro Q'
      refine And.intro ?_ ?_
      · intro vs w' b1 b2 hJ h1 h2 hd K' hK
        dsimp only at hK ⊢
        simp only [Act.put, List.setIfInBounds_toArray, List.set_cons_zero, List.set_cons_succ] at hK
        clear h1 h2
        go_simp
        exact hK.out _ _ rfl hJ
      refine And.intro ?_ ?_
      · intro vs w' b1 b2 hJ h1 h2 hd K' hK
        dsimp only at hK ⊢
        simp only [Act.put, List.setIfInBounds_toArray, List.set_cons_zero, List.set_cons_succ] at hK
        have e0 : vs 0 = (.pointer (some ⟨t, 0, none⟩)) := hd 0 (by kernel_rfl)
        simp only [e0] at hK ⊢
        clear e0
        clear h1 h2
        go_simp
        exact hK.out _ _ rfl hJ
      refine And.intro ?_ ?_
      · intro vs w' b1 b2 hJ h1 h2 hd K' hK
        dsimp only at hK ⊢
        simp only [Act.put, List.setIfInBounds_toArray, List.set_cons_zero, List.set_cons_succ] at hK
        have e1 : vs 1 = (.pointer (some ⟨t, 0, none⟩)) := hd 1 (by kernel_rfl)
        simp only [e1] at hK ⊢
        clear e1
        clear h1 h2
        go_simp
        exact hK.out _ _ rfl hJ
      refine And.intro ?_ ?_
      · intro vs w' b1 b2 hJ h1 h2 hd K' hK
        dsimp only at hK ⊢
        simp only [Act.put, List.setIfInBounds_toArray, List.set_cons_zero, List.set_cons_succ] at hK
        have e2 : vs 2 = (.pointer (some ⟨t, 0, none⟩)) := hd 2 (by kernel_rfl)
        simp only [e2] at hK ⊢
        clear e2
        clear h1 h2
        have q0 := hJ.blk.cell 0
        simp at q0
        go_simp
        exact hK.out _ _ rfl hJ
      refine And.intro ?_ ?_
      · intro vs w' b1 b2 hJ h1 h2 hd K' hK
        dsimp only at hK ⊢
        simp only [Act.put, List.setIfInBounds_toArray, List.set_cons_zero, List.set_cons_succ] at hK
        clear h1 h2
        go_simp
        exact hK.out _ _ rfl hJ
      refine And.intro ?_ ?_
      · intro vs w' b1 b2 hJ h1 h2 hd K' hK
        dsimp only at hK ⊢
        simp only [Act.put, List.setIfInBounds_toArray, List.set_cons_zero, List.set_cons_succ] at hK
        clear h1 h2
        go_simp
        exact hK.out _ _ rfl hJ
      refine And.intro ?_ ?_
      · intro vs w' b1 b2 hJ h1 h2 hd K' hK
        dsimp only at hK ⊢
        simp only [Act.put, List.setIfInBounds_toArray, List.set_cons_zero, List.set_cons_succ] at hK
        have e5 : vs 5 = (.pointer (some ⟨ob, 3, none⟩)) := hd 5 (by kernel_rfl)
        simp only [e5] at hK ⊢
        clear e5
        clear h1 h2
        have q0 := hJ.box
        rw [HOO.out] at q0
        have q1 := Blk.cell q0 3
        simp at q1
        go_simp
        exact hK.out _ _ rfl hJ
      refine And.intro ?_ ?_
      · intro vs w' b1 b2 hJ h1 h2 hd K' hK
        dsimp only at hK ⊢
        simp only [Act.put, List.setIfInBounds_toArray, List.set_cons_zero, List.set_cons_succ] at hK
        have e3 : vs 3 = (.pointer (some ⟨d, 0, none⟩)) := hd 3 (by kernel_rfl)
        have e4 : vs 4 = (.string nm) := hd 4 (by kernel_rfl)
        have e6 : vs 6 = (.string kb) := hd 6 (by kernel_rfl)
        simp only [e3, e4, e6] at hK ⊢
        clear e3 e4 e6
        obtain rfl := h1 rfl
        go_simp
        refine (Tz.call1 (P := P) (P' := (append P (bs nm) (bs kb)).2) hJ (fun S h => (by obtain ⟨mv, A, h⟩ := h; exact append_any P mv A d S nm kb _ h hns))).mono ?_
        rintro r w5 ⟨rfl, hz5⟩
        exact hK.out _ _ rfl hz5
      refine And.intro ?_ ?_
      · intro vs w' b1 b2 hJ h1 h2 hd K' hK
        dsimp only at hK ⊢
        simp only [Act.put, List.setIfInBounds_toArray, List.set_cons_zero, List.set_cons_succ] at hK
        have e7 : vs 7 = (.int .u16 (((append P (bs nm) (bs kb)).1 : Nat) : Int)) := hd 7 (by kernel_rfl)
        simp only [e7] at hK ⊢
        clear e7
        clear h1 h2
        have hw := HWR.out
        go_simp
        exact hK.out _ _ rfl hJ
      refine And.intro ?_ ?_
      · intro vs w' b1 b2 hJ h1 h2 hd K' hK
        dsimp only at hK ⊢
        simp only [Act.put, List.setIfInBounds_toArray, List.set_cons_zero, List.set_cons_succ] at hK
        clear h1 h2
        go_simp
        exact hK.out _ _ rfl hJ
      refine And.intro ?_ ?_
      · intro vs w' b1 b2 hJ h1 h2 hd K' hK
        dsimp only at hK ⊢
        simp only [Act.put, List.setIfInBounds_toArray, List.set_cons_zero, List.set_cons_succ] at hK
        have e9 : vs 9 = (.pointer (some ⟨t, 0, none⟩)) := hd 9 (by kernel_rfl)
        simp only [e9] at hK ⊢
        clear e9
        clear h1 h2
        go_simp
        exact hK.out _ _ rfl hJ
      refine And.intro ?_ ?_
      · intro vs w' b1 b2 hJ h1 h2 hd K' hK
        dsimp only at hK ⊢
        simp only [Act.put, List.setIfInBounds_toArray, List.set_cons_zero, List.set_cons_succ] at hK
        have e10 : vs 10 = (.pointer (some ⟨t, 0, none⟩)) := hd 10 (by kernel_rfl)
        simp only [e10] at hK ⊢
        clear e10
        clear h1 h2
        go_simp
        exact hK.out _ _ rfl hJ
      refine And.intro ?_ ?_
      · intro vs w' b1 b2 hJ h1 h2 hd K' hK
        dsimp only at hK ⊢
        simp only [Act.put, List.setIfInBounds_toArray, List.set_cons_zero, List.set_cons_succ] at hK
        have e11 : vs 11 = (.pointer (some ⟨t, 1, none⟩)) := hd 11 (by kernel_rfl)
        simp only [e11] at hK ⊢
        clear e11
        clear h1 h2
        have q0 := hJ.blk.cell 1
        simp at q0
        go_simp
        exact hK.out _ _ rfl hJ
      refine And.intro ?_ ?_
      · intro vs w' b1 b2 hJ h1 h2 hd K' hK
        dsimp only at hK ⊢
        simp only [Act.put, List.setIfInBounds_toArray, List.set_cons_zero, List.set_cons_succ] at hK
        clear h1 h2
        go_simp
        exact hK.out _ _ rfl hJ
      refine And.intro ?_ ?_
      · intro vs w' b1 b2 hJ h1 h2 hd K' hK
        dsimp only at hK ⊢
        simp only [Act.put, List.setIfInBounds_toArray, List.set_cons_zero, List.set_cons_succ] at hK
        clear h1 h2
        go_simp
        exact hK.out _ _ rfl hJ
      refine And.intro ?_ ?_
      · intro vs w' b1 b2 hJ h1 h2 hd K' hK
        dsimp only at hK ⊢
        simp only [Act.put, List.setIfInBounds_toArray, List.set_cons_zero, List.set_cons_succ] at hK
        have e14 : vs 14 = (.pointer (some ⟨ob, 3, none⟩)) := hd 14 (by kernel_rfl)
        simp only [e14] at hK ⊢
        clear e14
        clear h1 h2
        have q0 := hJ.box
        rw [HOO.out] at q0
        have q1 := Blk.cell q0 3
        simp at q1
        go_simp
        exact hK.out _ _ rfl hJ
      refine And.intro ?_ ?_
      · intro vs w' b1 b2 hJ h1 h2 hd K' hK
        dsimp only at hK ⊢
        simp only [Act.put, List.setIfInBounds_toArray, List.set_cons_zero, List.set_cons_succ] at hK
        have e12 : vs 12 = (.pointer (some ⟨e, 0, none⟩)) := hd 12 (by kernel_rfl)
        have e13 : vs 13 = (.string nm) := hd 13 (by kernel_rfl)
        have e15 : vs 15 = (.string kb) := hd 15 (by kernel_rfl)
        simp only [e12, e13, e15] at hK ⊢
        clear e12 e13 e15
        obtain rfl := h2 rfl
        go_simp
        refine (Tz.call2 (Q := P) (Q' := (append P (bs nm) (bs kb)).2) hJ (fun S h => (rappend_any P e S nm kb _ h hns hbz).mono (fun r w' ⟨S', h1, h2, h3⟩ => ⟨h1, S', h2, h3⟩))).mono ?_
        rintro r w5 ⟨rfl, hz5⟩
        exact hK.out _ _ rfl hz5
      refine And.intro ?_ ?_
      · intro vs w' b1 b2 hJ h1 h2 hd K' hK
        dsimp only at hK ⊢
        simp only [Act.put, List.setIfInBounds_toArray, List.set_cons_zero, List.set_cons_succ] at hK
        have e8 : vs 8 = (.int .i64 (((append P (bs nm) (bs kb)).1 : Nat) : Int)) := hd 8 (by kernel_rfl)
        have e16 : vs 16 = (.int .i64 (((append P (bs nm) (bs kb)).1 : Nat) : Int)) := hd 16 (by kernel_rfl)
        simp only [e8, e16] at hK ⊢
        clear e8 e16
        clear h1 h2
        go_simp
        exact hK.out _ _ rfl hJ
      exact trivial
    case last =>
      intro vs w' hJ hall K' Q' hK
      obtain ⟨e0, e1, e2, e3, e4, e5, e6, e7, e8, e9, e10, e11, e12, e13, e14, e15, e16, e17, _⟩ := hall
      dsimp only
      simp only [e0, e1, e2, e3, e4, e5, e6, e7, e8, e9, e10, e11, e12, e13, e14, e15, e16, e17]
      clear e0 e1 e2 e3 e4 e5 e6 e7 e8 e9 e10 e11 e12 e13 e14 e15 e16 e17
      go_simp
      refine hK.out _ _ ?_
      clear hK
      have HZ5 : Hid (Tz B w0 w' t ob d e oo (append P (bs nm) (bs kb)).2 (append P (bs nm) (bs kb)).2) := hide hJ
      clear hJ
      go_wp2_with fail
      go_ret
      exact ⟨rfl, d, e, _, HZ5.out.plain⟩
end Go.Proofs.Ytmbjlnnoemenoaa
