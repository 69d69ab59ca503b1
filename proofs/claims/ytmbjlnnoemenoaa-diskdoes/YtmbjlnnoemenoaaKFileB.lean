/-
  THE WALKS of a file's sync, cut, crash, front, copied (layer 9).
-/
import Derived.Test.YtmbjlnnoemenoaaKFile
import Derived.BigQuiet
import Derived.BigRegion
import Derived.Deep.RegionWith
set_option linter.unusedVariables false
set_option linter.unusedSimpArgs false
set_option maxRecDepth 100000
namespace Go.Proofs.Ytmbjlnnoemenoaa
open Go.RowKit Go.Maps Dk

abbrev stepV (d : Nat) : Value := .func (.func 33) #[ptr d] #[]
theorem steps01 (P : PD) : steps P 1 = 0 ∨ steps P 1 = 1 := by have := steps_le P 1; omega

set_option maxHeartbeats 1000000 in
theorem front_any (f : PF) (v : Value) (fb : Nat) (w : World) (hb : Blk w fb #[v, .int .i64 f.last] 69) (hr : Row w v f.all) (hn : f.last ≤ f.all.length) (hl : f.all.length ≤ 4194304) :
    Calls Try.prog 39 #[ptr fb] w fun e w' => ∃ v', e = .returned v' ∧ Vw w' v' (f.all.take f.last) ∧ Below w.heap.size w w' := by
  obtain ⟨all, last⟩ := f
  simp only at hb hr hn hl ⊢
  obtain ⟨a, cap, rfl, hcap, hvw⟩ := hr.front hn
  have hc : cap ≤ maxLen := by obtain ⟨_, _, h1, _, h2, _⟩ := hvw; simp only [Value.slice.injEq] at h1; omega
  unfold maxLen at hc
  have c0 := hb.cell 0
  have c1 := hb.cell 1
  simp at c0 c1
  have HV := hide hvw
  have hnl : (last : Int) ≤ cap := by omega
  clear hb hr hvw
  go_enter Try.func39, Try.ntmps39
  go_wp2_with fail
  go_quiet (fail)
  go_wp2_with fail
  go_ret
  exact ⟨_, rfl, HV.out, below_drewN (Below.refl _ _) _⟩

set_option maxHeartbeats 1000000 in
theorem fsync_any (P : PD) (mv : Value) (d : Nat) (f : PF) (v : Value) (fb : Nat) (w : World) (hd : Blk w d (head P mv) 56) (hdead : P.dead = false) (hl : P.left < 9223372036854775808)
    (hb : Blk w fb #[v, .int .i64 f.last] 69) (hr : Row w v f.all) (ok : Bool) (hok : ok = decide (steps P 1 = 1)) :
    Calls Try.prog 35 #[ptr fb, stepV d] w fun e w' => e = .returned (.bool ok) ∧ Blk w' d (head (gone P 1) mv) 56 ∧
      Blk w' fb #[v, .int .i64 (if ok then f.all.length else f.last : Nat)] 69 ∧ Row w' v f.all ∧ Ch (fun k => k = d ∨ k = fb) w w' := by
  have hne := ne_of_blk hd hb (by decide)
  have hrd : ∀ g, v.ownBlock = some g → ¬ (g = d ∨ g = fb) := by
    intro g hg
    obtain ⟨cur, hc⟩ := row_blk hr hg
    rintro (rfl | rfl)
    · exact ne_of_blk hc hd (by decide) rfl
    · exact ne_of_blk hc hb (by decide) rfl
  obtain ⟨a0, cp0, rfl⟩ := own_shape hr
  have HB := hide hb
  have HR := hide hr
  have HN := hide hrd
  have HO := hide hok
  clear hb hr hrd hok
  cases ok with
  | false =>
    go_enter Try.func35, Try.ntmps35
    go_wp2_with fail
    refine (step_any P mv d w hd hdead hl).mono ?_
    rintro e w1 ⟨rfl, hd1, k1⟩
    have hb1 : Blk w1 fb _ 69 := k1.kept HB.out (fun e => hne e.symm)
    have hr1 := HR.out.kept k1 (fun g hg e => HN.out g hg (.inl e))
    rw [← HO.out]
    have HB1 := hide hb1
    have HR1 := hide hr1
    have HD1 := hide hd1
    have K1 := hide k1
    clear hb1 hr1 hd1 k1 hd
    go_wp2_with fail
    go_ret
    exact ⟨rfl, HD1.out, HB1.out, HR1.out, K1.out.weak fun i _ hi => .inl hi⟩
  | true =>
    go_enter Try.func35, Try.ntmps35
    go_wp2_with fail
    refine (step_any P mv d w hd hdead hl).mono ?_
    rintro e w1 ⟨rfl, hd1, k1⟩
    have hb1 : Blk w1 fb _ 69 := k1.kept HB.out (fun e => hne e.symm)
    have hr1 := HR.out.kept k1 (fun g hg e => HN.out g hg (.inl e))
    have c0 := hb1.cell 0
    have c1 := hb1.cell 1
    have f1 := hb1.free 1
    simp at c0 c1
    rw [← HO.out]
    have HB1 := hide hb1
    have HR1 := hide hr1
    have HD1 := hide hd1
    have K1 := hide k1
    clear hb1 hr1 hd1 k1 hd
    go_wp2_with fail
    go_ret
    exact ⟨rfl, HD1.out.other hne _ _, HB1.out.set 1 _, HR1.out.kept (Ch.set fb 1 _) (fun g hg e => HN.out g hg (.inr e)), (K1.out.weak fun i _ hi => .inl hi).trans (Ch.set fb 1 _) (fun i hi => .inl (.inr hi))⟩

set_option maxHeartbeats 1000000 in
theorem fcut_any (P : PD) (mv : Value) (d : Nat) (f : PF) (v : Value) (fb n : Nat) (w : World) (hd : Blk w d (head P mv) 56) (hdead : P.dead = false) (hl : P.left < 9223372036854775808)
    (hb : Blk w fb #[v, .int .i64 f.last] 69) (hr : Row w v f.all) (hn : n ≤ f.all.length) (hfl : f.all.length ≤ 4194304) (ok : Bool) (hok : ok = decide (steps P 1 = 1)) :
    Calls Try.prog 40 #[ptr fb, .int .i64 n, stepV d] w fun e w' => e = .returned (.bool ok) ∧ Blk w' d (head (gone P 1) mv) 56 ∧
      ∃ v', Blk w' fb #[v', .int .i64 (if ok then min f.last n else f.last : Nat)] 69 ∧ Row w' v' (if ok then f.all.take n else f.all) ∧
        (v'.ownBlock = v.ownBlock ∨ v'.ownBlock = none ∨ ∃ g, v'.ownBlock = some g ∧ w.heap.size ≤ g) ∧ Ch (fun k => k = d ∨ k = fb) w w' := by
  have hne := ne_of_blk hd hb (by decide)
  have hrd : ∀ g, v.ownBlock = some g → ¬ (g = d ∨ g = fb) := by
    intro g hg
    obtain ⟨cur, hc⟩ := row_blk hr hg
    rintro (rfl | rfl)
    · exact ne_of_blk hc hd (by decide) rfl
    · exact ne_of_blk hc hb (by decide) rfl
  have HB := hide hb
  have HR := hide hr
  have HN := hide hrd
  have HO := hide hok
  clear hb hr hrd hok
  cases ok with
  | false =>
    go_enter Try.func40, Try.ntmps40
    go_wp2_with fail
    refine (step_any P mv d w hd hdead hl).mono ?_
    rintro e w1 ⟨rfl, hd1, k1⟩
    have hb1 : Blk w1 fb _ 69 := k1.kept HB.out (fun e => hne e.symm)
    have hr1 := HR.out.kept k1 (fun g hg e => HN.out g hg (.inl e))
    rw [← HO.out]
    have HB1 := hide hb1
    have HR1 := hide hr1
    have HD1 := hide hd1
    have K1 := hide k1
    clear hb1 hr1 hd1 k1 hd
    go_wp2_with fail
    go_ret
    exact ⟨rfl, HD1.out, v, HB1.out, HR1.out, .inl rfl, K1.out.weak fun i _ hi => .inl hi⟩
  | true =>
    go_enter Try.func40, Try.ntmps40
    go_wp2_with fail
    refine (step_any P mv d w hd hdead hl).mono ?_
    rintro e w1 ⟨rfl, hd1, k1⟩
    have hb1 : Blk w1 fb _ 69 := k1.kept HB.out (fun e => hne e.symm)
    have hr1 := HR.out.kept k1 (fun g hg e => HN.out g hg (.inl e))
    rw [← HO.out]
    have HB1 := hide hb1
    have HR1 := hide hr1
    have HD1 := hide hd1
    have K1 := hide k1
    clear hb1 hr1 hd1 k1 hd
    go_wp2_with fail
    refine (leave_any f v fb n w1 HB1.out HR1.out hn hfl).mono ?_
    rintro e w2 ⟨rfl, v', hb2, hr2, hv2, k2⟩
    have HB2 := hide hb2
    have HR2 := hide hr2
    have K2 := hide k2
    have HV2 := hide hv2
    clear hb2 hr2 k2 hv2
    go_wp2_with fail
    go_ret
    refine ⟨rfl, K2.out.kept HD1.out hne, v', HB2.out, HR2.out, ?_, ?_⟩
    · rcases HV2.out with h | ⟨g, h, h'⟩
      · exact .inr (.inl h)
      · exact .inr (.inr ⟨g, h, Nat.le_trans K1.out.size h'⟩)
    · exact (K1.out.weak fun i _ hi => .inl hi).trans K2.out (fun i hi => .inl (.inr hi))

set_option maxHeartbeats 1000000 in
theorem fcrash_any (f : PF) (v : Value) (fb k : Nat) (w : World) (hb : Blk w fb #[v, .int .i64 f.last] 69) (hr : Row w v f.all) (hn : f.last ≤ f.all.length) (hfl : f.all.length ≤ 4194304) (hk : k < 9223372036854775808) :
    Calls Try.prog 37 #[ptr fb, .int .i64 k] w fun e w' => e = .returned (.int .i64 (min k (f.all.length - f.last) : Nat)) ∧
      ∃ v', Blk w' fb #[v', .int .i64 (crashF k f).last] 69 ∧ Row w' v' (crashF k f).all ∧ (v'.ownBlock = none ∨ ∃ g, v'.ownBlock = some g ∧ w.heap.size ≤ g) ∧ Ch (fun k => k = fb) w w' := by
  obtain ⟨all, last⟩ := f
  simp only [crashF] at hb hr hn hfl ⊢
  obtain ⟨a, cap, rfl⟩ := own_shape hr
  have c0 := hb.cell 0
  have c1 := hb.cell 1
  simp at c0 c1
  have HB := hide hb
  have HR := hide hr
  clear hb hr
  obtain ⟨m, hm⟩ : ∃ m, m = min k (all.length - last) := ⟨_, rfl⟩
  rw [← hm]
  have hm1 : min (k : Int) ((all.length : Int) - last) = (m : Int) := by omega
  have hml : last + m ≤ all.length := by omega
  have HM := hide hm
  have HM1 := hide hm1
  clear hm hm1
  go_enter Try.func37, Try.ntmps37
  go_wp2_with fail
  go_quiet (fail)
  try rw [HM1.out]
  obtain ⟨W, hW, hbq, hrq, hq⟩ : ∃ W, W = w.drewN nq ∧ Blk W fb #[.slice a all.length cap, .int .i64 last] 69 ∧ Row W (.slice a all.length cap) all ∧ Below w.heap.size w W :=
    ⟨_, rfl, HB.out, HR.out, below_drewN (Below.refl w.heap.size w) nq⟩
  rw [← hW]
  have c2 := hbq.cell 1
  simp at c2
  have HBQ := hide hbq
  have HRQ := hide hrq
  clear hbq hrq hW
  have hwr : IntKind.i64.wrap ((last : Int) + m) = ((last + m : Nat) : Int) := by rw [IntKind.wrap_i64]; omega
  have HQ := hide hq
  clear hq
  go_wp2_with fail
  refine (leave_any ⟨all, last⟩ (.slice a all.length cap) fb (last + m) W HBQ.out HRQ.out hml hfl).mono ?_
  rintro e w2 ⟨rfl, v', hb2, hr2, hv2, k2⟩
  simp only at hb2 hr2
  have hlt : (all.take (last + m)).length = last + m := by simp; omega
  obtain ⟨a', cap', rfl⟩ : ∃ a' cap', v' = .slice a' (last + m) cap' := by
    obtain ⟨a', cap', e⟩ := own_shape hr2
    exact ⟨a', cap', by rw [e, hlt]⟩
  have d0 := hb2.cell 0
  have d1 := hb2.free 1
  have d2 := hb2.cell 1
  simp at d0 d2
  have HB2 := hide hb2
  have HR2 := hide hr2
  have K2 := hide k2
  have HV2 := hide hv2
  clear hb2 hr2 k2 hv2
  go_wp2_with fail
  go_ret
  refine ⟨rfl, .slice a' (last + m) cap', ?_, ?_, ?_, ?_⟩
  · try rw [← HM.out]
    have := HB2.out.set 1 (.int .i64 ((last : Int) + m))
    simpa using this
  · try rw [← HM.out]
    exact HR2.out.kept (Ch.set fb 1 _) (fun g hg e => by
      obtain ⟨cur, hc⟩ := row_blk HR2.out hg
      exact ne_of_blk hc HB2.out (by decide) e)
  · rcases HV2.out with h | ⟨g, h, h'⟩
    · exact .inl h
    · exact .inr ⟨g, h, Nat.le_trans HQ.out.size h'⟩
  · exact ((Ch.of_below (fun k => k = fb) HQ.out).trans K2.out (fun i hi => .inl hi)).trans (Ch.set fb 1 _) (fun i hi => .inl hi)

set_option maxHeartbeats 1000000 in
theorem copied_any (f : PF) (v : Value) (fb : Nat) (w : World) (hb : Blk w fb #[v, .int .i64 f.last] 69) (hr : Row w v f.all) (hfl : f.all.length ≤ 4194304) :
    Calls Try.prog 41 #[ptr fb] w fun e w' => ∃ v', e = .returned (.agg #[v', .int .i64 f.last]) ∧ Row w' v' f.all ∧ (v'.ownBlock = none ∨ ∃ g, v'.ownBlock = some g ∧ w.heap.size ≤ g) ∧ Below w.heap.size w w' := by
  obtain ⟨all, last⟩ := f
  simp only at hb hr hfl ⊢
  obtain ⟨a, cap, rfl⟩ := own_shape hr
  have c0 := hb.cell 0
  have c1 := hb.cell 1
  simp at c0 c1
  have HB := hide hb
  have HR := hide hr
  clear hb hr
  go_enter Try.func41, Try.ntmps41
  go_wp2_with fail
  obtain ⟨W, hW⟩ : ∃ W, W = w.alloc (.cells #[.slice none 0 0, .int .i64 0] 69) := ⟨_, rfl⟩
  have hbel : Below w.heap.size w W := by rw [hW]; exact (Below.refl _ _).alloc (Nat.le_refl _) _
  have hres : Blk W w.heap.size #[.slice none 0 0, .int .i64 0] 69 := by rw [hW]; exact Blk.new _ _ _
  have hlt := HB.out.lt
  rw [← hW]
  have d0 : W.cell? ⟨fb, 0, none⟩ = some (.slice a all.length cap) := by rw [hbel.cell (p := ⟨fb, 0, none⟩) hlt]; exact c0
  have d1 : W.cell? ⟨fb, 1, none⟩ = some (.int .i64 last) := by rw [hbel.cell (p := ⟨fb, 1, none⟩) hlt]; exact c1
  have HVW := hide (HR.out.view.below hbel)
  have HBL := hide hbel
  have HBW : Hid (Blk W fb #[.slice a all.length cap, .int .i64 last] 69) := (Ch.of_below (fun _ => False) hbel).kept HB.out (fun h => h)
  have HRS := hide hres
  have hsz := hbel.size
  clear hW hbel hres c0 c1
  have g0 := HRS.out.free 0
  have g1 := HRS.out.free 1
  go_region_with (go_at_call 57; refine (fresh_any all _ W.drew HVW.out hfl).mono ?_; rintro e w1 ⟨v', rfl, hr1, hv1, b1⟩; obtain ⟨a', cap', rfl⟩ := own_shape hr1; have hb1 : Blk w1 fb #[.slice a all.length cap, .int .i64 last] 69 := (Ch.of_below (fun _ => False) b1).kept (w := W.drew) HBW.out (fun h => h); have hs1 : Blk w1 w.heap.size #[.slice none 0 0, .int .i64 0] 69 := (Ch.of_below (fun _ => False) b1).kept (w := W.drew) HRS.out (fun h => h); have e0 := hb1.cell 0; have e1 := hb1.cell 1; have s0 := hs1.free 0; have s1 := hs1.free 1; have s2 := hs1.cell 0; have s3 := hs1.cell 1; simp at e0 e1 s2 s3; have HB1 := hide hb1; have HS1 := hide hs1; have HR1 := hide hr1; have HV1 := hide hv1; have B1 := hide b1; clear hb1 hs1 hr1 hv1 b1)
  all_goals
    have hset := (HS1.out.set 0 (.slice a' all.length cap')).set 1 (.int .i64 last)
    have k0 := hset.cell 0
    have k1 := hset.cell 1
    simp at k0 k1
    have hrow : Row ((w1.setCell ⟨w.heap.size, 0, none⟩ (.slice a' all.length cap')).setCell ⟨w.heap.size, 1, none⟩ (.int .i64 last)) (.slice a' all.length cap') all :=
      HR1.out.kept ((Ch.set w.heap.size 0 _).trans (Ch.set w.heap.size 1 _) (fun i hi => .inl hi)) (fun g hg e => by
        obtain ⟨cur, hc⟩ := row_blk HR1.out hg
        exact ne_of_blk hc HS1.out (by decide) e)
    have hbe : Below w.heap.size w ((w1.setCell ⟨w.heap.size, 0, none⟩ (.slice a' all.length cap')).setCell ⟨w.heap.size, 1, none⟩ (.int .i64 last)) :=
      ((HBL.out.drew.trans (B1.out.mono HBL.out.size)).setCell (p := ⟨w.heap.size, 0, none⟩) (Nat.le_refl _) _).setCell (p := ⟨w.heap.size, 1, none⟩) (Nat.le_refl _) _
    have HSet := hide hset
    have HRow := hide hrow
    have HBe := hide hbe
    clear hset hrow hbe
    go_wp2_with fail
    refine bodyPost_ret (v := .agg #[.slice a' all.length cap', .int .i64 last]) (by simp [results, Try.results41, go_sem, k0, k1]) rfl ?_
    refine ⟨_, rfl, HRow.out, ?_, HBe.out⟩
    rcases HV1.out with h | h
    · exact .inl h
    · exact .inr ⟨_, h, hsz⟩
end Go.Proofs.Ytmbjlnnoemenoaa
