/-
  THE WALK of one round (step).
-/
import Derived.Test.YtfcbooagedjkfaaDoorDWalks
import Derived.Test.YtfcbooagedjkfaaDoorDBase
import Derived.BigRegion
set_option linter.unusedVariables false
set_option linter.unusedSimpArgs false
namespace Go.Proofs.YtfcbooagedjkfaaDoor
open Go.RowKit


theorem Blk.cells8 {w : World} {g t : Nat} {a b c d e f i h : Value} (hb : Blk w g t #[a, b, c, d, e, f, i, h]) :
    w.cell? ⟨g, 0, none⟩ = some a ∧ w.cell? ⟨g, 1, none⟩ = some b ∧ w.cell? ⟨g, 2, none⟩ = some c ∧ w.cell? ⟨g, 3, none⟩ = some d ∧ w.cell? ⟨g, 4, none⟩ = some e ∧ w.cell? ⟨g, 5, none⟩ = some f ∧ w.cell? ⟨g, 6, none⟩ = some i ∧ w.cell? ⟨g, 7, none⟩ = some h :=
  ⟨hb.cell 0, hb.cell 1, hb.cell 2, hb.cell 3, hb.cell 4, hb.cell 5, hb.cell 6, hb.cell 7⟩

theorem Blk.drewN {w : World} {g t : Nat} {cs : Array Value} (h : Blk w g t cs) (n : Nat) : Blk (w.drewN n) g t cs := h
theorem Blk.drew {w : World} {g t : Nat} {cs : Array Value} (h : Blk w g t cs) : Blk w.drew g t cs := h

set_option maxHeartbeats 1000000 in
theorem step_any (g t : Nat) (a b c d e f i z x : Int) (w : World) (hb : Blk w g t #[w32 a, w32 b, w32 c, w32 d, w32 e, w32 f, w32 i, w32 z]) :
    Calls Tryd.prog 65 #[.pointer (some ⟨g, 0, none⟩), .int .u32 x] w fun r w' => (∃ v, r = .returned v) ∧ But g w w' ∧
      Blk w' g t #[w32 (Dg.nA a b c e f i z x), w32 a, w32 b, w32 c, w32 (Dg.nE d e f i z x), w32 e, w32 f, w32 i] := by
  obtain ⟨c0, c1, c2, c3, c4, c5, c6, c7⟩ := hb.cells8
  go_enter Tryd.func65, Tryd.ntmps65
  go_wp2
  go_quiet (fail)
  have b1 := (But.refl g w).drewN nq
  have hb1 := hb.drewN nq
  clear c0 c1 c2 c3 c4 c5 c6 c7
  generalize w.drewN nq = w1 at b1 hb1 ⊢
  obtain ⟨c0, c1, c2, c3, c4, c5, c6, c7⟩ := hb1.cells8
  go_wp2
  go_quiet ((go_at_call 70; exact Calls.quiet_of (great1_any _ _)))
  go_wp2_with (go_at_call 71; refine (great0_any _ _).mono ?_; rintro e w' ⟨rfl, k, rfl⟩)
  have b2 := b1.drewN (nq + k)
  have hb2 := hb1.drewN (nq + k)
  clear c0 c1 c2 c3 c4 c5 c6 c7 b1 hb1 hb
  generalize w1.drewN (nq + k) = w2 at b2 hb2 ⊢
  have hcp : ∀ W, Blk W g t #[w32 a, w32 b, w32 c, w32 d, w32 e, w32 f, w32 i, w32 z] → (Builtin.copy_ #[93, 93] 3 #[.slice (some ⟨g, 1, none⟩) 7 7, .slice (some ⟨g, 0, none⟩) 7 8]).run Tryd.prog W =
      .ok (goInt 7) (W.setRow g #[w32 a, w32 a, w32 b, w32 c, w32 d, w32 e, w32 f, w32 i]) := fun W hW =>
    run_copy_row (P := Tryd.prog) W 93 93 3 72 g 1 7 7 ⟨g, 0, none⟩ 7 8 _ t [w32 a, w32 b, w32 c, w32 d, w32 e, w32 f, w32 i] Tryd.underlying93 (by kernel_rfl) hW rfl
      (fun j v hv => by
        have hadd : (⟨g, 0, none⟩ : Addr).add j = ⟨g, j, none⟩ := by unfold Addr.add; split <;> simp_all
        refine Eq.trans (congrArg _ hadd) ((hW.cell j).trans ?_)
        have hj : j < 7 := by simpa using (List.getElem?_eq_some_iff.1 hv).1
        have : j = 0 ∨ j = 1 ∨ j = 2 ∨ j = 3 ∨ j = 4 ∨ j = 5 ∨ j = 6 := by omega
        rcases this with rfl | rfl | rfl | rfl | rfl | rfl | rfl <;> exact hv)
      (by simp) (by simp [Value.oneCell'])
  have hcp1 := hcp w2.drew hb2.drew
  clear hcp
  go_region
  have b3 := (b2.drew).row #[w32 a, w32 a, w32 b, w32 c, w32 d, w32 e, w32 f, w32 i]
  have hb3 := (hb2.drew).row #[w32 a, w32 a, w32 b, w32 c, w32 d, w32 e, w32 f, w32 i]
  clear hcp1 hb2 b2
  generalize w2.drew.setRow g #[w32 a, w32 a, w32 b, w32 c, w32 d, w32 e, w32 f, w32 i] = w3 at b3 hb3 ⊢
  obtain ⟨c0, c1, c2, c3, c4, c5, c6, c7⟩ := hb3.cells8
  have f0 := hb3.frozen 0
  have f4 := hb3.frozen 4
  go_wp2
  go_region
  go_wp2
  go_end0
  exact ⟨⟨_, rfl⟩, ((b3.set 4 _).set 0 _).drew, ((hb3.set 4 _).set 0 _).drew⟩
end Go.Proofs.YtfcbooagedjkfaaDoor
