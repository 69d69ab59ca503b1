/-
  THE WALKS of a file's own functions (layer 9).
-/
import Derived.Test.YtmbjlnnoemenoaaKText
set_option linter.unusedVariables false
set_option linter.unusedSimpArgs false
set_option maxRecDepth 100000
namespace Go.Proofs.Ytmbjlnnoemenoaa
open Go.RowKit Go.Maps Dk

set_option maxHeartbeats 1000000 in
theorem leave_any (f : PF) (v : Value) (fb n : Nat) (w : World) (hb : Blk w fb #[v, .int .i64 f.last] 69) (hr : Row w v f.all) (hn : n ≤ f.all.length) (hl : f.all.length ≤ 4194304) :
    Calls Try.prog 54 #[ptr fb, .int .i64 n] w fun e w' => e = .returned (.tuple #[]) ∧ ∃ v', Blk w' fb #[v', .int .i64 (min f.last n : Nat)] 69 ∧ Row w' v' (f.all.take n) ∧
      (v'.ownBlock = none ∨ ∃ g, v'.ownBlock = some g ∧ w.heap.size ≤ g) ∧ Ch (fun k => k = fb) w w' := by
  obtain ⟨all, last⟩ := f
  simp only at hb hr hn hl ⊢
  obtain ⟨a, cap, rfl, hcap, hvw⟩ := hr.front hn
  have hc : cap ≤ maxLen := by obtain ⟨_, _, h1, _, h2, _⟩ := hvw; simp only [Value.slice.injEq] at h1; omega
  unfold maxLen at hc
  have c0 := hb.cell 0
  have c1 := hb.cell 1
  have f0 := hb.free 0
  have f1 := hb.free 1
  simp at c0 c1
  have HB := hide hb
  have HV := hide hvw
  have hnl : (n : Int) ≤ cap := by omega
  clear hb hr hvw
  go_enter Try.func54, Try.ntmps54
  go_wp2_with fail
  refine (fresh_any (all.take n) _ w HV.out (by simp; omega)).mono ?_
  rintro e w1 ⟨v', rfl, hrow, hv', b1⟩
  have hb1 : Blk w1 fb #[.slice a all.length cap, .int .i64 last] 69 := (Ch.of_below (fun _ => False) b1).kept HB.out (fun h => h)
  have hfb := HB.out.lt
  obtain ⟨a', cap', rfl⟩ : ∃ a' cap', v' = .slice a' n cap' := by
    obtain ⟨a', cap', e⟩ := own_shape hrow
    exact ⟨a', cap', by rw [e]; congr 1; simp; omega⟩
  have d0 := hb1.cell 0
  have d1 := hb1.cell 1
  have g0 := hb1.free 0
  have g1 := hb1.free 1
  simp at d0 d1
  have HB1 := hide hb1
  have HR := hide hrow
  have HV' := hide hv'
  have H1 := hide b1
  clear hb1 hrow hv' b1 c0 c1 f0 f1
  go_wp2_with fail
  go_end0
  have hne : ∀ g, (Value.slice a' n cap').ownBlock = some g → ¬ g = fb := by
    intro g hg
    obtain ⟨cur, hc⟩ := row_blk HR.out hg
    exact ne_of_blk hc HB1.out (by decide)
  have hch : Ch (fun k => k = fb) w1 ((w1.setCell ⟨fb, 0, none⟩ (.slice a' n cap')).setCell ⟨fb, 1, none⟩ (.int .i64 (min (last : Int) n))) := (Ch.set fb 0 _).trans (Ch.set fb 1 _) (fun i hi => .inl hi)
  refine ⟨rfl, .slice a' n cap', ?_, ?_, ?_, ?_⟩
  · have := (HB1.out.set 0 (.slice a' n cap')).set 1 (.int .i64 (min (last : Int) n))
    simpa [show min (last : Int) n = ((min last n : Nat) : Int) by omega] using this
  · exact HR.out.kept hch hne
  · rcases HV'.out with h | h
    · exact .inl h
    · exact .inr ⟨_, h, Nat.le_refl _⟩
  · exact (Ch.of_below _ H1.out).trans hch (fun i hi => .inl hi)
end Go.Proofs.Ytmbjlnnoemenoaa
