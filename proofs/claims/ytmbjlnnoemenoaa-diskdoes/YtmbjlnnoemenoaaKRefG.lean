/-
  THE WALK of heliastref09's Copy (layer 9).
-/
import Derived.Test.YtmbjlnnoemenoaaKRefF
set_option linter.unusedVariables false
set_option linter.unusedSimpArgs false
set_option maxRecDepth 100000
namespace Go.Proofs.Ytmbjlnnoemenoaa
open Go.RowKit Go.Maps Go.Sort Dk

theorem frow_news {w : World} {a : Option Addr} {n cap : Nat} {fs : List (Bs × PF)} (h : FRow w (.slice a n cap) fs) : (a = none → fs = []) ∧ ∀ ad, a = some ad → ∀ j u, (fcs fs)[j]? = some u → w.cell? (ad.add j) = some u := by
  rcases id h.2 with ⟨h1, h2⟩ | ⟨g, cap', cur, h1, _⟩
  · have h0 := List.eq_nil_of_length_eq_zero h2
    subst h0
    exact ⟨fun _ => rfl, fun ad _ j u hj => by cases hj⟩
  · simp only [Value.slice.injEq] at h1
    obtain ⟨rfl, rfl, rfl⟩ := h1
    refine ⟨fun h => (by cases h), fun ad hh j u hj => ?_⟩
    cases hh
    exact h.cells (g := g) rfl _ _ hj

set_option maxHeartbeats 2000000 in
theorem rcopy_any (P : PD) (e : Nat) (S : Nat → Prop) (w : World) (h : IsE w e S P) :
    Calls Try.prog 46 #[ptr e] w fun x w' => ∃ e' S', x = .returned (ptr e') ∧ IsE w' e' S' P ∧ (∀ k, S' k → w.heap.size ≤ k) ∧ Below w.heap.size w w' := by
  obtain ⟨v, lv, h⟩ := h
  obtain ⟨a, cap, rfl, hlc, hcm⟩ := h.row.shape
  have c0 := h.blk.cell 0
  have c1 := h.blk.cell 1
  have c2 := h.blk.cell 2
  have c3 := h.blk.cell 3
  have c4 := h.blk.cell 4
  simp [rHead] at c0 c1 c2 c3 c4
  have b1 := below_alloc w (.cells (rHead P (.slice a P.fs.length cap) lv) 75)
  have h1 := h.below b1
  have hb := Blk.new w (rHead P (.slice a P.fs.length cap) lv) 75
  have d1 := h1.blk.cell 1
  simp [rHead] at d1
  obtain ⟨q1, q2⟩ := frow_news h1.row
  obtain ⟨u, w2, hrun, hr, hg, ho⟩ := append_files (c := cap) (fs := []) (show FRow (w.alloc (.cells (rHead P (.slice a P.fs.length cap) lv) 75)) (.slice none 0 0) [] from World.ownsRow_nil _ _ _ _) q1 q2 (by have := h.wf.few; simp; omega)
  obtain ⟨a2, cp2, rfl, _, _⟩ := hr.shape
  rw [List.nil_append] at hr hrun ho
  have hblk2 : Blk w2 w.heap.size (rHead P (.slice a P.fs.length cap) lv) 75 := (Ch.of_grown hg).kept hb (fun e => by cases e)
  have f1 := hblk2.free 1
  have z1 := hblk2.cell 1
  simp [rHead] at z1
  have hb2 : Below w.heap.size w w2 := (Ch.of_grown hg).below b1 (by simp) (fun i hi => by cases hi)
  have hset := hblk2.set 1 (.slice a2 P.fs.length cp2)
  have hc := Ch.set (w := w2) w.heap.size 1 (.slice a2 P.fs.length cp2)
  have hu : ∀ g, (Value.slice a2 P.fs.length cp2).ownBlock = some g → w.heap.size + 1 ≤ g := fun g hg' => by
    rcases ho with ho | ho
    · rw [ho] at hg'; cases hg'
    · rw [ho] at hg'; cases hg'; simp
  have hr3 := hr.kept hc (fun g hg' e => by have := hu g hg'; omega)
  have hb3 : Below w.heap.size w (w2.setCell ⟨w.heap.size, 1, none⟩ (.slice a2 P.fs.length cp2)) := hb2.setCell (p := ⟨w.heap.size, 1, none⟩) (Nat.le_refl _) _
  have hend : IsE (w2.setCell ⟨w.heap.size, 1, none⟩ (.slice a2 P.fs.length cp2)) w.heap.size (fun i => i = w.heap.size ∨ (Value.slice a2 P.fs.length cp2).ownBlock = some i) P :=
    ⟨_, lv, h.wf, by simpa [rHead] using hset, h.left, hr3, .inl rfl, fun g hg => .inr hg, by
      rintro k (rfl | hk)
      · exact Nat.lt_of_lt_of_le hblk2.lt hc.size
      · obtain ⟨cur, hcu⟩ := frow_blk hr hk
        exact Nat.lt_of_lt_of_le hcu.lt hc.size⟩
  have HEND := hide hend
  have HB3 := hide hb3
  have HU := hide hu
  have HRUN := hide hrun
  clear hend hb3 hu hrun hr3 hc hset hb2 hblk2 ho hg hr q1 q2 hb h1 b1 h
  go_enter Try.func46, Try.ntmps46
  go_wp2_with (at_builtin; refine Lib.wpList_append_run _ rfl (.tmp 10) (.tmp 14) 73 73 rfl _ _ (by simp [Act.eval, Act.put]) (by simp [Act.eval, Act.put]) _ _ HRUN.out ?_)
  go_ret
  refine ⟨w.heap.size, _, rfl, HEND.out, fun k hk => ?_, HB3.out⟩
  rcases hk with rfl | hk
  · exact Nat.le_refl _
  · have := HU.out k hk; omega
end Go.Proofs.Ytmbjlnnoemenoaa
