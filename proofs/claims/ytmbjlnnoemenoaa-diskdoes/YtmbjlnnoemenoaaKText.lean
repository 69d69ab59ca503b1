/-
  THE WALKS of a Builder's Write, and of disk's text (layer 9).
-/
import Derived.Test.YtmbjlnnoemenoaaKStep
import Derived.BigQuiet
set_option linter.unusedVariables false
set_option linter.unusedSimpArgs false
set_option maxRecDepth 100000
namespace Go.Proofs.Ytmbjlnnoemenoaa
open Go.RowKit Go.Maps Dk

theorem own_shape {w : World} {base : Nat} {e : TypeId} {sz : Nat} {v : Value} {n : Nat} {xs : List Value} (h : w.ownsRow base e sz v n xs) : ∃ a c, v = .slice a n c := by
  rcases h.2 with ⟨rfl, rfl⟩ | ⟨g, cap, cur, rfl, _⟩
  · exact ⟨_, _, rfl⟩
  · exact ⟨_, _, rfl⟩

set_option maxHeartbeats 1000000 in
theorem write_any (l : Bs) (v : Value) (w0 w : World) (b : Nat) (h0 : Below w0.heap.size w0 w) (hv : Vw w0 v l) (hl : l.length ≤ 4194304) (h : Lib.IsBuilder 83 5 w0.heap.size b [] w) :
    Calls Try.prog 55 #[ptr b, v] w fun e w' => e = .returned (.tuple #[.int .i64 l.length, Value.nilIface]) ∧ Lib.IsBuilder 83 5 w0.heap.size b (Lib.byteCells l) w' ∧ Below w0.heap.size w w' := by
  obtain ⟨a, cap, rfl, hlc, hcm, _⟩ := id hv
  have HV := hide hv
  have H0 := hide h0
  clear hv h0
  go_enter Try.func55, Try.ntmps55
  go_wp2_with fail
  refine (Try.Builder_copyCheck w0.heap.size b [] w h).mono ?_
  rintro e w1 ⟨rfl, hba, b1⟩
  obtain ⟨hBb, v0, hblk, hown, hne⟩ := id hba
  obtain ⟨a0, c0, rfl⟩ := own_shape hown
  have hB1 := H0.out.trans b1
  obtain ⟨v', w2, hr, ho, hg, hb⟩ := append_bytes (l := []) hown (HV.out.below hB1) (by simp; omega) hB1.size
  rw [List.nil_append] at ho
  obtain ⟨a', cap', rfl⟩ := own_shape ho
  have hlt := (Array.getElem?_eq_some_iff.1 hblk).1
  have hblk2 : w2.heap[b]? = some (.cells #[ptr b, .slice a0 0 c0] 83 (0, 0)) := by rw [hg.block b hlt (fun e => hne e.symm)]; exact hblk
  have b2 : Below w0.heap.size w1 w2 := (Below.refl _ _).grown hg hB1.size (fun k hk => (hown.lt k hk).1)
  have x0 := Blk.cell hblk 1
  have x1 := Blk.cell hblk2 1
  have x2 := Blk.free hblk2 1
  have HR := hide hr
  have HO := hide ho
  have HB := hide hblk2
  have HB2 := hide (b1.trans b2)
  clear hr ho hg hblk hblk2 hba hown h b1 b2 hB1 hne
  simp at x0 x1
  go_wp2_with (at_builtin; refine Lib.wpList_append_run _ rfl (.tmp 12) (.tmp 13) 37 37 rfl _ _ (by simp [Act.eval, Act.put]) (by simp [Act.eval, Act.put]) _ _ HR.out ?_)
  go_ret2
  refine ⟨rfl, .inr ?_, HB2.out.setCell hBb _⟩
  have e : Lib.byteCells l = u8s l := rfl
  have e2 : l.length = (u8s l).length := by simp
  have HO' := HO.out
  rw [e2] at HO'
  rw [e, e2]
  exact Lib.BuilderAt.put hBb HB.out HO' (by decide)

set_option maxHeartbeats 1000000 in
theorem text_any (l : Bs) (v : Value) (w : World) (hv : Vw w v l) (hl : l.length ≤ 4194304) :
    Calls Try.prog 38 #[v] w fun e w' => e = .returned (.string ⟨l.toArray⟩) ∧ Below w.heap.size w w' := by
  obtain ⟨a, cap, rfl, _⟩ := id hv
  go_enter Try.func38, Try.ntmps38
  go_wp2_with fail
  refine (write_any l _ w _ _ ((Below.refl _ _).alloc (Nat.le_refl _) _) hv hl (Lib.fresh_isBuilder 83 5 w)).mono ?_
  rintro e w1 ⟨rfl, h1, b1⟩
  have hb := ((Below.refl _ _).alloc (Nat.le_refl _) _).trans b1
  have H1 := hide h1
  have HB := hide hb
  clear h1 hb b1 hv
  go_wp2_with fail
  refine (Try.Builder_String_any w.heap.size w.heap.size l w1 H1.out HB.out.size).mono ?_
  rintro e w2 ⟨rfl, b2⟩
  have hB := HB.out.trans b2
  clear b2
  go_wp2_with fail
  go_ret
  exact ⟨rfl, hB⟩
end Go.Proofs.Ytmbjlnnoemenoaa
