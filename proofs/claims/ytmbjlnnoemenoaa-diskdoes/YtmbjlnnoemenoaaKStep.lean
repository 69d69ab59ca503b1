/-
  THE WALKS of disk's step, told, Dead, fresh, text (layer 9).
-/
import Derived.Test.YtmbjlnnoemenoaaKMemB
import Derived.Test.YtmbjlnnoemenoaaShelf
import Derived.WalkSpells
import Derived.WalkLawsBesides
import Derived.BigCall
import Derived.BigRegion
set_option linter.unusedVariables false
set_option linter.unusedSimpArgs false
set_option maxRecDepth 100000
namespace Go.Proofs.Ytmbjlnnoemenoaa
open Go.RowKit Go.Maps Dk

set_option maxHeartbeats 1000000 in
theorem step_any (P : PD) (mv : Value) (d : Nat) (w : World) (h : Blk w d (head P mv) 56) (hd : P.dead = false) (hl : P.left < 9223372036854775808) :
    Calls Try.prog 33 #[ptr d] w fun e w' => e = .returned (.bool (decide (steps P 1 = 1))) ∧ Blk w' d (head (gone P 1) mv) 56 ∧ Ch (fun k => k = d) w w' := by
  obtain ⟨room, fs, fused, left, dead⟩ := P
  simp only at hd hl
  subst hd
  have c0 := h.cell 2
  have c1 := h.cell 3
  have c2 := h.cell 4
  have f0 := h.free 3
  have f1 := h.free 4
  simp [head] at c0 c1 c2
  have H := hide h
  clear h
  cases fused with
  | false =>
    go_enter Try.func33, Try.ntmps33
    go_wp2_with fail
    go_ret
    exact ⟨by simp [steps], by simpa [gone, steps, head] using H.out, Ch.refl _ _⟩
  | true =>
    by_cases hz : left = 0
    · subst hz
      go_enter Try.func33, Try.ntmps33
      go_wp2_with fail
      go_ret
      exact ⟨by simp [steps], by simpa [gone, steps, head] using H.out.set 4 (.bool true), Ch.set _ _ _⟩
    · have hp : 0 < left := by omega
      go_enter Try.func33, Try.ntmps33
      go_wp2_with fail
      go_ret
      refine ⟨by simp [steps]; omega, ?_, Ch.set _ _ _⟩
      have e : ¬ min left 1 < 1 := by omega
      have e2 : ((left : Int) - 1) = ((left - 1 : Nat) : Int) := by omega
      simpa [gone, steps, head, e, e2] using H.out.set 3 (.int .i64 ((left : Int) - 1))

theorem told_any (b : Bool) (w : World) : Calls Try.prog 30 #[.bool b] w fun e w' => e = .returned (.int .u16 (if b then 0 else 21)) ∧ w' = w := by
  cases b <;>
  · go_enter Try.func30, Try.ntmps30
    go_wp2_with fail
    go_ret
    exact ⟨rfl, rfl⟩

theorem dead_any (P : PD) (mv : Value) (d : Nat) (w : World) (h : Blk w d (head P mv) 56) :
    Calls Try.prog 22 #[ptr d] w fun e w' => e = .returned (.bool P.dead) ∧ w' = w := by
  have c0 := h.cell 4
  simp [head] at c0
  go_enter Try.func22, Try.ntmps22
  go_wp2_with fail
  go_ret
  exact ⟨rfl, rfl⟩
theorem dead_nil (w : World) :
    Calls Try.prog 22 #[.pointer none] w fun e w' => e = .returned (.bool true) ∧ w' = w := by
  go_enter Try.func22, Try.ntmps22
  go_wp2_with fail
  go_ret
  exact ⟨rfl, rfl⟩

theorem fresh_any (l : Bs) (v : Value) (w : World) (h : Vw w v l) (hl : l.length ≤ 4194304) :
    Calls Try.prog 57 #[v] w fun e w' => ∃ v', e = .returned v' ∧ Row w' v' l ∧ (v'.ownBlock = none ∨ v'.ownBlock = some w.heap.size) ∧ Below w.heap.size w w' := by
  obtain ⟨v', w', hr, ho, hg, hb⟩ := append_bytes (base := 0) (v := .slice none 0 0) (l := []) (World.ownsRow_nil _ _ _ _) h (by simp; omega) (Nat.zero_le _)
  have hbl : Below w.heap.size w w' := (Below.refl _ _).grown hg (Nat.le_refl _) (fun k hk => by cases hk)
  obtain ⟨a, cap, rfl, _⟩ := id h
  rw [List.nil_append] at ho
  obtain ⟨a', cap', rfl⟩ : ∃ a' cap', v' = .slice a' l.length cap' := by
    rcases Row.shape ho with ⟨rfl, rfl⟩ | ⟨g, cap, cur, rfl, _⟩
    · exact ⟨_, _, rfl⟩
    · exact ⟨_, _, rfl⟩
  clear h
  go_enter Try.func57, Try.ntmps57
  go_wp2_with (at_builtin; refine Lib.wpList_append_run _ rfl (.const (.slice none 0 0)) (.tmp 3) 37 37 rfl _ _ (by simp [Act.eval, Act.put]) (by simp [Act.eval, Act.put]) _ _ hr ?_)
  go_ret
  exact ⟨_, rfl, ho, hb, hbl⟩
end Go.Proofs.Ytmbjlnnoemenoaa
