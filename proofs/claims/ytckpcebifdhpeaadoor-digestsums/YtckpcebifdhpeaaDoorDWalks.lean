/-
  THE WALKS over package digest's small functions: what each call gives.
-/
import Derived.Test.YtckpcebifdhpeaaDoorChecked
import Derived.Test.YtckpcebifdhpeaaDoorDMath
import Derived.WalkKit
import Derived.WalkSpells
import Derived.WalkLawsBesides
import Derived.BigCall
import Derived.BigQuiet
set_option linter.unusedVariables false
set_option linter.unusedSimpArgs false
namespace Go.Proofs.YtckpcebifdhpeaaDoor
open Go.RowKit

theorem turn_any (x n : Int) (w : World) (h0 : 0 ≤ n) (h1 : n ≤ 32) :
    Calls Tryd.prog 37 #[.int .u32 x, .int .i64 n] w fun e w' => e = .returned (.int .u32 (Dg.rotr x n)) ∧ ∃ k, w' = w.drewN k := by
  go_enter Tryd.func37, Tryd.ntmps37
  go_wp2
  go_quiet (fail)
  go_wp2
  go_ret
  exact ⟨rfl, _, rfl⟩

theorem small0_any (x : Int) (w : World) :
    Calls Tryd.prog 34 #[.int .u32 x] w fun e w' => e = .returned (.int .u32 (Dg.s0 x)) ∧ ∃ k, w' = w.drewN k := by
  go_enter Tryd.func34, Tryd.ntmps34
  go_wp2_with (go_at_call 37; refine (turn_any _ _ _ (by omega) (by omega)).mono ?_; rintro e w' ⟨rfl, k, rfl⟩)
  go_ret
  exact ⟨rfl, _, rfl⟩

theorem small1_any (x : Int) (w : World) :
    Calls Tryd.prog 33 #[.int .u32 x] w fun e w' => e = .returned (.int .u32 (Dg.s1 x)) ∧ ∃ k, w' = w.drewN k := by
  go_enter Tryd.func33, Tryd.ntmps33
  go_wp2_with (go_at_call 37; refine (turn_any _ _ _ (by omega) (by omega)).mono ?_; rintro e w' ⟨rfl, k, rfl⟩)
  go_ret
  exact ⟨rfl, _, rfl⟩

theorem great0_any (x : Int) (w : World) :
    Calls Tryd.prog 36 #[.int .u32 x] w fun e w' => e = .returned (.int .u32 (Dg.S0 x)) ∧ ∃ k, w' = w.drewN k := by
  go_enter Tryd.func36, Tryd.ntmps36
  go_wp2_with (go_at_call 37; refine (turn_any _ _ _ (by omega) (by omega)).mono ?_; rintro e w' ⟨rfl, k, rfl⟩)
  go_ret
  exact ⟨rfl, _, rfl⟩

theorem great1_any (x : Int) (w : World) :
    Calls Tryd.prog 35 #[.int .u32 x] w fun e w' => e = .returned (.int .u32 (Dg.S1 x)) ∧ ∃ k, w' = w.drewN k := by
  go_enter Tryd.func35, Tryd.ntmps35
  go_wp2_with (go_at_call 37; refine (turn_any _ _ _ (by omega) (by omega)).mono ?_; rintro e w' ⟨rfl, k, rfl⟩)
  go_ret
  exact ⟨rfl, _, rfl⟩

end Go.Proofs.YtckpcebifdhpeaaDoor
