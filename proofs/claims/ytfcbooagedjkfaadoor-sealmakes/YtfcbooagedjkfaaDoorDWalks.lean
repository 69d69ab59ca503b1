/-
  THE WALKS over package digest's small functions: what each call gives.
-/
import Derived.Test.YtfcbooagedjkfaaDoorChecked
import Derived.Test.YtfcbooagedjkfaaDoorDMath
import Derived.WalkKit
import Derived.WalkSpells
import Derived.WalkLawsBesides
import Derived.BigCall
import Derived.BigQuiet
set_option linter.unusedVariables false
set_option linter.unusedSimpArgs false
namespace Go.Proofs.YtfcbooagedjkfaaDoor
open Go.RowKit

theorem turn_any (x n : Int) (w : World) (h0 : 0 ≤ n) (h1 : n ≤ 32) :
    Calls Tryd.prog 73 #[.int .u32 x, .int .i64 n] w fun e w' => e = .returned (.int .u32 (Dg.rotr x n)) ∧ ∃ k, w' = w.drewN k := by
  go_enter Tryd.func73, Tryd.ntmps73
  go_wp2
  go_quiet (fail)
  go_wp2
  go_ret
  exact ⟨rfl, _, rfl⟩

theorem small0_any (x : Int) (w : World) :
    Calls Tryd.prog 69 #[.int .u32 x] w fun e w' => e = .returned (.int .u32 (Dg.s0 x)) ∧ ∃ k, w' = w.drewN k := by
  go_enter Tryd.func69, Tryd.ntmps69
  go_wp2_with (go_at_call 73; refine (turn_any _ _ _ (by omega) (by omega)).mono ?_; rintro e w' ⟨rfl, k, rfl⟩)
  go_ret
  exact ⟨rfl, _, rfl⟩

theorem small1_any (x : Int) (w : World) :
    Calls Tryd.prog 68 #[.int .u32 x] w fun e w' => e = .returned (.int .u32 (Dg.s1 x)) ∧ ∃ k, w' = w.drewN k := by
  go_enter Tryd.func68, Tryd.ntmps68
  go_wp2_with (go_at_call 73; refine (turn_any _ _ _ (by omega) (by omega)).mono ?_; rintro e w' ⟨rfl, k, rfl⟩)
  go_ret
  exact ⟨rfl, _, rfl⟩

theorem great0_any (x : Int) (w : World) :
    Calls Tryd.prog 71 #[.int .u32 x] w fun e w' => e = .returned (.int .u32 (Dg.S0 x)) ∧ ∃ k, w' = w.drewN k := by
  go_enter Tryd.func71, Tryd.ntmps71
  go_wp2_with (go_at_call 73; refine (turn_any _ _ _ (by omega) (by omega)).mono ?_; rintro e w' ⟨rfl, k, rfl⟩)
  go_ret
  exact ⟨rfl, _, rfl⟩

theorem great1_any (x : Int) (w : World) :
    Calls Tryd.prog 70 #[.int .u32 x] w fun e w' => e = .returned (.int .u32 (Dg.S1 x)) ∧ ∃ k, w' = w.drewN k := by
  go_enter Tryd.func70, Tryd.ntmps70
  go_wp2_with (go_at_call 73; refine (turn_any _ _ _ (by omega) (by omega)).mono ?_; rintro e w' ⟨rfl, k, rfl⟩)
  go_ret
  exact ⟨rfl, _, rfl⟩

end Go.Proofs.YtfcbooagedjkfaaDoor
