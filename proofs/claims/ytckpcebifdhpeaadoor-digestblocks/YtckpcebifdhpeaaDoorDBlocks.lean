/-
  THE WALK of DigestBlocks.
-/
import Derived.Test.YtckpcebifdhpeaaDoorDKnown
import Derived.OpenShut
set_option linter.unusedVariables false
set_option linter.unusedSimpArgs false
namespace Go.Proofs.YtckpcebifdhpeaaDoor
open Go.RowKit

set_option maxHeartbeats 1000000 in
theorem digestBlocks_walk (n : Int) (hwf : (Lit.int .u32 n).wf = true) (w : World) (hC : Cubes w) :
    Calls Tryd.prog 8 #[.int .u32 n] w fun e w' => e = .returned (.bool true) ∧ Below w.heap.size w w' := by
  obtain ⟨h0, h1⟩ := bounds_u32 hwf
  have HC := hide hC
  clear hC hwf
  go_enter Tryd.func8, Tryd.ntmps8
  go_wp2_with fail
  refine (tail_any n _ h0 (by omega)).mono ?_
  rintro e w1 ⟨gt, m, hm, rfl, hown3, b1⟩
  have HB1 := hide b1
  have hm2 : m = Dg.noughts n + 9 := hm.out.trans (Dg.tail_length n)
  unfold Dg.noughts at hm2
  clear hown3 b1 hm
  by_cases h55 : 55 < n % 64
  · have hmv : (m : Int) = 128 - n % 64 := by omega
    have hmb : ((m : Int) == 128 - n % 64) = true := by rw [hmv]; simp
    clear hmv
    have HM := hide hm2
    clear hm2
    go_wp2_with fail
    refine (known_any _ (HC.out.below' HB1.out)).mono ?_
    rintro e w2 ⟨rfl, b2⟩
    go_wp2_with fail
    go_ret
    exact ⟨rfl, bthen HB1.out b2⟩
  · have hmv : (m : Int) = 64 - n % 64 := by omega
    have hmb : ((m : Int) == 64 - n % 64) = true := by rw [hmv]; simp
    clear hmv
    have HM := hide hm2
    clear hm2
    go_wp2_with fail
    refine (known_any _ (HC.out.below' HB1.out)).mono ?_
    rintro e w2 ⟨rfl, b2⟩
    go_wp2_with fail
    go_ret
    exact ⟨rfl, bthen HB1.out b2⟩
end Go.Proofs.YtckpcebifdhpeaaDoor
