/-
  The front of a slice of bytes.
-/
import Derived.Test.YtfcbooagedjkfaaDoorDLaw
set_option linter.unusedVariables false
set_option linter.unusedSimpArgs false
namespace Go.Proofs.YtfcbooagedjkfaaDoor
open Go.RowKit

theorem run_slice_front (w : World) (a : Option Addr) (len cap m : Nat) (hm : m ≤ len) (hl : len ≤ cap) : (Instr.sliceAt 22 (.slice a len cap) none (some (.int .i64 m)) none).run Tryd.prog w = .ok (.slice (cutA a 0 cap) m cap) w := by
  have hu : (Tryd.prog.underlying 22) = some (.slice 5) := Tryd.underlying22
  have hs : (sizeOf 5).run Tryd.prog w = .ok 1 w := by
    cases hq : Tryd.prog.info? 5 with
    | none => have := infoByte; simp [hq] at this
    | some j =>
      have hj : j.size = 1 := by have := infoByte; simp [hq] at this; exact this.2.1
      simp [sizeOf, typeInfo, hq, hj]
  have h1 : (m : Int) ≤ cap := by omega
  simp [Instr.sliceAt, Instr.slice, run_underlying hu, Instr.sliceBounds, run_sliceBound, hs, h1, cutA]
theorem IsB.cut0 {w : World} {a : Option Addr} {len cap : Nat} {bs : List Int} (h : IsB w a len cap bs) : IsB w (cutA a 0 cap) len cap bs := by
  have := h.cut (m := 0) (Nat.zero_le _)
  simpa using this
end Go.Proofs.YtfcbooagedjkfaaDoor
