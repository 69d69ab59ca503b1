/-
  A field of a value, by value.
-/
import Derived.Test.YtpfbiklbecdmiaaVWalks
set_option linter.unusedVariables false
set_option linter.unusedSimpArgs false
namespace Go.Proofs.Ytpfbiklbecdmiaa
open Go.RowKit

@[go_sem] theorem field0 (W : World) (k : Int) (c1 c2 c3 c4 : Value) : (Instr.field 25 (.agg #[.int .i64 k, c1, c2, c3, c4]) 0).run Try.prog W = .ok (.int .i64 k) W := by
  simp [Instr.field, run_underlying Try.underlying25, part, asAgg, go_sem]
@[go_sem] theorem field1 (W : World) (k : Int) (c0 c2 c3 c4 : Value) : (Instr.field 25 (.agg #[c0, .int .i64 k, c2, c3, c4]) 1).run Try.prog W = .ok (.int .i64 k) W := by
  simp [Instr.field, run_underlying Try.underlying25, part, asAgg, go_sem]
@[go_sem] theorem field2 (W : World) (s : ByteArray) (c0 c1 c3 c4 : Value) : (Instr.field 25 (.agg #[c0, c1, .string s, c3, c4]) 2).run Try.prog W = .ok (.string s) W := by
  simp [Instr.field, run_underlying Try.underlying25, part, asAgg, go_sem]
@[go_sem] theorem field3 (W : World) (a : Option Addr) (n c : Nat) (c0 c1 c2 c4 : Value) : (Instr.field 25 (.agg #[c0, c1, c2, .slice a n c, c4]) 3).run Try.prog W = .ok (.slice a n c) W := by
  simp [Instr.field, run_underlying Try.underlying25, part, asAgg, go_sem]
@[go_sem] theorem field4 (W : World) (a : Option Addr) (n c : Nat) (c0 c1 c2 c3 : Value) : (Instr.field 25 (.agg #[c0, c1, c2, c3, .slice a n c]) 4).run Try.prog W = .ok (.slice a n c) W := by
  simp [Instr.field, run_underlying Try.underlying25, part, asAgg, go_sem]

end Go.Proofs.Ytpfbiklbecdmiaa
