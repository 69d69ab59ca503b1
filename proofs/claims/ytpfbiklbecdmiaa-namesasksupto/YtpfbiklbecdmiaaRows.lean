/-
  NARROWER THAN 'FOR EVERY INPUT', by the rows' own cells (each row's printed sentence says how): NamesAsks: loops.
  DERIVED. THE GIVEN ROWS OF THIS SEAT. 7 by the template 'for every input the law returns true; each argument reads behind the call as it read before'; 0 by the template 'total and deterministic' (their statements: YtpfbiklbecdmiaaTotals.lean).
  GIVEN WITH THE SEED: the statements are not yours to turn. If you find one false, say at which input.
  Laid BY PROGRAM, IN A SANDBOX (cutbox-rows.mjs): the forced cells as the released guide's own fill.sh prints them over the translation 0cf2727bc56ff604… (all of the seat's roots in one cut). By AI agents, Wed Nov 11 2026. No macro, syntax, notation, axiom, sorry.
-/
import Derived.Test.YtpfbiklbecdmiaaChecked
import GoSem.Claim
import GoSem.ClaimJoined
import GoSem.ClaimMapViews
import Derived.JoinedTies
import Derived.KernelRfl
namespace Go.Proofs.Ytpfbiklbecdmiaa
/- THE CELL 'sum', in the pinned program and in every row, IS THE sha256 OF THE DUMP (.gsa) THAT YtpfbiklbecdmiaaProg.lean LOADS. Nothing in Lean hashes anything: it is a label: what it is worth is what the hold of that sum in a sandbox is worth. -/
noncomputable def Try.pinned : Pinned := { name := "ytpfbiklbecdmiaa", sum := "0cf2727bc56ff604779c507761f76a5354bb8f411368e293daf14e681167149e", checked := Try.checked }
namespace Rows
def none {H : Type} : Left H := { results := [], args := [] }

/-- 'heliastlaw06.NamesAsks': WHATEVER THE INPUT: true; the input reads as it did. -/
def namesAsksSpec : ChangeSpec := { name := "namesAsks", fn := fun _ => fun
  | [d1, d2, d3, d4, d5, d6] => { results := [.lit (.bool true)], args := [d1, d2, d3, d4, d5, d6] }
  | _ => none }
def namesAsksRow : OpenClaim := { program := "ytpfbiklbecdmiaa", sum := "0cf2727bc56ff604779c507761f76a5354bb8f411368e293daf14e681167149e", func := "heliast/heliastlaw06.NamesAsks", spec := "namesAsks", inPlace := ["internal/bytealg.IndexByteString", "internal/bytealg.IndexString"], unfollowed := true, recurses := true, named := ["internal/bytealg.MaxLen"], loops := true, apart := false }
def NamesAsksSaid : Prop := namesAsksRow.holds Try.pinned (OpenSpec.ofChange namesAsksSpec)

/-- ITS FALSE NEIGHBOUR: 'it returns false'. Refute it at one input. -/
def namesAsksWrong : ChangeSpec := { name := "namesAsks", fn := fun _ => fun
  | [d1, d2, d3, d4, d5, d6] => { results := [.lit (.bool false)], args := [d1, d2, d3, d4, d5, d6] }
  | _ => none }
def NamesAsksWrongFalsely : Prop := namesAsksRow.holds Try.pinned (OpenSpec.ofChange namesAsksWrong)

/-- 'heliastlaw06.NamesGlob': WHATEVER THE INPUT: true; the input reads as it did. -/
def namesGlobSpec : ChangeSpec := { name := "namesGlob", fn := fun _ => fun
  | [d1, d2, d3, d4] => { results := [.lit (.bool true)], args := [d1, d2, d3, d4] }
  | _ => none }
def namesGlobRow : OpenClaim := { program := "ytpfbiklbecdmiaa", sum := "0cf2727bc56ff604779c507761f76a5354bb8f411368e293daf14e681167149e", func := "heliast/heliastlaw06.NamesGlob", spec := "namesGlob", inPlace := ["internal/bytealg.IndexByteString", "internal/bytealg.IndexString"], unfollowed := true, recurses := true, named := ["internal/bytealg.MaxLen"], apart := false }
def NamesGlobSaid : Prop := namesGlobRow.holds Try.pinned (OpenSpec.ofChange namesGlobSpec)

/-- ITS FALSE NEIGHBOUR: 'it returns false'. Refute it at one input. -/
def namesGlobWrong : ChangeSpec := { name := "namesGlob", fn := fun _ => fun
  | [d1, d2, d3, d4] => { results := [.lit (.bool false)], args := [d1, d2, d3, d4] }
  | _ => none }
def NamesGlobWrongFalsely : Prop := namesGlobRow.holds Try.pinned (OpenSpec.ofChange namesGlobWrong)

/-- 'heliastlaw06.NamesParts': WHATEVER THE INPUT: true; the input reads as it did. -/
def namesPartsSpec : ChangeSpec := { name := "namesParts", fn := fun _ => fun
  | [d1, d2, d3] => { results := [.lit (.bool true)], args := [d1, d2, d3] }
  | _ => none }
def namesPartsRow : OpenClaim := { program := "ytpfbiklbecdmiaa", sum := "0cf2727bc56ff604779c507761f76a5354bb8f411368e293daf14e681167149e", func := "heliast/heliastlaw06.NamesParts", spec := "namesParts", inPlace := ["internal/bytealg.IndexByteString", "internal/bytealg.IndexString"], unfollowed := true, recurses := true, named := ["internal/bytealg.MaxLen"], apart := false }
def NamesPartsSaid : Prop := namesPartsRow.holds Try.pinned (OpenSpec.ofChange namesPartsSpec)

/-- ITS FALSE NEIGHBOUR: 'it returns false'. Refute it at one input. -/
def namesPartsWrong : ChangeSpec := { name := "namesParts", fn := fun _ => fun
  | [d1, d2, d3] => { results := [.lit (.bool false)], args := [d1, d2, d3] }
  | _ => none }
def NamesPartsWrongFalsely : Prop := namesPartsRow.holds Try.pinned (OpenSpec.ofChange namesPartsWrong)

/-- 'heliastlaw06.NamesLet': WHATEVER THE INPUT: true; the input reads as it did. -/
def namesLetSpec : ChangeSpec := { name := "namesLet", fn := fun _ => fun
  | [d1, d2, d3] => { results := [.lit (.bool true)], args := [d1, d2, d3] }
  | _ => none }
def namesLetRow : OpenClaim := { program := "ytpfbiklbecdmiaa", sum := "0cf2727bc56ff604779c507761f76a5354bb8f411368e293daf14e681167149e", func := "heliast/heliastlaw06.NamesLet", spec := "namesLet", inPlace := ["internal/bytealg.IndexByteString", "internal/bytealg.IndexString"], unfollowed := true, recurses := true, named := ["internal/bytealg.MaxLen"], apart := false }
def NamesLetSaid : Prop := namesLetRow.holds Try.pinned (OpenSpec.ofChange namesLetSpec)

/-- ITS FALSE NEIGHBOUR: 'it returns false'. Refute it at one input. -/
def namesLetWrong : ChangeSpec := { name := "namesLet", fn := fun _ => fun
  | [d1, d2, d3] => { results := [.lit (.bool false)], args := [d1, d2, d3] }
  | _ => none }
def NamesLetWrongFalsely : Prop := namesLetRow.holds Try.pinned (OpenSpec.ofChange namesLetWrong)

/-- 'heliastlaw06.NamesMarks': WHATEVER THE INPUT: true; the input reads as it did. -/
def namesMarksSpec : ChangeSpec := { name := "namesMarks", fn := fun _ => fun
  | [d1, d2, d3] => { results := [.lit (.bool true)], args := [d1, d2, d3] }
  | _ => none }
def namesMarksRow : OpenClaim := { program := "ytpfbiklbecdmiaa", sum := "0cf2727bc56ff604779c507761f76a5354bb8f411368e293daf14e681167149e", func := "heliast/heliastlaw06.NamesMarks", spec := "namesMarks", inPlace := ["internal/bytealg.IndexByteString", "internal/bytealg.IndexString"], unfollowed := true, recurses := true, named := ["internal/bytealg.MaxLen"], apart := false }
def NamesMarksSaid : Prop := namesMarksRow.holds Try.pinned (OpenSpec.ofChange namesMarksSpec)

/-- ITS FALSE NEIGHBOUR: 'it returns false'. Refute it at one input. -/
def namesMarksWrong : ChangeSpec := { name := "namesMarks", fn := fun _ => fun
  | [d1, d2, d3] => { results := [.lit (.bool false)], args := [d1, d2, d3] }
  | _ => none }
def NamesMarksWrongFalsely : Prop := namesMarksRow.holds Try.pinned (OpenSpec.ofChange namesMarksWrong)

/-- 'heliastlaw06.NamesParted': WHATEVER THE INPUT: true; the input reads as it did. -/
def namesPartedSpec : ChangeSpec := { name := "namesParted", fn := fun _ => fun
  | [d1, d2, d3] => { results := [.lit (.bool true)], args := [d1, d2, d3] }
  | _ => none }
def namesPartedRow : OpenClaim := { program := "ytpfbiklbecdmiaa", sum := "0cf2727bc56ff604779c507761f76a5354bb8f411368e293daf14e681167149e", func := "heliast/heliastlaw06.NamesParted", spec := "namesParted", inPlace := ["internal/bytealg.IndexByteString", "internal/bytealg.IndexString"], unfollowed := true, recurses := true, named := ["internal/bytealg.MaxLen"], apart := false }
def NamesPartedSaid : Prop := namesPartedRow.holds Try.pinned (OpenSpec.ofChange namesPartedSpec)

/-- ITS FALSE NEIGHBOUR: 'it returns false'. Refute it at one input. -/
def namesPartedWrong : ChangeSpec := { name := "namesParted", fn := fun _ => fun
  | [d1, d2, d3] => { results := [.lit (.bool false)], args := [d1, d2, d3] }
  | _ => none }
def NamesPartedWrongFalsely : Prop := namesPartedRow.holds Try.pinned (OpenSpec.ofChange namesPartedWrong)

/-- 'heliastlaw06.NamesOne': WHATEVER THE INPUT: true; the input reads as it did. -/
def namesOneSpec : ChangeSpec := { name := "namesOne", fn := fun _ => fun
  | [d1, d2] => { results := [.lit (.bool true)], args := [d1, d2] }
  | _ => none }
def namesOneRow : OpenClaim := { program := "ytpfbiklbecdmiaa", sum := "0cf2727bc56ff604779c507761f76a5354bb8f411368e293daf14e681167149e", func := "heliast/heliastlaw06.NamesOne", spec := "namesOne", inPlace := ["internal/bytealg.IndexByteString", "internal/bytealg.IndexString"], unfollowed := true, recurses := true, named := ["internal/bytealg.MaxLen"], apart := false }
def NamesOneSaid : Prop := namesOneRow.holds Try.pinned (OpenSpec.ofChange namesOneSpec)

/-- ITS FALSE NEIGHBOUR: 'it returns false'. Refute it at one input. -/
def namesOneWrong : ChangeSpec := { name := "namesOne", fn := fun _ => fun
  | [d1, d2] => { results := [.lit (.bool false)], args := [d1, d2] }
  | _ => none }
def NamesOneWrongFalsely : Prop := namesOneRow.holds Try.pinned (OpenSpec.ofChange namesOneWrong)

/- THE SECOND FORM. 'bulk': how many values and letters a reading holds, each counted each time it is reached (what is shared counts as often as it is met; a slice's spare places count too). A statement '..UptoSaid' is the law's where the arguments, and the package variables that the reading takes, are together of bulk at most 1048576: NARROWER than '..Said'. Prove '..Said' where nothing that the law and all that it calls make is longer than what came in: it says more and counts as full. Else prove '..UptoSaid'. A law counts once. -/
mutual
def uptoBulk {H : Type} : DataW H → Nat
  | .lit (.string bytes) => bytes.length + 1
  | .lit _ => 1
  | .nil => 1
  | .ptr d => uptoBulk d + 1
  | .slice elems spare => uptoBulkAll elems + uptoBulkAll spare + 1
  | .agg parts => uptoBulkAll parts + 1
  | .iface _ d => uptoBulk d + 1
  | .map entries => uptoBulkEntries entries + 1
  | .held _ => 1
def uptoBulkAll {H : Type} : List (DataW H) → Nat
  | [] => 0
  | d :: r => uptoBulk d + uptoBulkAll r
def uptoBulkEntries {H : Type} : List (Lit × DataW H) → Nat
  | [] => 0
  | x :: r => uptoBulkEntry x + uptoBulkEntries r
def uptoBulkEntry {H : Type} : Lit × DataW H → Nat
  | (.string bytes, d) => bytes.length + uptoBulk d + 1
  | (_, d) => uptoBulk d + 1
 end
def uptoSmall : (H : Type) → List (DataW H) → Bool := fun _ ds => decide (uptoBulkAll ds ≤ 1048576)
def OpenSpec.upto (s : _root_.Go.ChangeSpec) : _root_.Go.OpenSpec := { _root_.Go.OpenSpec.ofChange s with cond := some uptoSmall }

/-- 'heliastlaw06.NamesAsks', WHERE WHAT IT READS IS OF BULK AT MOST 1048576: true; the input reads as it did. -/
def namesAsksUptoRow : OpenClaim := { program := "ytpfbiklbecdmiaa", sum := "0cf2727bc56ff604779c507761f76a5354bb8f411368e293daf14e681167149e", func := "heliast/heliastlaw06.NamesAsks", spec := "namesAsks", inPlace := ["internal/bytealg.IndexByteString", "internal/bytealg.IndexString"], unfollowed := true, recurses := true, named := ["internal/bytealg.MaxLen"], loops := true, apart := false, narrowed := true }
def NamesAsksUptoSaid : Prop := namesAsksUptoRow.holds Try.pinned (OpenSpec.upto namesAsksSpec)

/-- 'heliastlaw06.NamesGlob', WHERE WHAT IT READS IS OF BULK AT MOST 1048576: true; the input reads as it did. -/
def namesGlobUptoRow : OpenClaim := { program := "ytpfbiklbecdmiaa", sum := "0cf2727bc56ff604779c507761f76a5354bb8f411368e293daf14e681167149e", func := "heliast/heliastlaw06.NamesGlob", spec := "namesGlob", inPlace := ["internal/bytealg.IndexByteString", "internal/bytealg.IndexString"], unfollowed := true, recurses := true, named := ["internal/bytealg.MaxLen"], apart := false, narrowed := true }
def NamesGlobUptoSaid : Prop := namesGlobUptoRow.holds Try.pinned (OpenSpec.upto namesGlobSpec)

/-- 'heliastlaw06.NamesParts', WHERE WHAT IT READS IS OF BULK AT MOST 1048576: true; the input reads as it did. -/
def namesPartsUptoRow : OpenClaim := { program := "ytpfbiklbecdmiaa", sum := "0cf2727bc56ff604779c507761f76a5354bb8f411368e293daf14e681167149e", func := "heliast/heliastlaw06.NamesParts", spec := "namesParts", inPlace := ["internal/bytealg.IndexByteString", "internal/bytealg.IndexString"], unfollowed := true, recurses := true, named := ["internal/bytealg.MaxLen"], apart := false, narrowed := true }
def NamesPartsUptoSaid : Prop := namesPartsUptoRow.holds Try.pinned (OpenSpec.upto namesPartsSpec)

/-- 'heliastlaw06.NamesLet', WHERE WHAT IT READS IS OF BULK AT MOST 1048576: true; the input reads as it did. -/
def namesLetUptoRow : OpenClaim := { program := "ytpfbiklbecdmiaa", sum := "0cf2727bc56ff604779c507761f76a5354bb8f411368e293daf14e681167149e", func := "heliast/heliastlaw06.NamesLet", spec := "namesLet", inPlace := ["internal/bytealg.IndexByteString", "internal/bytealg.IndexString"], unfollowed := true, recurses := true, named := ["internal/bytealg.MaxLen"], apart := false, narrowed := true }
def NamesLetUptoSaid : Prop := namesLetUptoRow.holds Try.pinned (OpenSpec.upto namesLetSpec)

/-- 'heliastlaw06.NamesMarks', WHERE WHAT IT READS IS OF BULK AT MOST 1048576: true; the input reads as it did. -/
def namesMarksUptoRow : OpenClaim := { program := "ytpfbiklbecdmiaa", sum := "0cf2727bc56ff604779c507761f76a5354bb8f411368e293daf14e681167149e", func := "heliast/heliastlaw06.NamesMarks", spec := "namesMarks", inPlace := ["internal/bytealg.IndexByteString", "internal/bytealg.IndexString"], unfollowed := true, recurses := true, named := ["internal/bytealg.MaxLen"], apart := false, narrowed := true }
def NamesMarksUptoSaid : Prop := namesMarksUptoRow.holds Try.pinned (OpenSpec.upto namesMarksSpec)

/-- 'heliastlaw06.NamesParted', WHERE WHAT IT READS IS OF BULK AT MOST 1048576: true; the input reads as it did. -/
def namesPartedUptoRow : OpenClaim := { program := "ytpfbiklbecdmiaa", sum := "0cf2727bc56ff604779c507761f76a5354bb8f411368e293daf14e681167149e", func := "heliast/heliastlaw06.NamesParted", spec := "namesParted", inPlace := ["internal/bytealg.IndexByteString", "internal/bytealg.IndexString"], unfollowed := true, recurses := true, named := ["internal/bytealg.MaxLen"], apart := false, narrowed := true }
def NamesPartedUptoSaid : Prop := namesPartedUptoRow.holds Try.pinned (OpenSpec.upto namesPartedSpec)

/-- 'heliastlaw06.NamesOne', WHERE WHAT IT READS IS OF BULK AT MOST 1048576: true; the input reads as it did. -/
def namesOneUptoRow : OpenClaim := { program := "ytpfbiklbecdmiaa", sum := "0cf2727bc56ff604779c507761f76a5354bb8f411368e293daf14e681167149e", func := "heliast/heliastlaw06.NamesOne", spec := "namesOne", inPlace := ["internal/bytealg.IndexByteString", "internal/bytealg.IndexString"], unfollowed := true, recurses := true, named := ["internal/bytealg.MaxLen"], apart := false, narrowed := true }
def NamesOneUptoSaid : Prop := namesOneUptoRow.holds Try.pinned (OpenSpec.upto namesOneSpec)

end Rows
end Go.Proofs.Ytpfbiklbecdmiaa
