/-
  No cell of these rows narrows 'for every input' (looked for: loops, veiled, ifaces, maps, wideKeys, modest, calm, conditions, laid).
  DERIVED. THE GIVEN ROWS OF THIS SEAT. 8 by the template 'for every input the law returns true; each argument reads behind the call as it read before'; 0 by the template 'total and deterministic' (their statements: YtlkfdmcgcenliaaTotals.lean).
  GIVEN WITH THE SEED: the statements are not yours to turn. If you find one false, say at which input.
  Laid BY PROGRAM, IN A SANDBOX (cutbox-rows.mjs): the forced cells as the released guide's own fill.sh prints them over the translation 5ed2949e77270488… (all of the seat's roots in one cut). By AI agents, Wed Nov 11 2026. No macro, syntax, notation, axiom, sorry.
-/
import Derived.Test.YtlkfdmcgcenliaaChecked
import GoSem.Claim
import GoSem.ClaimJoined
import GoSem.ClaimMapViews
import Derived.JoinedTies
import Derived.KernelRfl
namespace Go.Proofs.Ytlkfdmcgcenliaa
/- THE CELL 'sum', in the pinned program and in every row, IS THE sha256 OF THE DUMP (.gsa) THAT YtlkfdmcgcenliaaProg.lean LOADS. Nothing in Lean hashes anything: it is a label: what it is worth is what the hold of that sum in a sandbox is worth. -/
noncomputable def Try.pinned : Pinned := { name := "ytlkfdmcgcenliaa", sum := "5ed2949e77270488084807a5de0d55373eb3ade2198f6242d79c18c48313175b", checked := Try.checked }
namespace Rows
def none {H : Type} : Left H := { results := [], args := [] }

/-- 'heliastlaw01.GlyphAsks': WHATEVER THE INPUT: true; the input reads as it did. -/
def glyphAsksSpec : ChangeSpec := { name := "glyphAsks", fn := fun _ => fun
  | [d1, d2, d3, d4] => { results := [.lit (.bool true)], args := [d1, d2, d3, d4] }
  | _ => none }
def glyphAsksRow : OpenClaim := { program := "ytlkfdmcgcenliaa", sum := "5ed2949e77270488084807a5de0d55373eb3ade2198f6242d79c18c48313175b", func := "heliast/heliastlaw01.GlyphAsks", spec := "glyphAsks", inPlace := ["internal/abi.NoEscape"], apart := false }
def GlyphAsksSaid : Prop := glyphAsksRow.holds Try.pinned (OpenSpec.ofChange glyphAsksSpec)

/-- ITS FALSE NEIGHBOUR: 'it returns false'. Refute it at one input. -/
def glyphAsksWrong : ChangeSpec := { name := "glyphAsks", fn := fun _ => fun
  | [d1, d2, d3, d4] => { results := [.lit (.bool false)], args := [d1, d2, d3, d4] }
  | _ => none }
def GlyphAsksWrongFalsely : Prop := glyphAsksRow.holds Try.pinned (OpenSpec.ofChange glyphAsksWrong)

/-- 'heliastlaw01.GlyphBack': WHATEVER THE INPUT: true; the input reads as it did. -/
def glyphBackSpec : ChangeSpec := { name := "glyphBack", fn := fun _ => fun
  | [d1, d2] => { results := [.lit (.bool true)], args := [d1, d2] }
  | _ => none }
def glyphBackRow : OpenClaim := { program := "ytlkfdmcgcenliaa", sum := "5ed2949e77270488084807a5de0d55373eb3ade2198f6242d79c18c48313175b", func := "heliast/heliastlaw01.GlyphBack", spec := "glyphBack", inPlace := ["internal/abi.NoEscape"], apart := false }
def GlyphBackSaid : Prop := glyphBackRow.holds Try.pinned (OpenSpec.ofChange glyphBackSpec)

/-- ITS FALSE NEIGHBOUR: 'it returns false'. Refute it at one input. -/
def glyphBackWrong : ChangeSpec := { name := "glyphBack", fn := fun _ => fun
  | [d1, d2] => { results := [.lit (.bool false)], args := [d1, d2] }
  | _ => none }
def GlyphBackWrongFalsely : Prop := glyphBackRow.holds Try.pinned (OpenSpec.ofChange glyphBackWrong)

/-- 'heliastlaw01.GlyphTold': WHATEVER THE INPUT: true; the input reads as it did. -/
def glyphToldSpec : ChangeSpec := { name := "glyphTold", fn := fun _ => fun
  | [d] => { results := [.lit (.bool true)], args := [d] }
  | _ => none }
def glyphToldRow : OpenClaim := { program := "ytlkfdmcgcenliaa", sum := "5ed2949e77270488084807a5de0d55373eb3ade2198f6242d79c18c48313175b", func := "heliast/heliastlaw01.GlyphTold", spec := "glyphTold", inPlace := ["internal/abi.NoEscape"], apart := false }
def GlyphToldSaid : Prop := glyphToldRow.holds Try.pinned (OpenSpec.ofChange glyphToldSpec)

/-- ITS FALSE NEIGHBOUR: 'it returns false'. Refute it at one input. -/
def glyphToldWrong : ChangeSpec := { name := "glyphTold", fn := fun _ => fun
  | [d] => { results := [.lit (.bool false)], args := [d] }
  | _ => none }
def GlyphToldWrongFalsely : Prop := glyphToldRow.holds Try.pinned (OpenSpec.ofChange glyphToldWrong)

/-- 'heliastlaw01.GlyphPairs': WHATEVER THE INPUT: true; the input reads as it did. -/
def glyphPairsSpec : ChangeSpec := { name := "glyphPairs", fn := fun _ => fun
  | [d1, d2] => { results := [.lit (.bool true)], args := [d1, d2] }
  | _ => none }
def glyphPairsRow : OpenClaim := { program := "ytlkfdmcgcenliaa", sum := "5ed2949e77270488084807a5de0d55373eb3ade2198f6242d79c18c48313175b", func := "heliast/heliastlaw01.GlyphPairs", spec := "glyphPairs", inPlace := ["internal/abi.NoEscape"], apart := false }
def GlyphPairsSaid : Prop := glyphPairsRow.holds Try.pinned (OpenSpec.ofChange glyphPairsSpec)

/-- ITS FALSE NEIGHBOUR: 'it returns false'. Refute it at one input. -/
def glyphPairsWrong : ChangeSpec := { name := "glyphPairs", fn := fun _ => fun
  | [d1, d2] => { results := [.lit (.bool false)], args := [d1, d2] }
  | _ => none }
def GlyphPairsWrongFalsely : Prop := glyphPairsRow.holds Try.pinned (OpenSpec.ofChange glyphPairsWrong)

/-- 'heliastlaw01.GlyphLess': WHATEVER THE INPUT: true; the input reads as it did. -/
def glyphLessSpec : ChangeSpec := { name := "glyphLess", fn := fun _ => fun
  | [d1, d2, d3] => { results := [.lit (.bool true)], args := [d1, d2, d3] }
  | _ => none }
def glyphLessRow : OpenClaim := { program := "ytlkfdmcgcenliaa", sum := "5ed2949e77270488084807a5de0d55373eb3ade2198f6242d79c18c48313175b", func := "heliast/heliastlaw01.GlyphLess", spec := "glyphLess", inPlace := ["internal/abi.NoEscape"], apart := false }
def GlyphLessSaid : Prop := glyphLessRow.holds Try.pinned (OpenSpec.ofChange glyphLessSpec)

/-- ITS FALSE NEIGHBOUR: 'it returns false'. Refute it at one input. -/
def glyphLessWrong : ChangeSpec := { name := "glyphLess", fn := fun _ => fun
  | [d1, d2, d3] => { results := [.lit (.bool false)], args := [d1, d2, d3] }
  | _ => none }
def GlyphLessWrongFalsely : Prop := glyphLessRow.holds Try.pinned (OpenSpec.ofChange glyphLessWrong)

/-- 'heliastlaw01.GlyphPlain': WHATEVER THE INPUT: true; the input reads as it did. -/
def glyphPlainSpec : ChangeSpec := { name := "glyphPlain", fn := fun _ => fun
  | [d] => { results := [.lit (.bool true)], args := [d] }
  | _ => none }
def glyphPlainRow : OpenClaim := { program := "ytlkfdmcgcenliaa", sum := "5ed2949e77270488084807a5de0d55373eb3ade2198f6242d79c18c48313175b", func := "heliast/heliastlaw01.GlyphPlain", spec := "glyphPlain", inPlace := ["internal/abi.NoEscape"], apart := false }
def GlyphPlainSaid : Prop := glyphPlainRow.holds Try.pinned (OpenSpec.ofChange glyphPlainSpec)

/-- ITS FALSE NEIGHBOUR: 'it returns false'. Refute it at one input. -/
def glyphPlainWrong : ChangeSpec := { name := "glyphPlain", fn := fun _ => fun
  | [d] => { results := [.lit (.bool false)], args := [d] }
  | _ => none }
def GlyphPlainWrongFalsely : Prop := glyphPlainRow.holds Try.pinned (OpenSpec.ofChange glyphPlainWrong)

/-- 'heliastlaw01.GlyphJoin': WHATEVER THE INPUT: true; the input reads as it did. -/
def glyphJoinSpec : ChangeSpec := { name := "glyphJoin", fn := fun _ => fun
  | [d1, d2] => { results := [.lit (.bool true)], args := [d1, d2] }
  | _ => none }
def glyphJoinRow : OpenClaim := { program := "ytlkfdmcgcenliaa", sum := "5ed2949e77270488084807a5de0d55373eb3ade2198f6242d79c18c48313175b", func := "heliast/heliastlaw01.GlyphJoin", spec := "glyphJoin", inPlace := ["internal/abi.NoEscape"], apart := false }
def GlyphJoinSaid : Prop := glyphJoinRow.holds Try.pinned (OpenSpec.ofChange glyphJoinSpec)

/-- ITS FALSE NEIGHBOUR: 'it returns false'. Refute it at one input. -/
def glyphJoinWrong : ChangeSpec := { name := "glyphJoin", fn := fun _ => fun
  | [d1, d2] => { results := [.lit (.bool false)], args := [d1, d2] }
  | _ => none }
def GlyphJoinWrongFalsely : Prop := glyphJoinRow.holds Try.pinned (OpenSpec.ofChange glyphJoinWrong)

/-- 'heliastlaw01.GlyphShort': WHATEVER THE INPUT: true; the input reads as it did. -/
def glyphShortSpec : ChangeSpec := { name := "glyphShort", fn := fun _ => fun
  | [d] => { results := [.lit (.bool true)], args := [d] }
  | _ => none }
def glyphShortRow : OpenClaim := { program := "ytlkfdmcgcenliaa", sum := "5ed2949e77270488084807a5de0d55373eb3ade2198f6242d79c18c48313175b", func := "heliast/heliastlaw01.GlyphShort", spec := "glyphShort", inPlace := ["internal/abi.NoEscape"], apart := false }
def GlyphShortSaid : Prop := glyphShortRow.holds Try.pinned (OpenSpec.ofChange glyphShortSpec)

/-- ITS FALSE NEIGHBOUR: 'it returns false'. Refute it at one input. -/
def glyphShortWrong : ChangeSpec := { name := "glyphShort", fn := fun _ => fun
  | [d] => { results := [.lit (.bool false)], args := [d] }
  | _ => none }
def GlyphShortWrongFalsely : Prop := glyphShortRow.holds Try.pinned (OpenSpec.ofChange glyphShortWrong)

/- THE SECOND FORM. 'bulk': how many values and letters a reading holds, each counted each time it is reached (what is shared counts as often as it is met; a slice's spare places count too). A statement '..UptoSaid' is the law's where the arguments, and the package variables that the reading takes, are together of bulk at most 1048576: NARROWER than '..Said'. Prove '..Said' where nothing that the law and all that it calls make is longer than what came in: it says more and counts as full. Else prove '..UptoSaid'. A law counts once. -/
mutual
def uptoBulk {H : Type} : DataW H → Nat
  | .lit (.string bytes) => bytes.length + 1
  | .lit _ => 1
  | .nil => 1
  | .ptr d => uptoBulk d + 1
  | .slice elems spare => uptoBulkAll elems + uptoBulkAll spare + 1
  | .agg parts => uptoBulkAll parts + 1
  | .iface _ d => uptoBulk d + 1
  | .map entries => uptoBulkEntries entries + 1
  | .held _ => 1
def uptoBulkAll {H : Type} : List (DataW H) → Nat
  | [] => 0
  | d :: r => uptoBulk d + uptoBulkAll r
def uptoBulkEntries {H : Type} : List (Lit × DataW H) → Nat
  | [] => 0
  | x :: r => uptoBulkEntry x + uptoBulkEntries r
def uptoBulkEntry {H : Type} : Lit × DataW H → Nat
  | (.string bytes, d) => bytes.length + uptoBulk d + 1
  | (_, d) => uptoBulk d + 1
 end
def uptoSmall : (H : Type) → List (DataW H) → Bool := fun _ ds => decide (uptoBulkAll ds ≤ 1048576)
def OpenSpec.upto (s : _root_.Go.ChangeSpec) : _root_.Go.OpenSpec := { _root_.Go.OpenSpec.ofChange s with cond := some uptoSmall }

/-- 'heliastlaw01.GlyphAsks', WHERE WHAT IT READS IS OF BULK AT MOST 1048576: true; the input reads as it did. -/
def glyphAsksUptoRow : OpenClaim := { program := "ytlkfdmcgcenliaa", sum := "5ed2949e77270488084807a5de0d55373eb3ade2198f6242d79c18c48313175b", func := "heliast/heliastlaw01.GlyphAsks", spec := "glyphAsks", inPlace := ["internal/abi.NoEscape"], apart := false, narrowed := true }
def GlyphAsksUptoSaid : Prop := glyphAsksUptoRow.holds Try.pinned (OpenSpec.upto glyphAsksSpec)

/-- 'heliastlaw01.GlyphBack', WHERE WHAT IT READS IS OF BULK AT MOST 1048576: true; the input reads as it did. -/
def glyphBackUptoRow : OpenClaim := { program := "ytlkfdmcgcenliaa", sum := "5ed2949e77270488084807a5de0d55373eb3ade2198f6242d79c18c48313175b", func := "heliast/heliastlaw01.GlyphBack", spec := "glyphBack", inPlace := ["internal/abi.NoEscape"], apart := false, narrowed := true }
def GlyphBackUptoSaid : Prop := glyphBackUptoRow.holds Try.pinned (OpenSpec.upto glyphBackSpec)

/-- 'heliastlaw01.GlyphTold', WHERE WHAT IT READS IS OF BULK AT MOST 1048576: true; the input reads as it did. -/
def glyphToldUptoRow : OpenClaim := { program := "ytlkfdmcgcenliaa", sum := "5ed2949e77270488084807a5de0d55373eb3ade2198f6242d79c18c48313175b", func := "heliast/heliastlaw01.GlyphTold", spec := "glyphTold", inPlace := ["internal/abi.NoEscape"], apart := false, narrowed := true }
def GlyphToldUptoSaid : Prop := glyphToldUptoRow.holds Try.pinned (OpenSpec.upto glyphToldSpec)

/-- 'heliastlaw01.GlyphPairs', WHERE WHAT IT READS IS OF BULK AT MOST 1048576: true; the input reads as it did. -/
def glyphPairsUptoRow : OpenClaim := { program := "ytlkfdmcgcenliaa", sum := "5ed2949e77270488084807a5de0d55373eb3ade2198f6242d79c18c48313175b", func := "heliast/heliastlaw01.GlyphPairs", spec := "glyphPairs", inPlace := ["internal/abi.NoEscape"], apart := false, narrowed := true }
def GlyphPairsUptoSaid : Prop := glyphPairsUptoRow.holds Try.pinned (OpenSpec.upto glyphPairsSpec)

/-- 'heliastlaw01.GlyphLess', WHERE WHAT IT READS IS OF BULK AT MOST 1048576: true; the input reads as it did. -/
def glyphLessUptoRow : OpenClaim := { program := "ytlkfdmcgcenliaa", sum := "5ed2949e77270488084807a5de0d55373eb3ade2198f6242d79c18c48313175b", func := "heliast/heliastlaw01.GlyphLess", spec := "glyphLess", inPlace := ["internal/abi.NoEscape"], apart := false, narrowed := true }
def GlyphLessUptoSaid : Prop := glyphLessUptoRow.holds Try.pinned (OpenSpec.upto glyphLessSpec)

/-- 'heliastlaw01.GlyphPlain', WHERE WHAT IT READS IS OF BULK AT MOST 1048576: true; the input reads as it did. -/
def glyphPlainUptoRow : OpenClaim := { program := "ytlkfdmcgcenliaa", sum := "5ed2949e77270488084807a5de0d55373eb3ade2198f6242d79c18c48313175b", func := "heliast/heliastlaw01.GlyphPlain", spec := "glyphPlain", inPlace := ["internal/abi.NoEscape"], apart := false, narrowed := true }
def GlyphPlainUptoSaid : Prop := glyphPlainUptoRow.holds Try.pinned (OpenSpec.upto glyphPlainSpec)

/-- 'heliastlaw01.GlyphJoin', WHERE WHAT IT READS IS OF BULK AT MOST 1048576: true; the input reads as it did. -/
def glyphJoinUptoRow : OpenClaim := { program := "ytlkfdmcgcenliaa", sum := "5ed2949e77270488084807a5de0d55373eb3ade2198f6242d79c18c48313175b", func := "heliast/heliastlaw01.GlyphJoin", spec := "glyphJoin", inPlace := ["internal/abi.NoEscape"], apart := false, narrowed := true }
def GlyphJoinUptoSaid : Prop := glyphJoinUptoRow.holds Try.pinned (OpenSpec.upto glyphJoinSpec)

/-- 'heliastlaw01.GlyphShort', WHERE WHAT IT READS IS OF BULK AT MOST 1048576: true; the input reads as it did. -/
def glyphShortUptoRow : OpenClaim := { program := "ytlkfdmcgcenliaa", sum := "5ed2949e77270488084807a5de0d55373eb3ade2198f6242d79c18c48313175b", func := "heliast/heliastlaw01.GlyphShort", spec := "glyphShort", inPlace := ["internal/abi.NoEscape"], apart := false, narrowed := true }
def GlyphShortUptoSaid : Prop := glyphShortUptoRow.holds Try.pinned (OpenSpec.upto glyphShortSpec)

end Rows
end Go.Proofs.Ytlkfdmcgcenliaa
