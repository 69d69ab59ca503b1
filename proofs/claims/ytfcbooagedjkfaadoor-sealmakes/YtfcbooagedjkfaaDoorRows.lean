/-
  NARROWER THAN 'FOR EVERY INPUT', by the rows' own cells (each row's printed sentence says how): SealMakes: laid · SealBack: laid · SealSigns: laid · SealKeys: laid · SealJoin: laid · SealNamed: laid · SealEqual: laid.
  DERIVED. THE GIVEN ROWS OF THIS SEAT. 7 by the template 'for every input the law returns true; each argument reads behind the call as it read before'; 0 by the template 'total and deterministic' (their statements: YtfcbooagedjkfaaDoorTotals.lean).
  GIVEN WITH THE SEED: the statements are not yours to turn. If you find one false, say at which input.
  Laid BY PROGRAM, IN A SANDBOX (cutbox-rows.mjs): the forced cells as the released guide's own fill.sh prints them over the translation 0fb6bd9163c3e4a5… (all of the seat's roots in one cut). By AI agents, Wed Nov 11 2026. No macro, syntax, notation, axiom, sorry.
-/
import Derived.Test.YtfcbooagedjkfaaDoorChecked
import GoSem.Claim
import GoSem.ClaimJoined
import GoSem.ClaimMapViews
import Derived.JoinedTies
import Derived.KernelRfl
namespace Go.Proofs.YtfcbooagedjkfaaDoor
/- THE CELL 'sum', in the pinned program and in every row, IS THE sha256 OF THE DUMP (.gsa) THAT YtfcbooagedjkfaaDoorProg.lean LOADS. Nothing in Lean hashes anything: it is a label: what it is worth is what the hold of that sum in a sandbox is worth. -/
noncomputable def Tryd.pinned : Pinned := { name := "ytfcbooagedjkfaadoor", sum := "0fb6bd9163c3e4a5816f705c70e294fc28b963e7a13aa715e001fc65070c8285", checked := Tryd.checked }
namespace Rows
def none {H : Type} : Left H := { results := [], args := [] }

/- WHAT THE LISTED PACKAGE-LEVEL VARIABLES READ AS WHEN THE CALL BEGINS. Each datum BY PROGRAM (the guide's laid-datum.mjs) off the statement by which the dump's own 'gosem.cut.vars' lays the variable. In a bare row this is a premise. The card (YtfcbooagedjkfaaDoorCards.lean) ties it to the program's text. -/
def laid_heliast_digest_cubes {H : Type} : DataW H := .agg [.lit (.int .u32 1116352408), .lit (.int .u32 1899447441), .lit (.int .u32 3049323471), .lit (.int .u32 3921009573), .lit (.int .u32 961987163), .lit (.int .u32 1508970993), .lit (.int .u32 2453635748), .lit (.int .u32 2870763221), .lit (.int .u32 3624381080), .lit (.int .u32 310598401), .lit (.int .u32 607225278), .lit (.int .u32 1426881987), .lit (.int .u32 1925078388), .lit (.int .u32 2162078206), .lit (.int .u32 2614888103), .lit (.int .u32 3248222580), .lit (.int .u32 3835390401), .lit (.int .u32 4022224774), .lit (.int .u32 264347078), .lit (.int .u32 604807628), .lit (.int .u32 770255983), .lit (.int .u32 1249150122), .lit (.int .u32 1555081692), .lit (.int .u32 1996064986), .lit (.int .u32 2554220882), .lit (.int .u32 2821834349), .lit (.int .u32 2952996808), .lit (.int .u32 3210313671), .lit (.int .u32 3336571891), .lit (.int .u32 3584528711), .lit (.int .u32 113926993), .lit (.int .u32 338241895), .lit (.int .u32 666307205), .lit (.int .u32 773529912), .lit (.int .u32 1294757372), .lit (.int .u32 1396182291), .lit (.int .u32 1695183700), .lit (.int .u32 1986661051), .lit (.int .u32 2177026350), .lit (.int .u32 2456956037), .lit (.int .u32 2730485921), .lit (.int .u32 2820302411), .lit (.int .u32 3259730800), .lit (.int .u32 3345764771), .lit (.int .u32 3516065817), .lit (.int .u32 3600352804), .lit (.int .u32 4094571909), .lit (.int .u32 275423344), .lit (.int .u32 430227734), .lit (.int .u32 506948616), .lit (.int .u32 659060556), .lit (.int .u32 883997877), .lit (.int .u32 958139571), .lit (.int .u32 1322822218), .lit (.int .u32 1537002063), .lit (.int .u32 1747873779), .lit (.int .u32 1955562222), .lit (.int .u32 2024104815), .lit (.int .u32 2227730452), .lit (.int .u32 2361852424), .lit (.int .u32 2428436474), .lit (.int .u32 2756734187), .lit (.int .u32 3204031479), .lit (.int .u32 3329325298)]

/-- 'heliastlaw05.SealMakes': WHATEVER THE INPUT: true; the input reads as it did. -/
def sealMakesSpec : ChangeSpec := { name := "sealMakes", fn := fun _ => fun
  | [d1, d2, d3, d4, d5] => { results := [.lit (.bool true)], args := [d1, d2, d3, d4, d5] }
  | _ => none }
def sealMakesRow : OpenClaim := { program := "ytfcbooagedjkfaadoor", sum := "0fb6bd9163c3e4a5816f705c70e294fc28b963e7a13aa715e001fc65070c8285", func := "heliast/heliastlaw05.SealMakes", spec := "sealMakes", inPlace := ["internal/bytealg.IndexByteString", "internal/bytealg.IndexString", "internal/abi.NoEscape", "internal/bytealg.MakeNoZero"], unfollowed := true, recurses := true, named := ["heliast/digest.cubes", "internal/bytealg.MaxLen"], apart := false, laid := [("heliast/digest.cubes", laid_heliast_digest_cubes)] }
def SealMakesSaid : Prop := sealMakesRow.holds Tryd.pinned (OpenSpec.ofChange sealMakesSpec)

/-- ITS FALSE NEIGHBOUR: 'it returns false'. Refute it at one input. -/
def sealMakesWrong : ChangeSpec := { name := "sealMakes", fn := fun _ => fun
  | [d1, d2, d3, d4, d5] => { results := [.lit (.bool false)], args := [d1, d2, d3, d4, d5] }
  | _ => none }
def SealMakesWrongFalsely : Prop := sealMakesRow.holds Tryd.pinned (OpenSpec.ofChange sealMakesWrong)

/-- 'heliastlaw05.SealBack': WHATEVER THE INPUT: true; the input reads as it did. -/
def sealBackSpec : ChangeSpec := { name := "sealBack", fn := fun _ => fun
  | [d1, d2, d3] => { results := [.lit (.bool true)], args := [d1, d2, d3] }
  | _ => none }
def sealBackRow : OpenClaim := { program := "ytfcbooagedjkfaadoor", sum := "0fb6bd9163c3e4a5816f705c70e294fc28b963e7a13aa715e001fc65070c8285", func := "heliast/heliastlaw05.SealBack", spec := "sealBack", inPlace := ["internal/bytealg.IndexByteString", "internal/bytealg.IndexString", "internal/abi.NoEscape", "internal/bytealg.MakeNoZero"], unfollowed := true, recurses := true, named := ["heliast/digest.cubes", "internal/bytealg.MaxLen"], apart := false, laid := [("heliast/digest.cubes", laid_heliast_digest_cubes)] }
def SealBackSaid : Prop := sealBackRow.holds Tryd.pinned (OpenSpec.ofChange sealBackSpec)

/-- ITS FALSE NEIGHBOUR: 'it returns false'. Refute it at one input. -/
def sealBackWrong : ChangeSpec := { name := "sealBack", fn := fun _ => fun
  | [d1, d2, d3] => { results := [.lit (.bool false)], args := [d1, d2, d3] }
  | _ => none }
def SealBackWrongFalsely : Prop := sealBackRow.holds Tryd.pinned (OpenSpec.ofChange sealBackWrong)

/-- 'heliastlaw05.SealSigns': WHATEVER THE INPUT: true; the input reads as it did. -/
def sealSignsSpec : ChangeSpec := { name := "sealSigns", fn := fun _ => fun
  | [d] => { results := [.lit (.bool true)], args := [d] }
  | _ => none }
def sealSignsRow : OpenClaim := { program := "ytfcbooagedjkfaadoor", sum := "0fb6bd9163c3e4a5816f705c70e294fc28b963e7a13aa715e001fc65070c8285", func := "heliast/heliastlaw05.SealSigns", spec := "sealSigns", inPlace := ["internal/bytealg.IndexByteString", "internal/bytealg.IndexString", "internal/abi.NoEscape", "internal/bytealg.MakeNoZero"], unfollowed := true, recurses := true, named := ["heliast/digest.cubes", "internal/bytealg.MaxLen"], apart := false, laid := [("heliast/digest.cubes", laid_heliast_digest_cubes)] }
def SealSignsSaid : Prop := sealSignsRow.holds Tryd.pinned (OpenSpec.ofChange sealSignsSpec)

/-- ITS FALSE NEIGHBOUR: 'it returns false'. Refute it at one input. -/
def sealSignsWrong : ChangeSpec := { name := "sealSigns", fn := fun _ => fun
  | [d] => { results := [.lit (.bool false)], args := [d] }
  | _ => none }
def SealSignsWrongFalsely : Prop := sealSignsRow.holds Tryd.pinned (OpenSpec.ofChange sealSignsWrong)

/-- 'heliastlaw05.SealKeys': WHATEVER THE INPUT: true; the input reads as it did. -/
def sealKeysSpec : ChangeSpec := { name := "sealKeys", fn := fun _ => fun
  | [d1, d2, d3] => { results := [.lit (.bool true)], args := [d1, d2, d3] }
  | _ => none }
def sealKeysRow : OpenClaim := { program := "ytfcbooagedjkfaadoor", sum := "0fb6bd9163c3e4a5816f705c70e294fc28b963e7a13aa715e001fc65070c8285", func := "heliast/heliastlaw05.SealKeys", spec := "sealKeys", inPlace := ["internal/bytealg.IndexByteString", "internal/bytealg.IndexString", "internal/abi.NoEscape", "internal/bytealg.MakeNoZero"], unfollowed := true, recurses := true, named := ["heliast/digest.cubes", "internal/bytealg.MaxLen"], apart := false, laid := [("heliast/digest.cubes", laid_heliast_digest_cubes)] }
def SealKeysSaid : Prop := sealKeysRow.holds Tryd.pinned (OpenSpec.ofChange sealKeysSpec)

/-- ITS FALSE NEIGHBOUR: 'it returns false'. Refute it at one input. -/
def sealKeysWrong : ChangeSpec := { name := "sealKeys", fn := fun _ => fun
  | [d1, d2, d3] => { results := [.lit (.bool false)], args := [d1, d2, d3] }
  | _ => none }
def SealKeysWrongFalsely : Prop := sealKeysRow.holds Tryd.pinned (OpenSpec.ofChange sealKeysWrong)

/-- 'heliastlaw05.SealJoin': WHATEVER THE INPUT: true; the input reads as it did. -/
def sealJoinSpec : ChangeSpec := { name := "sealJoin", fn := fun _ => fun
  | [d1, d2] => { results := [.lit (.bool true)], args := [d1, d2] }
  | _ => none }
def sealJoinRow : OpenClaim := { program := "ytfcbooagedjkfaadoor", sum := "0fb6bd9163c3e4a5816f705c70e294fc28b963e7a13aa715e001fc65070c8285", func := "heliast/heliastlaw05.SealJoin", spec := "sealJoin", inPlace := ["internal/bytealg.IndexByteString", "internal/bytealg.IndexString", "internal/abi.NoEscape", "internal/bytealg.MakeNoZero"], unfollowed := true, recurses := true, named := ["heliast/digest.cubes", "internal/bytealg.MaxLen"], apart := false, laid := [("heliast/digest.cubes", laid_heliast_digest_cubes)] }
def SealJoinSaid : Prop := sealJoinRow.holds Tryd.pinned (OpenSpec.ofChange sealJoinSpec)

/-- ITS FALSE NEIGHBOUR: 'it returns false'. Refute it at one input. -/
def sealJoinWrong : ChangeSpec := { name := "sealJoin", fn := fun _ => fun
  | [d1, d2] => { results := [.lit (.bool false)], args := [d1, d2] }
  | _ => none }
def SealJoinWrongFalsely : Prop := sealJoinRow.holds Tryd.pinned (OpenSpec.ofChange sealJoinWrong)

/-- 'heliastlaw05.SealNamed': WHATEVER THE INPUT: true; the input reads as it did. -/
def sealNamedSpec : ChangeSpec := { name := "sealNamed", fn := fun _ => fun
  | [d1, d2, d3] => { results := [.lit (.bool true)], args := [d1, d2, d3] }
  | _ => none }
def sealNamedRow : OpenClaim := { program := "ytfcbooagedjkfaadoor", sum := "0fb6bd9163c3e4a5816f705c70e294fc28b963e7a13aa715e001fc65070c8285", func := "heliast/heliastlaw05.SealNamed", spec := "sealNamed", inPlace := ["internal/bytealg.IndexByteString", "internal/bytealg.IndexString", "internal/abi.NoEscape", "internal/bytealg.MakeNoZero"], unfollowed := true, recurses := true, named := ["heliast/digest.cubes", "internal/bytealg.MaxLen"], apart := false, laid := [("heliast/digest.cubes", laid_heliast_digest_cubes)] }
def SealNamedSaid : Prop := sealNamedRow.holds Tryd.pinned (OpenSpec.ofChange sealNamedSpec)

/-- ITS FALSE NEIGHBOUR: 'it returns false'. Refute it at one input. -/
def sealNamedWrong : ChangeSpec := { name := "sealNamed", fn := fun _ => fun
  | [d1, d2, d3] => { results := [.lit (.bool false)], args := [d1, d2, d3] }
  | _ => none }
def SealNamedWrongFalsely : Prop := sealNamedRow.holds Tryd.pinned (OpenSpec.ofChange sealNamedWrong)

/-- 'heliastlaw05.SealEqual': WHATEVER THE INPUT: true; the input reads as it did. -/
def sealEqualSpec : ChangeSpec := { name := "sealEqual", fn := fun _ => fun
  | [d1, d2, d3] => { results := [.lit (.bool true)], args := [d1, d2, d3] }
  | _ => none }
def sealEqualRow : OpenClaim := { program := "ytfcbooagedjkfaadoor", sum := "0fb6bd9163c3e4a5816f705c70e294fc28b963e7a13aa715e001fc65070c8285", func := "heliast/heliastlaw05.SealEqual", spec := "sealEqual", inPlace := ["internal/bytealg.IndexByteString", "internal/bytealg.IndexString", "internal/abi.NoEscape", "internal/bytealg.MakeNoZero"], unfollowed := true, recurses := true, named := ["heliast/digest.cubes", "internal/bytealg.MaxLen"], apart := false, laid := [("heliast/digest.cubes", laid_heliast_digest_cubes)] }
def SealEqualSaid : Prop := sealEqualRow.holds Tryd.pinned (OpenSpec.ofChange sealEqualSpec)

/-- ITS FALSE NEIGHBOUR: 'it returns false'. Refute it at one input. -/
def sealEqualWrong : ChangeSpec := { name := "sealEqual", fn := fun _ => fun
  | [d1, d2, d3] => { results := [.lit (.bool false)], args := [d1, d2, d3] }
  | _ => none }
def SealEqualWrongFalsely : Prop := sealEqualRow.holds Tryd.pinned (OpenSpec.ofChange sealEqualWrong)

/- THE SECOND FORM. 'bulk': how many values and letters a reading holds, each counted each time it is reached (what is shared counts as often as it is met; a slice's spare places count too). A statement '..UptoSaid' is the law's where the arguments, and the package variables that the reading takes, are together of bulk at most 1048576: NARROWER than '..Said'. Prove '..Said' where nothing that the law and all that it calls make is longer than what came in: it says more and counts as full. Else prove '..UptoSaid'. A law counts once. -/
mutual
def uptoBulk {H : Type} : DataW H → Nat
  | .lit (.string bytes) => bytes.length + 1
  | .lit _ => 1
  | .nil => 1
  | .ptr d => uptoBulk d + 1
  | .slice elems spare => uptoBulkAll elems + uptoBulkAll spare + 1
  | .agg parts => uptoBulkAll parts + 1
  | .iface _ d => uptoBulk d + 1
  | .map entries => uptoBulkEntries entries + 1
  | .held _ => 1
def uptoBulkAll {H : Type} : List (DataW H) → Nat
  | [] => 0
  | d :: r => uptoBulk d + uptoBulkAll r
def uptoBulkEntries {H : Type} : List (Lit × DataW H) → Nat
  | [] => 0
  | x :: r => uptoBulkEntry x + uptoBulkEntries r
def uptoBulkEntry {H : Type} : Lit × DataW H → Nat
  | (.string bytes, d) => bytes.length + uptoBulk d + 1
  | (_, d) => uptoBulk d + 1
 end
def uptoSmall : (H : Type) → List (DataW H) → Bool := fun _ ds => decide (uptoBulkAll ds ≤ 1048576)
def OpenSpec.upto (s : _root_.Go.ChangeSpec) : _root_.Go.OpenSpec := { _root_.Go.OpenSpec.ofChange s with cond := some uptoSmall }

/-- 'heliastlaw05.SealMakes', WHERE WHAT IT READS IS OF BULK AT MOST 1048576: true; the input reads as it did. -/
def sealMakesUptoRow : OpenClaim := { program := "ytfcbooagedjkfaadoor", sum := "0fb6bd9163c3e4a5816f705c70e294fc28b963e7a13aa715e001fc65070c8285", func := "heliast/heliastlaw05.SealMakes", spec := "sealMakes", inPlace := ["internal/bytealg.IndexByteString", "internal/bytealg.IndexString", "internal/abi.NoEscape", "internal/bytealg.MakeNoZero"], unfollowed := true, recurses := true, named := ["heliast/digest.cubes", "internal/bytealg.MaxLen"], apart := false, laid := [("heliast/digest.cubes", laid_heliast_digest_cubes)], narrowed := true }
def SealMakesUptoSaid : Prop := sealMakesUptoRow.holds Tryd.pinned (OpenSpec.upto sealMakesSpec)

/-- 'heliastlaw05.SealBack', WHERE WHAT IT READS IS OF BULK AT MOST 1048576: true; the input reads as it did. -/
def sealBackUptoRow : OpenClaim := { program := "ytfcbooagedjkfaadoor", sum := "0fb6bd9163c3e4a5816f705c70e294fc28b963e7a13aa715e001fc65070c8285", func := "heliast/heliastlaw05.SealBack", spec := "sealBack", inPlace := ["internal/bytealg.IndexByteString", "internal/bytealg.IndexString", "internal/abi.NoEscape", "internal/bytealg.MakeNoZero"], unfollowed := true, recurses := true, named := ["heliast/digest.cubes", "internal/bytealg.MaxLen"], apart := false, laid := [("heliast/digest.cubes", laid_heliast_digest_cubes)], narrowed := true }
def SealBackUptoSaid : Prop := sealBackUptoRow.holds Tryd.pinned (OpenSpec.upto sealBackSpec)

/-- 'heliastlaw05.SealSigns', WHERE WHAT IT READS IS OF BULK AT MOST 1048576: true; the input reads as it did. -/
def sealSignsUptoRow : OpenClaim := { program := "ytfcbooagedjkfaadoor", sum := "0fb6bd9163c3e4a5816f705c70e294fc28b963e7a13aa715e001fc65070c8285", func := "heliast/heliastlaw05.SealSigns", spec := "sealSigns", inPlace := ["internal/bytealg.IndexByteString", "internal/bytealg.IndexString", "internal/abi.NoEscape", "internal/bytealg.MakeNoZero"], unfollowed := true, recurses := true, named := ["heliast/digest.cubes", "internal/bytealg.MaxLen"], apart := false, laid := [("heliast/digest.cubes", laid_heliast_digest_cubes)], narrowed := true }
def SealSignsUptoSaid : Prop := sealSignsUptoRow.holds Tryd.pinned (OpenSpec.upto sealSignsSpec)

/-- 'heliastlaw05.SealKeys', WHERE WHAT IT READS IS OF BULK AT MOST 1048576: true; the input reads as it did. -/
def sealKeysUptoRow : OpenClaim := { program := "ytfcbooagedjkfaadoor", sum := "0fb6bd9163c3e4a5816f705c70e294fc28b963e7a13aa715e001fc65070c8285", func := "heliast/heliastlaw05.SealKeys", spec := "sealKeys", inPlace := ["internal/bytealg.IndexByteString", "internal/bytealg.IndexString", "internal/abi.NoEscape", "internal/bytealg.MakeNoZero"], unfollowed := true, recurses := true, named := ["heliast/digest.cubes", "internal/bytealg.MaxLen"], apart := false, laid := [("heliast/digest.cubes", laid_heliast_digest_cubes)], narrowed := true }
def SealKeysUptoSaid : Prop := sealKeysUptoRow.holds Tryd.pinned (OpenSpec.upto sealKeysSpec)

/-- 'heliastlaw05.SealJoin', WHERE WHAT IT READS IS OF BULK AT MOST 1048576: true; the input reads as it did. -/
def sealJoinUptoRow : OpenClaim := { program := "ytfcbooagedjkfaadoor", sum := "0fb6bd9163c3e4a5816f705c70e294fc28b963e7a13aa715e001fc65070c8285", func := "heliast/heliastlaw05.SealJoin", spec := "sealJoin", inPlace := ["internal/bytealg.IndexByteString", "internal/bytealg.IndexString", "internal/abi.NoEscape", "internal/bytealg.MakeNoZero"], unfollowed := true, recurses := true, named := ["heliast/digest.cubes", "internal/bytealg.MaxLen"], apart := false, laid := [("heliast/digest.cubes", laid_heliast_digest_cubes)], narrowed := true }
def SealJoinUptoSaid : Prop := sealJoinUptoRow.holds Tryd.pinned (OpenSpec.upto sealJoinSpec)

/-- 'heliastlaw05.SealNamed', WHERE WHAT IT READS IS OF BULK AT MOST 1048576: true; the input reads as it did. -/
def sealNamedUptoRow : OpenClaim := { program := "ytfcbooagedjkfaadoor", sum := "0fb6bd9163c3e4a5816f705c70e294fc28b963e7a13aa715e001fc65070c8285", func := "heliast/heliastlaw05.SealNamed", spec := "sealNamed", inPlace := ["internal/bytealg.IndexByteString", "internal/bytealg.IndexString", "internal/abi.NoEscape", "internal/bytealg.MakeNoZero"], unfollowed := true, recurses := true, named := ["heliast/digest.cubes", "internal/bytealg.MaxLen"], apart := false, laid := [("heliast/digest.cubes", laid_heliast_digest_cubes)], narrowed := true }
def SealNamedUptoSaid : Prop := sealNamedUptoRow.holds Tryd.pinned (OpenSpec.upto sealNamedSpec)

/-- 'heliastlaw05.SealEqual', WHERE WHAT IT READS IS OF BULK AT MOST 1048576: true; the input reads as it did. -/
def sealEqualUptoRow : OpenClaim := { program := "ytfcbooagedjkfaadoor", sum := "0fb6bd9163c3e4a5816f705c70e294fc28b963e7a13aa715e001fc65070c8285", func := "heliast/heliastlaw05.SealEqual", spec := "sealEqual", inPlace := ["internal/bytealg.IndexByteString", "internal/bytealg.IndexString", "internal/abi.NoEscape", "internal/bytealg.MakeNoZero"], unfollowed := true, recurses := true, named := ["heliast/digest.cubes", "internal/bytealg.MaxLen"], apart := false, laid := [("heliast/digest.cubes", laid_heliast_digest_cubes)], narrowed := true }
def SealEqualUptoSaid : Prop := sealEqualUptoRow.holds Tryd.pinned (OpenSpec.upto sealEqualSpec)

end Rows
end Go.Proofs.YtfcbooagedjkfaaDoor
