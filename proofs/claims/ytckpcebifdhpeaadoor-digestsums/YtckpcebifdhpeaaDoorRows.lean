/-
  NARROWER THAN 'FOR EVERY INPUT', by the rows' own cells (each row's printed sentence says how): DigestSums: laid · DigestPieces: laid · DigestTails: laid · DigestNone: laid · DigestBytes: laid · DigestBlocks: laid.
  DERIVED. THE GIVEN ROWS OF THIS SEAT. 6 by the template 'for every input the law returns true; each argument reads behind the call as it read before'; 0 by the template 'total and deterministic' (their statements: YtckpcebifdhpeaaDoorTotals.lean).
  GIVEN WITH THE SEED: the statements are not yours to turn. If you find one false, say at which input.
  Laid BY PROGRAM, IN A SANDBOX (cutbox-rows.mjs): the forced cells as the released guide's own fill.sh prints them over the translation 026df3c82f02d6dd… (all of the seat's roots in one cut). By AI agents, Wed Nov 11 2026. No macro, syntax, notation, axiom, sorry.
-/
import Derived.Test.YtckpcebifdhpeaaDoorChecked
import GoSem.Claim
import GoSem.ClaimJoined
import GoSem.ClaimMapViews
import Derived.JoinedTies
import Derived.KernelRfl
namespace Go.Proofs.YtckpcebifdhpeaaDoor
/- THE CELL 'sum', in the pinned program and in every row, IS THE sha256 OF THE DUMP (.gsa) THAT YtckpcebifdhpeaaDoorProg.lean LOADS. Nothing in Lean hashes anything: it is a label: what it is worth is what the hold of that sum in a sandbox is worth. -/
noncomputable def Tryd.pinned : Pinned := { name := "ytckpcebifdhpeaadoor", sum := "026df3c82f02d6ddeeb144315b193584b6f9272cc008f7424fb813bd8ef8042b", checked := Tryd.checked }
namespace Rows
def none {H : Type} : Left H := { results := [], args := [] }

/- WHAT THE LISTED PACKAGE-LEVEL VARIABLES READ AS WHEN THE CALL BEGINS. Each datum BY PROGRAM (the guide's laid-datum.mjs) off the statement by which the dump's own 'gosem.cut.vars' lays the variable. In a bare row this is a premise. The card (YtckpcebifdhpeaaDoorCards.lean) ties it to the program's text. -/
def laid_heliast_digest_cubes {H : Type} : DataW H := .agg [.lit (.int .u32 1116352408), .lit (.int .u32 1899447441), .lit (.int .u32 3049323471), .lit (.int .u32 3921009573), .lit (.int .u32 961987163), .lit (.int .u32 1508970993), .lit (.int .u32 2453635748), .lit (.int .u32 2870763221), .lit (.int .u32 3624381080), .lit (.int .u32 310598401), .lit (.int .u32 607225278), .lit (.int .u32 1426881987), .lit (.int .u32 1925078388), .lit (.int .u32 2162078206), .lit (.int .u32 2614888103), .lit (.int .u32 3248222580), .lit (.int .u32 3835390401), .lit (.int .u32 4022224774), .lit (.int .u32 264347078), .lit (.int .u32 604807628), .lit (.int .u32 770255983), .lit (.int .u32 1249150122), .lit (.int .u32 1555081692), .lit (.int .u32 1996064986), .lit (.int .u32 2554220882), .lit (.int .u32 2821834349), .lit (.int .u32 2952996808), .lit (.int .u32 3210313671), .lit (.int .u32 3336571891), .lit (.int .u32 3584528711), .lit (.int .u32 113926993), .lit (.int .u32 338241895), .lit (.int .u32 666307205), .lit (.int .u32 773529912), .lit (.int .u32 1294757372), .lit (.int .u32 1396182291), .lit (.int .u32 1695183700), .lit (.int .u32 1986661051), .lit (.int .u32 2177026350), .lit (.int .u32 2456956037), .lit (.int .u32 2730485921), .lit (.int .u32 2820302411), .lit (.int .u32 3259730800), .lit (.int .u32 3345764771), .lit (.int .u32 3516065817), .lit (.int .u32 3600352804), .lit (.int .u32 4094571909), .lit (.int .u32 275423344), .lit (.int .u32 430227734), .lit (.int .u32 506948616), .lit (.int .u32 659060556), .lit (.int .u32 883997877), .lit (.int .u32 958139571), .lit (.int .u32 1322822218), .lit (.int .u32 1537002063), .lit (.int .u32 1747873779), .lit (.int .u32 1955562222), .lit (.int .u32 2024104815), .lit (.int .u32 2227730452), .lit (.int .u32 2361852424), .lit (.int .u32 2428436474), .lit (.int .u32 2756734187), .lit (.int .u32 3204031479), .lit (.int .u32 3329325298)]

/-- 'heliastlaw04.DigestSums': WHATEVER THE INPUT: true; the input reads as it did. -/
def digestSumsSpec : ChangeSpec := { name := "digestSums", fn := fun _ => fun
  | [d1, d2] => { results := [.lit (.bool true)], args := [d1, d2] }
  | _ => none }
def digestSumsRow : OpenClaim := { program := "ytckpcebifdhpeaadoor", sum := "026df3c82f02d6ddeeb144315b193584b6f9272cc008f7424fb813bd8ef8042b", func := "heliast/heliastlaw04.DigestSums", spec := "digestSums", unfollowed := true, recurses := true, named := ["heliast/digest.cubes"], apart := false, laid := [("heliast/digest.cubes", laid_heliast_digest_cubes)] }
def DigestSumsSaid : Prop := digestSumsRow.holds Tryd.pinned (OpenSpec.ofChange digestSumsSpec)

/-- ITS FALSE NEIGHBOUR: 'it returns false'. Refute it at one input. -/
def digestSumsWrong : ChangeSpec := { name := "digestSums", fn := fun _ => fun
  | [d1, d2] => { results := [.lit (.bool false)], args := [d1, d2] }
  | _ => none }
def DigestSumsWrongFalsely : Prop := digestSumsRow.holds Tryd.pinned (OpenSpec.ofChange digestSumsWrong)

/-- 'heliastlaw04.DigestPieces': WHATEVER THE INPUT: true; the input reads as it did. -/
def digestPiecesSpec : ChangeSpec := { name := "digestPieces", fn := fun _ => fun
  | [d1, d2] => { results := [.lit (.bool true)], args := [d1, d2] }
  | _ => none }
def digestPiecesRow : OpenClaim := { program := "ytckpcebifdhpeaadoor", sum := "026df3c82f02d6ddeeb144315b193584b6f9272cc008f7424fb813bd8ef8042b", func := "heliast/heliastlaw04.DigestPieces", spec := "digestPieces", unfollowed := true, recurses := true, named := ["heliast/digest.cubes"], apart := false, laid := [("heliast/digest.cubes", laid_heliast_digest_cubes)] }
def DigestPiecesSaid : Prop := digestPiecesRow.holds Tryd.pinned (OpenSpec.ofChange digestPiecesSpec)

/-- ITS FALSE NEIGHBOUR: 'it returns false'. Refute it at one input. -/
def digestPiecesWrong : ChangeSpec := { name := "digestPieces", fn := fun _ => fun
  | [d1, d2] => { results := [.lit (.bool false)], args := [d1, d2] }
  | _ => none }
def DigestPiecesWrongFalsely : Prop := digestPiecesRow.holds Tryd.pinned (OpenSpec.ofChange digestPiecesWrong)

/-- 'heliastlaw04.DigestTails': WHATEVER THE INPUT: true; the input reads as it did. -/
def digestTailsSpec : ChangeSpec := { name := "digestTails", fn := fun _ => fun
  | [d1, d2] => { results := [.lit (.bool true)], args := [d1, d2] }
  | _ => none }
def digestTailsRow : OpenClaim := { program := "ytckpcebifdhpeaadoor", sum := "026df3c82f02d6ddeeb144315b193584b6f9272cc008f7424fb813bd8ef8042b", func := "heliast/heliastlaw04.DigestTails", spec := "digestTails", unfollowed := true, recurses := true, named := ["heliast/digest.cubes"], apart := false, laid := [("heliast/digest.cubes", laid_heliast_digest_cubes)] }
def DigestTailsSaid : Prop := digestTailsRow.holds Tryd.pinned (OpenSpec.ofChange digestTailsSpec)

/-- ITS FALSE NEIGHBOUR: 'it returns false'. Refute it at one input. -/
def digestTailsWrong : ChangeSpec := { name := "digestTails", fn := fun _ => fun
  | [d1, d2] => { results := [.lit (.bool false)], args := [d1, d2] }
  | _ => none }
def DigestTailsWrongFalsely : Prop := digestTailsRow.holds Tryd.pinned (OpenSpec.ofChange digestTailsWrong)

/-- 'heliastlaw04.DigestNone': WHATEVER THE INPUT: true; the input reads as it did. -/
def digestNoneSpec : ChangeSpec := { name := "digestNone", fn := fun _ => fun
  | [d1, d2] => { results := [.lit (.bool true)], args := [d1, d2] }
  | _ => none }
def digestNoneRow : OpenClaim := { program := "ytckpcebifdhpeaadoor", sum := "026df3c82f02d6ddeeb144315b193584b6f9272cc008f7424fb813bd8ef8042b", func := "heliast/heliastlaw04.DigestNone", spec := "digestNone", unfollowed := true, recurses := true, named := ["heliast/digest.cubes"], apart := false, laid := [("heliast/digest.cubes", laid_heliast_digest_cubes)] }
def DigestNoneSaid : Prop := digestNoneRow.holds Tryd.pinned (OpenSpec.ofChange digestNoneSpec)

/-- ITS FALSE NEIGHBOUR: 'it returns false'. Refute it at one input. -/
def digestNoneWrong : ChangeSpec := { name := "digestNone", fn := fun _ => fun
  | [d1, d2] => { results := [.lit (.bool false)], args := [d1, d2] }
  | _ => none }
def DigestNoneWrongFalsely : Prop := digestNoneRow.holds Tryd.pinned (OpenSpec.ofChange digestNoneWrong)

/-- 'heliastlaw04.DigestBytes': WHATEVER THE INPUT: true; the input reads as it did. -/
def digestBytesSpec : ChangeSpec := { name := "digestBytes", fn := fun _ => fun
  | [d1, d2] => { results := [.lit (.bool true)], args := [d1, d2] }
  | _ => none }
def digestBytesRow : OpenClaim := { program := "ytckpcebifdhpeaadoor", sum := "026df3c82f02d6ddeeb144315b193584b6f9272cc008f7424fb813bd8ef8042b", func := "heliast/heliastlaw04.DigestBytes", spec := "digestBytes", unfollowed := true, recurses := true, named := ["heliast/digest.cubes"], apart := false, laid := [("heliast/digest.cubes", laid_heliast_digest_cubes)] }
def DigestBytesSaid : Prop := digestBytesRow.holds Tryd.pinned (OpenSpec.ofChange digestBytesSpec)

/-- ITS FALSE NEIGHBOUR: 'it returns false'. Refute it at one input. -/
def digestBytesWrong : ChangeSpec := { name := "digestBytes", fn := fun _ => fun
  | [d1, d2] => { results := [.lit (.bool false)], args := [d1, d2] }
  | _ => none }
def DigestBytesWrongFalsely : Prop := digestBytesRow.holds Tryd.pinned (OpenSpec.ofChange digestBytesWrong)

/-- 'heliastlaw04.DigestBlocks': WHATEVER THE INPUT: true; the input reads as it did. -/
def digestBlocksSpec : ChangeSpec := { name := "digestBlocks", fn := fun _ => fun
  | [d] => { results := [.lit (.bool true)], args := [d] }
  | _ => none }
def digestBlocksRow : OpenClaim := { program := "ytckpcebifdhpeaadoor", sum := "026df3c82f02d6ddeeb144315b193584b6f9272cc008f7424fb813bd8ef8042b", func := "heliast/heliastlaw04.DigestBlocks", spec := "digestBlocks", unfollowed := true, recurses := true, named := ["heliast/digest.cubes"], apart := false, laid := [("heliast/digest.cubes", laid_heliast_digest_cubes)] }
def DigestBlocksSaid : Prop := digestBlocksRow.holds Tryd.pinned (OpenSpec.ofChange digestBlocksSpec)

/-- ITS FALSE NEIGHBOUR: 'it returns false'. Refute it at one input. -/
def digestBlocksWrong : ChangeSpec := { name := "digestBlocks", fn := fun _ => fun
  | [d] => { results := [.lit (.bool false)], args := [d] }
  | _ => none }
def DigestBlocksWrongFalsely : Prop := digestBlocksRow.holds Tryd.pinned (OpenSpec.ofChange digestBlocksWrong)

/- THE SECOND FORM. 'bulk': how many values and letters a reading holds, each counted each time it is reached (what is shared counts as often as it is met; a slice's spare places count too). A statement '..UptoSaid' is the law's where the arguments, and the package variables that the reading takes, are together of bulk at most 1048576: NARROWER than '..Said'. Prove '..Said' where nothing that the law and all that it calls make is longer than what came in: it says more and counts as full. Else prove '..UptoSaid'. A law counts once. -/
mutual
def uptoBulk {H : Type} : DataW H → Nat
  | .lit (.string bytes) => bytes.length + 1
  | .lit _ => 1
  | .nil => 1
  | .ptr d => uptoBulk d + 1
  | .slice elems spare => uptoBulkAll elems + uptoBulkAll spare + 1
  | .agg parts => uptoBulkAll parts + 1
  | .iface _ d => uptoBulk d + 1
  | .map entries => uptoBulkEntries entries + 1
  | .held _ => 1
def uptoBulkAll {H : Type} : List (DataW H) → Nat
  | [] => 0
  | d :: r => uptoBulk d + uptoBulkAll r
def uptoBulkEntries {H : Type} : List (Lit × DataW H) → Nat
  | [] => 0
  | x :: r => uptoBulkEntry x + uptoBulkEntries r
def uptoBulkEntry {H : Type} : Lit × DataW H → Nat
  | (.string bytes, d) => bytes.length + uptoBulk d + 1
  | (_, d) => uptoBulk d + 1
 end
def uptoSmall : (H : Type) → List (DataW H) → Bool := fun _ ds => decide (uptoBulkAll ds ≤ 1048576)
def OpenSpec.upto (s : _root_.Go.ChangeSpec) : _root_.Go.OpenSpec := { _root_.Go.OpenSpec.ofChange s with cond := some uptoSmall }

/-- 'heliastlaw04.DigestSums', WHERE WHAT IT READS IS OF BULK AT MOST 1048576: true; the input reads as it did. -/
def digestSumsUptoRow : OpenClaim := { program := "ytckpcebifdhpeaadoor", sum := "026df3c82f02d6ddeeb144315b193584b6f9272cc008f7424fb813bd8ef8042b", func := "heliast/heliastlaw04.DigestSums", spec := "digestSums", unfollowed := true, recurses := true, named := ["heliast/digest.cubes"], apart := false, laid := [("heliast/digest.cubes", laid_heliast_digest_cubes)], narrowed := true }
def DigestSumsUptoSaid : Prop := digestSumsUptoRow.holds Tryd.pinned (OpenSpec.upto digestSumsSpec)

/-- 'heliastlaw04.DigestPieces', WHERE WHAT IT READS IS OF BULK AT MOST 1048576: true; the input reads as it did. -/
def digestPiecesUptoRow : OpenClaim := { program := "ytckpcebifdhpeaadoor", sum := "026df3c82f02d6ddeeb144315b193584b6f9272cc008f7424fb813bd8ef8042b", func := "heliast/heliastlaw04.DigestPieces", spec := "digestPieces", unfollowed := true, recurses := true, named := ["heliast/digest.cubes"], apart := false, laid := [("heliast/digest.cubes", laid_heliast_digest_cubes)], narrowed := true }
def DigestPiecesUptoSaid : Prop := digestPiecesUptoRow.holds Tryd.pinned (OpenSpec.upto digestPiecesSpec)

/-- 'heliastlaw04.DigestTails', WHERE WHAT IT READS IS OF BULK AT MOST 1048576: true; the input reads as it did. -/
def digestTailsUptoRow : OpenClaim := { program := "ytckpcebifdhpeaadoor", sum := "026df3c82f02d6ddeeb144315b193584b6f9272cc008f7424fb813bd8ef8042b", func := "heliast/heliastlaw04.DigestTails", spec := "digestTails", unfollowed := true, recurses := true, named := ["heliast/digest.cubes"], apart := false, laid := [("heliast/digest.cubes", laid_heliast_digest_cubes)], narrowed := true }
def DigestTailsUptoSaid : Prop := digestTailsUptoRow.holds Tryd.pinned (OpenSpec.upto digestTailsSpec)

/-- 'heliastlaw04.DigestNone', WHERE WHAT IT READS IS OF BULK AT MOST 1048576: true; the input reads as it did. -/
def digestNoneUptoRow : OpenClaim := { program := "ytckpcebifdhpeaadoor", sum := "026df3c82f02d6ddeeb144315b193584b6f9272cc008f7424fb813bd8ef8042b", func := "heliast/heliastlaw04.DigestNone", spec := "digestNone", unfollowed := true, recurses := true, named := ["heliast/digest.cubes"], apart := false, laid := [("heliast/digest.cubes", laid_heliast_digest_cubes)], narrowed := true }
def DigestNoneUptoSaid : Prop := digestNoneUptoRow.holds Tryd.pinned (OpenSpec.upto digestNoneSpec)

/-- 'heliastlaw04.DigestBytes', WHERE WHAT IT READS IS OF BULK AT MOST 1048576: true; the input reads as it did. -/
def digestBytesUptoRow : OpenClaim := { program := "ytckpcebifdhpeaadoor", sum := "026df3c82f02d6ddeeb144315b193584b6f9272cc008f7424fb813bd8ef8042b", func := "heliast/heliastlaw04.DigestBytes", spec := "digestBytes", unfollowed := true, recurses := true, named := ["heliast/digest.cubes"], apart := false, laid := [("heliast/digest.cubes", laid_heliast_digest_cubes)], narrowed := true }
def DigestBytesUptoSaid : Prop := digestBytesUptoRow.holds Tryd.pinned (OpenSpec.upto digestBytesSpec)

/-- 'heliastlaw04.DigestBlocks', WHERE WHAT IT READS IS OF BULK AT MOST 1048576: true; the input reads as it did. -/
def digestBlocksUptoRow : OpenClaim := { program := "ytckpcebifdhpeaadoor", sum := "026df3c82f02d6ddeeb144315b193584b6f9272cc008f7424fb813bd8ef8042b", func := "heliast/heliastlaw04.DigestBlocks", spec := "digestBlocks", unfollowed := true, recurses := true, named := ["heliast/digest.cubes"], apart := false, laid := [("heliast/digest.cubes", laid_heliast_digest_cubes)], narrowed := true }
def DigestBlocksUptoSaid : Prop := digestBlocksUptoRow.holds Tryd.pinned (OpenSpec.upto digestBlocksSpec)

end Rows
end Go.Proofs.YtckpcebifdhpeaaDoor
