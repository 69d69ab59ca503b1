/-
  DERIVED. GIVEN WITH THE SEED: THE CARDS: each row of YtckpcebifdhpeaaDoorRows.lean that lists a variable, with what it lists TIED to the program's text (the seventh form; the later family's looks); each row that meets fmt, with fmt's text TOLD by the authors' own Lean function (tested against real Go, not proved from fmt's source: count such statements apart). THE CARD IS WHAT COUNTS. Prove the row's statement (the work); the ties are given (YtckpcebifdhpeaaDoorTie.lean); close each card by the builder's one call (the guide's Derived/Test/ToyasCard.lean, 'card_holds'). Laid BY PROGRAM, IN A SANDBOX (cutbox-door.mjs). By AI agents, Wed Nov 11 2026. No macro, syntax, notation, axiom, sorry.
-/
import Derived.Test.YtckpcebifdhpeaaDoorRows
import GoSem.ClaimSeven
namespace Go.Proofs.YtckpcebifdhpeaaDoor
namespace Rows

/-- THE TIED CARD OF 'heliastlaw04.DigestSums'. -/
def digestSumsCard : Claim7 := { stood := { row := digestSumsRow, standIns := [], harness := (true, "ebf676273eb5fa74777565b1c8d65aedb2f1b655ca070a6cdb478e708a6ef84d"), looks := false }, kinds := [], alts := [], laidByText := true, laidKinds := [.data], laidTests := true, laidLooks := .later }
def DigestSumsCardSaid : Prop := Claim7.holds Tryd.pinned (.plain (OpenSpec.ofChange digestSumsSpec)) digestSumsCard

/-- THE TIED CARD OF 'heliastlaw04.DigestPieces'. -/
def digestPiecesCard : Claim7 := { stood := { row := digestPiecesRow, standIns := [], harness := (true, "ebf676273eb5fa74777565b1c8d65aedb2f1b655ca070a6cdb478e708a6ef84d"), looks := false }, kinds := [], alts := [], laidByText := true, laidKinds := [.data], laidTests := true, laidLooks := .later }
def DigestPiecesCardSaid : Prop := Claim7.holds Tryd.pinned (.plain (OpenSpec.ofChange digestPiecesSpec)) digestPiecesCard

/-- THE TIED CARD OF 'heliastlaw04.DigestTails'. -/
def digestTailsCard : Claim7 := { stood := { row := digestTailsRow, standIns := [], harness := (true, "ebf676273eb5fa74777565b1c8d65aedb2f1b655ca070a6cdb478e708a6ef84d"), looks := false }, kinds := [], alts := [], laidByText := true, laidKinds := [.data], laidTests := true, laidLooks := .later }
def DigestTailsCardSaid : Prop := Claim7.holds Tryd.pinned (.plain (OpenSpec.ofChange digestTailsSpec)) digestTailsCard

/-- THE TIED CARD OF 'heliastlaw04.DigestNone'. -/
def digestNoneCard : Claim7 := { stood := { row := digestNoneRow, standIns := [], harness := (true, "ebf676273eb5fa74777565b1c8d65aedb2f1b655ca070a6cdb478e708a6ef84d"), looks := false }, kinds := [], alts := [], laidByText := true, laidKinds := [.data], laidTests := true, laidLooks := .later }
def DigestNoneCardSaid : Prop := Claim7.holds Tryd.pinned (.plain (OpenSpec.ofChange digestNoneSpec)) digestNoneCard

/-- THE TIED CARD OF 'heliastlaw04.DigestBytes'. -/
def digestBytesCard : Claim7 := { stood := { row := digestBytesRow, standIns := [], harness := (true, "ebf676273eb5fa74777565b1c8d65aedb2f1b655ca070a6cdb478e708a6ef84d"), looks := false }, kinds := [], alts := [], laidByText := true, laidKinds := [.data], laidTests := true, laidLooks := .later }
def DigestBytesCardSaid : Prop := Claim7.holds Tryd.pinned (.plain (OpenSpec.ofChange digestBytesSpec)) digestBytesCard

/-- THE TIED CARD OF 'heliastlaw04.DigestBlocks'. -/
def digestBlocksCard : Claim7 := { stood := { row := digestBlocksRow, standIns := [], harness := (true, "ebf676273eb5fa74777565b1c8d65aedb2f1b655ca070a6cdb478e708a6ef84d"), looks := false }, kinds := [], alts := [], laidByText := true, laidKinds := [.data], laidTests := true, laidLooks := .later }
def DigestBlocksCardSaid : Prop := Claim7.holds Tryd.pinned (.plain (OpenSpec.ofChange digestBlocksSpec)) digestBlocksCard

/-- THE SECOND FORM's CARD OF 'heliastlaw04.DigestSums'. -/
def digestSumsUptoCard : Claim7 := { stood := { row := digestSumsUptoRow, standIns := [], harness := (true, "ebf676273eb5fa74777565b1c8d65aedb2f1b655ca070a6cdb478e708a6ef84d"), looks := false }, kinds := [], alts := [], laidByText := true, laidKinds := [.data], laidTests := true, laidLooks := .later }
def DigestSumsUptoCardSaid : Prop := Claim7.holds Tryd.pinned (.plain (OpenSpec.upto digestSumsSpec)) digestSumsUptoCard

/-- THE SECOND FORM's CARD OF 'heliastlaw04.DigestPieces'. -/
def digestPiecesUptoCard : Claim7 := { stood := { row := digestPiecesUptoRow, standIns := [], harness := (true, "ebf676273eb5fa74777565b1c8d65aedb2f1b655ca070a6cdb478e708a6ef84d"), looks := false }, kinds := [], alts := [], laidByText := true, laidKinds := [.data], laidTests := true, laidLooks := .later }
def DigestPiecesUptoCardSaid : Prop := Claim7.holds Tryd.pinned (.plain (OpenSpec.upto digestPiecesSpec)) digestPiecesUptoCard

/-- THE SECOND FORM's CARD OF 'heliastlaw04.DigestTails'. -/
def digestTailsUptoCard : Claim7 := { stood := { row := digestTailsUptoRow, standIns := [], harness := (true, "ebf676273eb5fa74777565b1c8d65aedb2f1b655ca070a6cdb478e708a6ef84d"), looks := false }, kinds := [], alts := [], laidByText := true, laidKinds := [.data], laidTests := true, laidLooks := .later }
def DigestTailsUptoCardSaid : Prop := Claim7.holds Tryd.pinned (.plain (OpenSpec.upto digestTailsSpec)) digestTailsUptoCard

/-- THE SECOND FORM's CARD OF 'heliastlaw04.DigestNone'. -/
def digestNoneUptoCard : Claim7 := { stood := { row := digestNoneUptoRow, standIns := [], harness := (true, "ebf676273eb5fa74777565b1c8d65aedb2f1b655ca070a6cdb478e708a6ef84d"), looks := false }, kinds := [], alts := [], laidByText := true, laidKinds := [.data], laidTests := true, laidLooks := .later }
def DigestNoneUptoCardSaid : Prop := Claim7.holds Tryd.pinned (.plain (OpenSpec.upto digestNoneSpec)) digestNoneUptoCard

/-- THE SECOND FORM's CARD OF 'heliastlaw04.DigestBytes'. -/
def digestBytesUptoCard : Claim7 := { stood := { row := digestBytesUptoRow, standIns := [], harness := (true, "ebf676273eb5fa74777565b1c8d65aedb2f1b655ca070a6cdb478e708a6ef84d"), looks := false }, kinds := [], alts := [], laidByText := true, laidKinds := [.data], laidTests := true, laidLooks := .later }
def DigestBytesUptoCardSaid : Prop := Claim7.holds Tryd.pinned (.plain (OpenSpec.upto digestBytesSpec)) digestBytesUptoCard

/-- THE SECOND FORM's CARD OF 'heliastlaw04.DigestBlocks'. -/
def digestBlocksUptoCard : Claim7 := { stood := { row := digestBlocksUptoRow, standIns := [], harness := (true, "ebf676273eb5fa74777565b1c8d65aedb2f1b655ca070a6cdb478e708a6ef84d"), looks := false }, kinds := [], alts := [], laidByText := true, laidKinds := [.data], laidTests := true, laidLooks := .later }
def DigestBlocksUptoCardSaid : Prop := Claim7.holds Tryd.pinned (.plain (OpenSpec.upto digestBlocksSpec)) digestBlocksUptoCard
end Rows
end Go.Proofs.YtckpcebifdhpeaaDoor
