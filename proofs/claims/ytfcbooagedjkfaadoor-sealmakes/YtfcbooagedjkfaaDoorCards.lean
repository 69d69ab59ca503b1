/-
  DERIVED. GIVEN WITH THE SEED: THE CARDS: each row of YtfcbooagedjkfaaDoorRows.lean that lists a variable, with what it lists TIED to the program's text (the seventh form; the later family's looks); each row that meets fmt, with fmt's text TOLD by the authors' own Lean function (tested against real Go, not proved from fmt's source: count such statements apart). THE CARD IS WHAT COUNTS. Prove the row's statement (the work); the ties are given (YtfcbooagedjkfaaDoorTie.lean); close each card by the builder's one call (the guide's Derived/Test/ToyasCard.lean, 'card_holds'). Laid BY PROGRAM, IN A SANDBOX (cutbox-door.mjs). By AI agents, Wed Nov 11 2026. No macro, syntax, notation, axiom, sorry.
-/
import Derived.Test.YtfcbooagedjkfaaDoorRows
import GoSem.ClaimSeven
namespace Go.Proofs.YtfcbooagedjkfaaDoor
namespace Rows

/-- THE TIED CARD OF 'heliastlaw05.SealMakes'. -/
def sealMakesCard : Claim7 := { stood := { row := sealMakesRow, standIns := [], harness := (true, "e5d4f312422e0dd7b2e2c6981743071a5b6d51ad5fd224d37613e21a3bd860d0"), looks := false }, kinds := [], alts := [], laidByText := true, laidKinds := [.data], laidTests := true, laidLooks := .later }
def SealMakesCardSaid : Prop := Claim7.holds Tryd.pinned (.plain (OpenSpec.ofChange sealMakesSpec)) sealMakesCard

/-- THE TIED CARD OF 'heliastlaw05.SealBack'. -/
def sealBackCard : Claim7 := { stood := { row := sealBackRow, standIns := [], harness := (true, "e5d4f312422e0dd7b2e2c6981743071a5b6d51ad5fd224d37613e21a3bd860d0"), looks := false }, kinds := [], alts := [], laidByText := true, laidKinds := [.data], laidTests := true, laidLooks := .later }
def SealBackCardSaid : Prop := Claim7.holds Tryd.pinned (.plain (OpenSpec.ofChange sealBackSpec)) sealBackCard

/-- THE TIED CARD OF 'heliastlaw05.SealSigns'. -/
def sealSignsCard : Claim7 := { stood := { row := sealSignsRow, standIns := [], harness := (true, "e5d4f312422e0dd7b2e2c6981743071a5b6d51ad5fd224d37613e21a3bd860d0"), looks := false }, kinds := [], alts := [], laidByText := true, laidKinds := [.data], laidTests := true, laidLooks := .later }
def SealSignsCardSaid : Prop := Claim7.holds Tryd.pinned (.plain (OpenSpec.ofChange sealSignsSpec)) sealSignsCard

/-- THE TIED CARD OF 'heliastlaw05.SealKeys'. -/
def sealKeysCard : Claim7 := { stood := { row := sealKeysRow, standIns := [], harness := (true, "e5d4f312422e0dd7b2e2c6981743071a5b6d51ad5fd224d37613e21a3bd860d0"), looks := false }, kinds := [], alts := [], laidByText := true, laidKinds := [.data], laidTests := true, laidLooks := .later }
def SealKeysCardSaid : Prop := Claim7.holds Tryd.pinned (.plain (OpenSpec.ofChange sealKeysSpec)) sealKeysCard

/-- THE TIED CARD OF 'heliastlaw05.SealJoin'. -/
def sealJoinCard : Claim7 := { stood := { row := sealJoinRow, standIns := [], harness := (true, "e5d4f312422e0dd7b2e2c6981743071a5b6d51ad5fd224d37613e21a3bd860d0"), looks := false }, kinds := [], alts := [], laidByText := true, laidKinds := [.data], laidTests := true, laidLooks := .later }
def SealJoinCardSaid : Prop := Claim7.holds Tryd.pinned (.plain (OpenSpec.ofChange sealJoinSpec)) sealJoinCard

/-- THE TIED CARD OF 'heliastlaw05.SealNamed'. -/
def sealNamedCard : Claim7 := { stood := { row := sealNamedRow, standIns := [], harness := (true, "e5d4f312422e0dd7b2e2c6981743071a5b6d51ad5fd224d37613e21a3bd860d0"), looks := false }, kinds := [], alts := [], laidByText := true, laidKinds := [.data], laidTests := true, laidLooks := .later }
def SealNamedCardSaid : Prop := Claim7.holds Tryd.pinned (.plain (OpenSpec.ofChange sealNamedSpec)) sealNamedCard

/-- THE TIED CARD OF 'heliastlaw05.SealEqual'. -/
def sealEqualCard : Claim7 := { stood := { row := sealEqualRow, standIns := [], harness := (true, "e5d4f312422e0dd7b2e2c6981743071a5b6d51ad5fd224d37613e21a3bd860d0"), looks := false }, kinds := [], alts := [], laidByText := true, laidKinds := [.data], laidTests := true, laidLooks := .later }
def SealEqualCardSaid : Prop := Claim7.holds Tryd.pinned (.plain (OpenSpec.ofChange sealEqualSpec)) sealEqualCard

/-- THE SECOND FORM's CARD OF 'heliastlaw05.SealMakes'. -/
def sealMakesUptoCard : Claim7 := { stood := { row := sealMakesUptoRow, standIns := [], harness := (true, "e5d4f312422e0dd7b2e2c6981743071a5b6d51ad5fd224d37613e21a3bd860d0"), looks := false }, kinds := [], alts := [], laidByText := true, laidKinds := [.data], laidTests := true, laidLooks := .later }
def SealMakesUptoCardSaid : Prop := Claim7.holds Tryd.pinned (.plain (OpenSpec.upto sealMakesSpec)) sealMakesUptoCard

/-- THE SECOND FORM's CARD OF 'heliastlaw05.SealBack'. -/
def sealBackUptoCard : Claim7 := { stood := { row := sealBackUptoRow, standIns := [], harness := (true, "e5d4f312422e0dd7b2e2c6981743071a5b6d51ad5fd224d37613e21a3bd860d0"), looks := false }, kinds := [], alts := [], laidByText := true, laidKinds := [.data], laidTests := true, laidLooks := .later }
def SealBackUptoCardSaid : Prop := Claim7.holds Tryd.pinned (.plain (OpenSpec.upto sealBackSpec)) sealBackUptoCard

/-- THE SECOND FORM's CARD OF 'heliastlaw05.SealSigns'. -/
def sealSignsUptoCard : Claim7 := { stood := { row := sealSignsUptoRow, standIns := [], harness := (true, "e5d4f312422e0dd7b2e2c6981743071a5b6d51ad5fd224d37613e21a3bd860d0"), looks := false }, kinds := [], alts := [], laidByText := true, laidKinds := [.data], laidTests := true, laidLooks := .later }
def SealSignsUptoCardSaid : Prop := Claim7.holds Tryd.pinned (.plain (OpenSpec.upto sealSignsSpec)) sealSignsUptoCard

/-- THE SECOND FORM's CARD OF 'heliastlaw05.SealKeys'. -/
def sealKeysUptoCard : Claim7 := { stood := { row := sealKeysUptoRow, standIns := [], harness := (true, "e5d4f312422e0dd7b2e2c6981743071a5b6d51ad5fd224d37613e21a3bd860d0"), looks := false }, kinds := [], alts := [], laidByText := true, laidKinds := [.data], laidTests := true, laidLooks := .later }
def SealKeysUptoCardSaid : Prop := Claim7.holds Tryd.pinned (.plain (OpenSpec.upto sealKeysSpec)) sealKeysUptoCard

/-- THE SECOND FORM's CARD OF 'heliastlaw05.SealJoin'. -/
def sealJoinUptoCard : Claim7 := { stood := { row := sealJoinUptoRow, standIns := [], harness := (true, "e5d4f312422e0dd7b2e2c6981743071a5b6d51ad5fd224d37613e21a3bd860d0"), looks := false }, kinds := [], alts := [], laidByText := true, laidKinds := [.data], laidTests := true, laidLooks := .later }
def SealJoinUptoCardSaid : Prop := Claim7.holds Tryd.pinned (.plain (OpenSpec.upto sealJoinSpec)) sealJoinUptoCard

/-- THE SECOND FORM's CARD OF 'heliastlaw05.SealNamed'. -/
def sealNamedUptoCard : Claim7 := { stood := { row := sealNamedUptoRow, standIns := [], harness := (true, "e5d4f312422e0dd7b2e2c6981743071a5b6d51ad5fd224d37613e21a3bd860d0"), looks := false }, kinds := [], alts := [], laidByText := true, laidKinds := [.data], laidTests := true, laidLooks := .later }
def SealNamedUptoCardSaid : Prop := Claim7.holds Tryd.pinned (.plain (OpenSpec.upto sealNamedSpec)) sealNamedUptoCard

/-- THE SECOND FORM's CARD OF 'heliastlaw05.SealEqual'. -/
def sealEqualUptoCard : Claim7 := { stood := { row := sealEqualUptoRow, standIns := [], harness := (true, "e5d4f312422e0dd7b2e2c6981743071a5b6d51ad5fd224d37613e21a3bd860d0"), looks := false }, kinds := [], alts := [], laidByText := true, laidKinds := [.data], laidTests := true, laidLooks := .later }
def SealEqualUptoCardSaid : Prop := Claim7.holds Tryd.pinned (.plain (OpenSpec.upto sealEqualSpec)) sealEqualUptoCard
end Rows
end Go.Proofs.YtfcbooagedjkfaaDoor
