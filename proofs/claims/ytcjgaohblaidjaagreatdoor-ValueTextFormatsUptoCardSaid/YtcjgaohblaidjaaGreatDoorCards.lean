/-
  DERIVED. GIVEN WITH THE SEED: THE CARDS: each row of YtcjgaohblaidjaaGreatDoorRows.lean that lists a variable, with what it lists TIED to the program's text (the seventh form; the later family's looks); each row that meets fmt, with fmt's text TOLD by the authors' own Lean function (tested against real Go, not proved from fmt's source: count such statements apart). THE CARD IS WHAT COUNTS. Prove the row's statement (the work); the ties are given (YtcjgaohblaidjaaGreatDoorTie.lean); close each card by the builder's one call (the guide's Derived/Test/ToyasCard.lean, 'card_holds'). Laid BY PROGRAM, IN A SANDBOX (cutbox-door.mjs). By AI agents, Wed Nov 11 2026. No macro, syntax, notation, axiom, sorry.
-/
import Derived.Test.YtcjgaohblaidjaaGreatDoorRows
import GoSem.ClaimSeven
namespace Go.Proofs.YtcjgaohblaidjaaGreatDoor
namespace Rows

/-- THE TIED CARD OF 'semtypelaw5.ValueTextFormats'. -/
def valueTextFormatsCard : Claim7 := { stood := { row := valueTextFormatsRow, standIns := [], harness := (true, "03fce136d250fc22307b4d40da8a7612eae33163822c9a803e07b2bd2d94057a"), looks := true }, kinds := [], alts := [], laidByText := true, laidKinds := [.data, .data, .data, .sentinel, .sentinel, .sentinel], laidTests := true, laidLooks := .later }
def ValueTextFormatsCardSaid : Prop := Claim7.holds Tryz.pinned (.plain (OpenSpec.ofChange valueTextFormatsSpec)) valueTextFormatsCard

/-- THE TIED CARD OF 'semtypelaw5.ValueTextBack'. -/
def valueTextBackCard : Claim7 := { stood := { row := valueTextBackRow, standIns := [], harness := (true, "03fce136d250fc22307b4d40da8a7612eae33163822c9a803e07b2bd2d94057a"), looks := true }, kinds := [], alts := [], laidByText := true, laidKinds := [.data, .data, .data, .sentinel, .sentinel, .sentinel], laidTests := true, laidLooks := .later }
def ValueTextBackCardSaid : Prop := Claim7.holds Tryz.pinned (.plain (OpenSpec.ofChange valueTextBackSpec)) valueTextBackCard

/-- THE TIED CARD OF 'semtypelaw5.ValueTextParses'. -/
def valueTextParsesCard : Claim7 := { stood := { row := valueTextParsesRow, standIns := [], harness := (true, "03fce136d250fc22307b4d40da8a7612eae33163822c9a803e07b2bd2d94057a"), looks := true }, kinds := [], alts := [], laidByText := true, laidKinds := [.data, .data, .data, .sentinel, .sentinel, .sentinel], laidTests := true, laidLooks := .later }
def ValueTextParsesCardSaid : Prop := Claim7.holds Tryz.pinned (.plain (OpenSpec.ofChange valueTextParsesSpec)) valueTextParsesCard

/-- THE TIED CARD OF 'semtypelaw5.ValueTextUnlike'. -/
def valueTextUnlikeCard : Claim7 := { stood := { row := valueTextUnlikeRow, standIns := [], harness := (true, "03fce136d250fc22307b4d40da8a7612eae33163822c9a803e07b2bd2d94057a"), looks := true }, kinds := [], alts := [], laidByText := true, laidKinds := [.data, .data, .data, .sentinel, .sentinel, .sentinel], laidTests := true, laidLooks := .later }
def ValueTextUnlikeCardSaid : Prop := Claim7.holds Tryz.pinned (.plain (OpenSpec.ofChange valueTextUnlikeSpec)) valueTextUnlikeCard

/-- THE SECOND FORM's CARD OF 'semtypelaw5.ValueTextFormats'. -/
def valueTextFormatsUptoCard : Claim7 := { stood := { row := valueTextFormatsUptoRow, standIns := [], harness := (true, "03fce136d250fc22307b4d40da8a7612eae33163822c9a803e07b2bd2d94057a"), looks := true }, kinds := [], alts := [], laidByText := true, laidKinds := [.data, .data, .data, .sentinel, .sentinel, .sentinel], laidTests := true, laidLooks := .later }
def ValueTextFormatsUptoCardSaid : Prop := Claim7.holds Tryz.pinned (.plain (OpenSpec.upto valueTextFormatsSpec)) valueTextFormatsUptoCard

/-- THE SECOND FORM's CARD OF 'semtypelaw5.ValueTextBack'. -/
def valueTextBackUptoCard : Claim7 := { stood := { row := valueTextBackUptoRow, standIns := [], harness := (true, "03fce136d250fc22307b4d40da8a7612eae33163822c9a803e07b2bd2d94057a"), looks := true }, kinds := [], alts := [], laidByText := true, laidKinds := [.data, .data, .data, .sentinel, .sentinel, .sentinel], laidTests := true, laidLooks := .later }
def ValueTextBackUptoCardSaid : Prop := Claim7.holds Tryz.pinned (.plain (OpenSpec.upto valueTextBackSpec)) valueTextBackUptoCard

/-- THE SECOND FORM's CARD OF 'semtypelaw5.ValueTextParses'. -/
def valueTextParsesUptoCard : Claim7 := { stood := { row := valueTextParsesUptoRow, standIns := [], harness := (true, "03fce136d250fc22307b4d40da8a7612eae33163822c9a803e07b2bd2d94057a"), looks := true }, kinds := [], alts := [], laidByText := true, laidKinds := [.data, .data, .data, .sentinel, .sentinel, .sentinel], laidTests := true, laidLooks := .later }
def ValueTextParsesUptoCardSaid : Prop := Claim7.holds Tryz.pinned (.plain (OpenSpec.upto valueTextParsesSpec)) valueTextParsesUptoCard

/-- THE SECOND FORM's CARD OF 'semtypelaw5.ValueTextUnlike'. -/
def valueTextUnlikeUptoCard : Claim7 := { stood := { row := valueTextUnlikeUptoRow, standIns := [], harness := (true, "03fce136d250fc22307b4d40da8a7612eae33163822c9a803e07b2bd2d94057a"), looks := true }, kinds := [], alts := [], laidByText := true, laidKinds := [.data, .data, .data, .sentinel, .sentinel, .sentinel], laidTests := true, laidLooks := .later }
def ValueTextUnlikeUptoCardSaid : Prop := Claim7.holds Tryz.pinned (.plain (OpenSpec.upto valueTextUnlikeSpec)) valueTextUnlikeUptoCard
end Rows
end Go.Proofs.YtcjgaohblaidjaaGreatDoor
