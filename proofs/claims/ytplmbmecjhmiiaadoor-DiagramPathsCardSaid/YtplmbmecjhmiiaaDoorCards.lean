/-
  DERIVED. GIVEN WITH THE SEED: THE CARDS: each row of YtplmbmecjhmiiaaDoorRows.lean that lists a variable, with what it lists TIED to the program's text (the seventh form; the later family's looks); each row that meets fmt, with fmt's text TOLD by the authors' own Lean function (tested against real Go, not proved from fmt's source: count such statements apart). THE CARD IS WHAT COUNTS. Prove the row's statement (the work); the ties are given (YtplmbmecjhmiiaaDoorTie.lean); close each card by the builder's one call (the guide's Derived/Test/ToyasCard.lean, 'card_holds'). Laid BY PROGRAM, IN A SANDBOX (cutbox-door.mjs). By AI agents, Wed Nov 11 2026. No macro, syntax, notation, axiom, sorry.
-/
import Derived.Test.YtplmbmecjhmiiaaDoorRows
import GoSem.ClaimSeven
namespace Go.Proofs.YtplmbmecjhmiiaaDoor
namespace Rows

/-- THE TIED CARD OF 'semtypelaw6.DiagramPaths'. -/
def diagramPathsCard : Claim7 := { stood := { row := diagramPathsRow, standIns := [], harness := (true, "ce62d058153bfc0791287e53c00583a001d748f1b92723600b5ae32b2db59bc2"), looks := false }, kinds := [], alts := [], laidByText := true, laidKinds := [.data, .data], laidTests := true, laidLooks := .later }
def DiagramPathsCardSaid : Prop := Claim7.holds Tryd.pinned (.plain (OpenSpec.ofChange diagramPathsSpec)) diagramPathsCard

/-- THE SECOND FORM's CARD OF 'semtypelaw6.DiagramPaths'. -/
def diagramPathsUptoCard : Claim7 := { stood := { row := diagramPathsUptoRow, standIns := [], harness := (true, "ce62d058153bfc0791287e53c00583a001d748f1b92723600b5ae32b2db59bc2"), looks := false }, kinds := [], alts := [], laidByText := true, laidKinds := [.data, .data], laidTests := true, laidLooks := .later }
def DiagramPathsUptoCardSaid : Prop := Claim7.holds Tryd.pinned (.plain (OpenSpec.upto diagramPathsSpec)) diagramPathsUptoCard
end Rows
end Go.Proofs.YtplmbmecjhmiiaaDoor
