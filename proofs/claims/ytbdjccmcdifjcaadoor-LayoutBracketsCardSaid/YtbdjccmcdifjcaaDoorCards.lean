/-
  DERIVED. GIVEN WITH THE SEED: THE CARDS: each row of YtbdjccmcdifjcaaDoorRows.lean that lists a variable, with what it lists TIED to the program's text (the seventh form; the later family's looks); each row that meets fmt, with fmt's text TOLD by the authors' own Lean function (tested against real Go, not proved from fmt's source: count such statements apart). THE CARD IS WHAT COUNTS. Prove the row's statement (the work); the ties are given (YtbdjccmcdifjcaaDoorTie.lean); close each card by the builder's one call (the guide's Derived/Test/ToyasCard.lean, 'card_holds'). Laid BY PROGRAM, IN A SANDBOX (cutbox-door.mjs). By AI agents, Wed Nov 11 2026. No macro, syntax, notation, axiom, sorry.
-/
import Derived.Test.YtbdjccmcdifjcaaDoorRows
import GoSem.ClaimSeven
namespace Go.Proofs.YtbdjccmcdifjcaaDoor
namespace Rows

/-- THE TIED CARD OF 'kraitlaw02.LayoutBrackets'. -/
def layoutBracketsCard : Claim7 := { stood := { row := layoutBracketsRow, standIns := [], harness := (true, "9e2f2865c2b35666b4b7e03e67f2e52d051f47dd26d53cf38284db5f9dfb52e5"), looks := true }, kinds := [], alts := [], laidByText := true, laidKinds := [.data, .data, .data, .data, .sentinel, .sentinel, .data, .pinned], laidTests := true, laidLooks := .later }
def LayoutBracketsCardSaid : Prop := Claim7.holds Tryd.pinned (.plain (OpenSpec.ofChange layoutBracketsSpec)) layoutBracketsCard

/-- THE TIED CARD OF 'kraitlaw02.LayoutBlocks'. -/
def layoutBlocksCard : Claim7 := { stood := { row := layoutBlocksRow, standIns := [], harness := (true, "9e2f2865c2b35666b4b7e03e67f2e52d051f47dd26d53cf38284db5f9dfb52e5"), looks := true }, kinds := [], alts := [], laidByText := true, laidKinds := [.data, .data, .data, .data, .sentinel, .sentinel, .data, .pinned], laidTests := true, laidLooks := .later }
def LayoutBlocksCardSaid : Prop := Claim7.holds Tryd.pinned (.plain (OpenSpec.ofChange layoutBlocksSpec)) layoutBlocksCard

/-- THE TIED CARD OF 'kraitlaw02.LayoutPlaces'. -/
def layoutPlacesCard : Claim7 := { stood := { row := layoutPlacesRow, standIns := [], harness := (true, "9e2f2865c2b35666b4b7e03e67f2e52d051f47dd26d53cf38284db5f9dfb52e5"), looks := true }, kinds := [], alts := [], laidByText := true, laidKinds := [.data, .data, .data, .data, .sentinel, .sentinel, .data, .pinned], laidTests := true, laidLooks := .later }
def LayoutPlacesCardSaid : Prop := Claim7.holds Tryd.pinned (.plain (OpenSpec.ofChange layoutPlacesSpec)) layoutPlacesCard

/-- THE SECOND FORM's CARD OF 'kraitlaw02.LayoutBrackets'. -/
def layoutBracketsUptoCard : Claim7 := { stood := { row := layoutBracketsUptoRow, standIns := [], harness := (true, "9e2f2865c2b35666b4b7e03e67f2e52d051f47dd26d53cf38284db5f9dfb52e5"), looks := true }, kinds := [], alts := [], laidByText := true, laidKinds := [.data, .data, .data, .data, .sentinel, .sentinel, .data, .pinned], laidTests := true, laidLooks := .later }
def LayoutBracketsUptoCardSaid : Prop := Claim7.holds Tryd.pinned (.plain (OpenSpec.upto layoutBracketsSpec)) layoutBracketsUptoCard

/-- THE SECOND FORM's CARD OF 'kraitlaw02.LayoutBlocks'. -/
def layoutBlocksUptoCard : Claim7 := { stood := { row := layoutBlocksUptoRow, standIns := [], harness := (true, "9e2f2865c2b35666b4b7e03e67f2e52d051f47dd26d53cf38284db5f9dfb52e5"), looks := true }, kinds := [], alts := [], laidByText := true, laidKinds := [.data, .data, .data, .data, .sentinel, .sentinel, .data, .pinned], laidTests := true, laidLooks := .later }
def LayoutBlocksUptoCardSaid : Prop := Claim7.holds Tryd.pinned (.plain (OpenSpec.upto layoutBlocksSpec)) layoutBlocksUptoCard

/-- THE SECOND FORM's CARD OF 'kraitlaw02.LayoutPlaces'. -/
def layoutPlacesUptoCard : Claim7 := { stood := { row := layoutPlacesUptoRow, standIns := [], harness := (true, "9e2f2865c2b35666b4b7e03e67f2e52d051f47dd26d53cf38284db5f9dfb52e5"), looks := true }, kinds := [], alts := [], laidByText := true, laidKinds := [.data, .data, .data, .data, .sentinel, .sentinel, .data, .pinned], laidTests := true, laidLooks := .later }
def LayoutPlacesUptoCardSaid : Prop := Claim7.holds Tryd.pinned (.plain (OpenSpec.upto layoutPlacesSpec)) layoutPlacesUptoCard
end Rows
end Go.Proofs.YtbdjccmcdifjcaaDoor
