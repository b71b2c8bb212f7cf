/-
  DERIVED. GIVEN WITH THE SEED: THE CARDS: each row of YtbdjccmcdifjcaaGreatDoorRows.lean that lists a variable, with what it lists TIED to the program's text (the seventh form; the later family's looks); each row that meets fmt, with fmt's text TOLD by the authors' own Lean function (tested against real Go, not proved from fmt's source: count such statements apart). THE CARD IS WHAT COUNTS. Prove the row's statement (the work); the ties are given (YtbdjccmcdifjcaaGreatDoorTie.lean); close each card by the builder's one call (the guide's Derived/Test/ToyasCard.lean, 'card_holds'). Laid BY PROGRAM, IN A SANDBOX (cutbox-door.mjs). By AI agents, Wed Nov 11 2026. No macro, syntax, notation, axiom, sorry.
-/
import Derived.Test.YtbdjccmcdifjcaaGreatDoorRows
import GoSem.ClaimSeven
namespace Go.Proofs.YtbdjccmcdifjcaaGreatDoor
namespace Rows

/-- THE TIED CARD OF 'kraitlaw02.LayoutEmpty'. -/
def layoutEmptyCard : Claim7 := { stood := { row := layoutEmptyRow, standIns := [], harness := (true, "88ce31af55d7e15b8eb372d6691e0e677d11b1df154c7967afde70b805ca128e"), looks := true }, kinds := [], alts := [], laidByText := true, laidKinds := [.data, .data, .data, .data, .sentinel, .sentinel, .data, .pinned], laidTests := true, laidLooks := .later }
def LayoutEmptyCardSaid : Prop := Claim7.holds Tryz.pinned (.plain (OpenSpec.ofChange layoutEmptySpec)) layoutEmptyCard

/-- THE TIED CARD OF 'kraitlaw02.LayoutWider'. -/
def layoutWiderCard : Claim7 := { stood := { row := layoutWiderRow, standIns := [], harness := (true, "88ce31af55d7e15b8eb372d6691e0e677d11b1df154c7967afde70b805ca128e"), looks := true }, kinds := [], alts := [], laidByText := true, laidKinds := [.data, .data, .data, .data, .sentinel, .sentinel, .data, .pinned], laidTests := true, laidLooks := .later }
def LayoutWiderCardSaid : Prop := Claim7.holds Tryz.pinned (.plain (OpenSpec.ofChange layoutWiderSpec)) layoutWiderCard

/-- THE TIED CARD OF 'kraitlaw02.LayoutLines'. -/
def layoutLinesCard : Claim7 := { stood := { row := layoutLinesRow, standIns := [], harness := (true, "88ce31af55d7e15b8eb372d6691e0e677d11b1df154c7967afde70b805ca128e"), looks := true }, kinds := [], alts := [], laidByText := true, laidKinds := [.data, .data, .data, .data, .sentinel, .sentinel, .data, .pinned], laidTests := true, laidLooks := .later }
def LayoutLinesCardSaid : Prop := Claim7.holds Tryz.pinned (.plain (OpenSpec.ofChange layoutLinesSpec)) layoutLinesCard

/-- THE TIED CARD OF 'kraitlaw02.LayoutIndent'. -/
def layoutIndentCard : Claim7 := { stood := { row := layoutIndentRow, standIns := [], harness := (true, "88ce31af55d7e15b8eb372d6691e0e677d11b1df154c7967afde70b805ca128e"), looks := true }, kinds := [], alts := [], laidByText := true, laidKinds := [.data, .data, .data, .data, .sentinel, .sentinel, .data, .pinned], laidTests := true, laidLooks := .later }
def LayoutIndentCardSaid : Prop := Claim7.holds Tryz.pinned (.plain (OpenSpec.ofChange layoutIndentSpec)) layoutIndentCard

/-- THE TIED CARD OF 'kraitlaw02.LayoutWithin'. -/
def layoutWithinCard : Claim7 := { stood := { row := layoutWithinRow, standIns := [], harness := (true, "88ce31af55d7e15b8eb372d6691e0e677d11b1df154c7967afde70b805ca128e"), looks := true }, kinds := [], alts := [], laidByText := true, laidKinds := [.data, .data, .data, .data, .sentinel, .sentinel, .data, .pinned], laidTests := true, laidLooks := .later }
def LayoutWithinCardSaid : Prop := Claim7.holds Tryz.pinned (.plain (OpenSpec.ofChange layoutWithinSpec)) layoutWithinCard

/-- THE TIED CARD OF 'kraitlaw02.LayoutPart'. -/
def layoutPartCard : Claim7 := { stood := { row := layoutPartRow, standIns := [], harness := (true, "88ce31af55d7e15b8eb372d6691e0e677d11b1df154c7967afde70b805ca128e"), looks := true }, kinds := [], alts := [], laidByText := true, laidKinds := [.data, .data, .data, .data, .sentinel, .sentinel, .data, .pinned], laidTests := true, laidLooks := .later }
def LayoutPartCardSaid : Prop := Claim7.holds Tryz.pinned (.plain (OpenSpec.ofChange layoutPartSpec)) layoutPartCard

/-- THE TIED CARD OF 'kraitlaw02.LayoutTells'. -/
def layoutTellsCard : Claim7 := { stood := { row := layoutTellsRow, standIns := [], harness := (true, "88ce31af55d7e15b8eb372d6691e0e677d11b1df154c7967afde70b805ca128e"), looks := true }, kinds := [], alts := [], laidByText := true, laidKinds := [.data, .data, .data, .data, .sentinel, .sentinel, .data, .pinned], laidTests := true, laidLooks := .later }
def LayoutTellsCardSaid : Prop := Claim7.holds Tryz.pinned (.plain (OpenSpec.ofChange layoutTellsSpec)) layoutTellsCard

/-- THE TIED CARD OF 'kraitlaw02.LayoutOne'. -/
def layoutOneCard : Claim7 := { stood := { row := layoutOneRow, standIns := [], harness := (true, "88ce31af55d7e15b8eb372d6691e0e677d11b1df154c7967afde70b805ca128e"), looks := true }, kinds := [], alts := [], laidByText := true, laidKinds := [.data, .data, .data, .data, .sentinel, .sentinel, .data, .pinned], laidTests := true, laidLooks := .later }
def LayoutOneCardSaid : Prop := Claim7.holds Tryz.pinned (.plain (OpenSpec.ofChange layoutOneSpec)) layoutOneCard

/-- THE SECOND FORM's CARD OF 'kraitlaw02.LayoutEmpty'. -/
def layoutEmptyUptoCard : Claim7 := { stood := { row := layoutEmptyUptoRow, standIns := [], harness := (true, "88ce31af55d7e15b8eb372d6691e0e677d11b1df154c7967afde70b805ca128e"), looks := true }, kinds := [], alts := [], laidByText := true, laidKinds := [.data, .data, .data, .data, .sentinel, .sentinel, .data, .pinned], laidTests := true, laidLooks := .later }
def LayoutEmptyUptoCardSaid : Prop := Claim7.holds Tryz.pinned (.plain (OpenSpec.upto layoutEmptySpec)) layoutEmptyUptoCard

/-- THE SECOND FORM's CARD OF 'kraitlaw02.LayoutWider'. -/
def layoutWiderUptoCard : Claim7 := { stood := { row := layoutWiderUptoRow, standIns := [], harness := (true, "88ce31af55d7e15b8eb372d6691e0e677d11b1df154c7967afde70b805ca128e"), looks := true }, kinds := [], alts := [], laidByText := true, laidKinds := [.data, .data, .data, .data, .sentinel, .sentinel, .data, .pinned], laidTests := true, laidLooks := .later }
def LayoutWiderUptoCardSaid : Prop := Claim7.holds Tryz.pinned (.plain (OpenSpec.upto layoutWiderSpec)) layoutWiderUptoCard

/-- THE SECOND FORM's CARD OF 'kraitlaw02.LayoutLines'. -/
def layoutLinesUptoCard : Claim7 := { stood := { row := layoutLinesUptoRow, standIns := [], harness := (true, "88ce31af55d7e15b8eb372d6691e0e677d11b1df154c7967afde70b805ca128e"), looks := true }, kinds := [], alts := [], laidByText := true, laidKinds := [.data, .data, .data, .data, .sentinel, .sentinel, .data, .pinned], laidTests := true, laidLooks := .later }
def LayoutLinesUptoCardSaid : Prop := Claim7.holds Tryz.pinned (.plain (OpenSpec.upto layoutLinesSpec)) layoutLinesUptoCard

/-- THE SECOND FORM's CARD OF 'kraitlaw02.LayoutIndent'. -/
def layoutIndentUptoCard : Claim7 := { stood := { row := layoutIndentUptoRow, standIns := [], harness := (true, "88ce31af55d7e15b8eb372d6691e0e677d11b1df154c7967afde70b805ca128e"), looks := true }, kinds := [], alts := [], laidByText := true, laidKinds := [.data, .data, .data, .data, .sentinel, .sentinel, .data, .pinned], laidTests := true, laidLooks := .later }
def LayoutIndentUptoCardSaid : Prop := Claim7.holds Tryz.pinned (.plain (OpenSpec.upto layoutIndentSpec)) layoutIndentUptoCard

/-- THE SECOND FORM's CARD OF 'kraitlaw02.LayoutWithin'. -/
def layoutWithinUptoCard : Claim7 := { stood := { row := layoutWithinUptoRow, standIns := [], harness := (true, "88ce31af55d7e15b8eb372d6691e0e677d11b1df154c7967afde70b805ca128e"), looks := true }, kinds := [], alts := [], laidByText := true, laidKinds := [.data, .data, .data, .data, .sentinel, .sentinel, .data, .pinned], laidTests := true, laidLooks := .later }
def LayoutWithinUptoCardSaid : Prop := Claim7.holds Tryz.pinned (.plain (OpenSpec.upto layoutWithinSpec)) layoutWithinUptoCard

/-- THE SECOND FORM's CARD OF 'kraitlaw02.LayoutPart'. -/
def layoutPartUptoCard : Claim7 := { stood := { row := layoutPartUptoRow, standIns := [], harness := (true, "88ce31af55d7e15b8eb372d6691e0e677d11b1df154c7967afde70b805ca128e"), looks := true }, kinds := [], alts := [], laidByText := true, laidKinds := [.data, .data, .data, .data, .sentinel, .sentinel, .data, .pinned], laidTests := true, laidLooks := .later }
def LayoutPartUptoCardSaid : Prop := Claim7.holds Tryz.pinned (.plain (OpenSpec.upto layoutPartSpec)) layoutPartUptoCard

/-- THE SECOND FORM's CARD OF 'kraitlaw02.LayoutTells'. -/
def layoutTellsUptoCard : Claim7 := { stood := { row := layoutTellsUptoRow, standIns := [], harness := (true, "88ce31af55d7e15b8eb372d6691e0e677d11b1df154c7967afde70b805ca128e"), looks := true }, kinds := [], alts := [], laidByText := true, laidKinds := [.data, .data, .data, .data, .sentinel, .sentinel, .data, .pinned], laidTests := true, laidLooks := .later }
def LayoutTellsUptoCardSaid : Prop := Claim7.holds Tryz.pinned (.plain (OpenSpec.upto layoutTellsSpec)) layoutTellsUptoCard

/-- THE SECOND FORM's CARD OF 'kraitlaw02.LayoutOne'. -/
def layoutOneUptoCard : Claim7 := { stood := { row := layoutOneUptoRow, standIns := [], harness := (true, "88ce31af55d7e15b8eb372d6691e0e677d11b1df154c7967afde70b805ca128e"), looks := true }, kinds := [], alts := [], laidByText := true, laidKinds := [.data, .data, .data, .data, .sentinel, .sentinel, .data, .pinned], laidTests := true, laidLooks := .later }
def LayoutOneUptoCardSaid : Prop := Claim7.holds Tryz.pinned (.plain (OpenSpec.upto layoutOneSpec)) layoutOneUptoCard
end Rows
end Go.Proofs.YtbdjccmcdifjcaaGreatDoor
