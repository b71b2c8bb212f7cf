/-
  So much added to all places of a row of tokens, at this program; and where the tokens of a line stand.
-/
import Derived.Test.YtbdjccmcdifjcaaGreatDoorNames
set_option linter.unusedVariables false
set_option linter.unusedSimpArgs false
namespace Go.Proofs.YtbdjccmcdifjcaaGreatDoor
open Go.RowKit Go.Shelf

/-- A token with so much added to its place. -/
def sh4 (by_ : Int) (x : T4) : T4 := (x.1, wrap64 (x.2.1 + by_), x.2.2.1, x.2.2.2)

end Go.Proofs.YtbdjccmcdifjcaaGreatDoor
