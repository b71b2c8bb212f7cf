/-
  Whether a text is a keyword or a name, at this program.
-/
import Derived.Test.YtbdjccmcdifjcaaGreatDoorW
set_option linter.unusedVariables false
set_option linter.unusedSimpArgs false
namespace Go.Proofs.YtbdjccmcdifjcaaGreatDoor
open Go.RowKit Go.Shelf

theorem Sp.toList_data (s : ByteArray) : s.toList = s.data.toList := by
  exact ByteArray.toList_eq s
end Go.Proofs.YtbdjccmcdifjcaaGreatDoor
