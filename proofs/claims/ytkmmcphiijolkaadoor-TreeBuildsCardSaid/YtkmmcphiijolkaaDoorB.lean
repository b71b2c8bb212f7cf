/-
  What the three writing methods of a text's builder do, at this program.
-/
import Derived.Test.YtkmmcphiijolkaaDoorShelf
import Derived.Test.YtkmmcphiijolkaaDoorSpec
import Derived.WalkKit
import Derived.BigCall
import Derived.WalkSpells
import Derived.WalkLawsBesides
set_option linter.unusedVariables false
namespace Go.Proofs.YtkmmcphiijolkaaDoor
open Go.RowKit Go.Shelf

theorem infoByte : (Tryd.prog.info? 5).map (fun i => (i.zero, i.size, i.bytes)) = some (some (.int .u8 0), 1, 1) := by kernel_rfl

end Go.Proofs.YtkmmcphiijolkaaDoor
