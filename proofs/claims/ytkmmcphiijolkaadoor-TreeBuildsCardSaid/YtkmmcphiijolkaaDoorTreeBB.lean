/-
  Whether a tree is right, at this program: the map of tests put in.
-/
import Derived.Test.YtkmmcphiijolkaaDoorTreeN
import Derived.Test.YtkmmcphiijolkaaDoorTreeY
set_option linter.unusedVariables false
set_option linter.unusedSimpArgs false
namespace Go.Proofs.YtkmmcphiijolkaaDoor
open Go.RowKit Go.Shelf
open Tr

theorem right_ok : RightOk := fun v t w ha hl hin hwf => Right_of kinds_any v t w ha hl hin hwf
theorem awake_any (w : World) : Calls Tryd.prog 6 #[] w fun e w' => e = .returned (.bool true) ∧ Below w.heap.size w w' := awake_of right_ok w
end Go.Proofs.YtkmmcphiijolkaaDoor
