/-
  Whether a text is a keyword or a name, at this program.
-/
import Derived.Test.YtkmmcphiijolkaaDoorW
set_option linter.unusedVariables false
set_option linter.unusedSimpArgs false
namespace Go.Proofs.YtkmmcphiijolkaaDoor
open Go.RowKit Go.Shelf

theorem Sp.toList_data (s : ByteArray) : s.toList = s.data.toList := by
  exact ByteArray.toList_eq s
set_option maxHeartbeats 4000000 in
set_option maxRecDepth 100000 in
theorem keyword_any (s : ByteArray) (w : World) : Calls Tryd.prog 74 #[.string s] w fun e w' => e = .returned (.bool (Sp.kw s.data.toList)) ∧ w = w' := by
  go_enter Tryd.func74, Tryd.ntmps74
  go_wp2
  all_goals
    go_ret
    refine ⟨ret_bool ?_, rfl⟩
    rw [← Sp.toList_data]
    simp only [Sp.kw, Sp.kws, List.contains_cons, List.contains_nil]
    simp_all only [Bool.true_or, Bool.or_true, Bool.false_or, Bool.or_false, Bool.false_eq_true, Bool.true_eq_false]
end Go.Proofs.YtkmmcphiijolkaaDoor
