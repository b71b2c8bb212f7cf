/-
  TextFound of the text package: the law answers true for every input; no condition.
-/
import Derived.Test.YtcpjogjkjbillaaXwFound
import Derived.Test.YtcpjogjkjbillaaOpP
import Derived.Test.YtcpjogjkjbillaaTreeFF



set_option linter.unusedVariables false
set_option linter.unusedSimpArgs false
namespace Go.Proofs.Ytcpjogjkjbillaa
namespace lawTextFound
open Go.ChangeShapes Go.WideShapes Go.ChangeAt Go.WideMaps Go.WideElems Go.RowKit
open Go.ChangeMaps (open_string shut_string)


set_option maxRecDepth 100000 in
theorem lifted  (os : Os) (started : os.Started) (H : Type) (enc : TypeId × Value → H) :
    ReturnsInHanded {} Try.checked os 10 .any (fun w args => (Rows.textFoundSpec.pre enc Try.prog Try.f10 [] false w args ∧ True) ∧ sizedMet enc Try.prog Try.f10 (OpenSpec.ofChange Rows.textFoundSpec) false w args)
      (Rows.textFoundSpec.post enc Try.prog Try.f10 false true false false) := by
  refine handed_both (C := Try.checked) (X := fun _ _ => True) (fun _ _ _ _ h => h) own started (by kernel_rfl) Try.func10
    (ChangeSpec.witness_shaped (enc := enc) (C := Try.checked) (os := os) (X := fun _ _ => True) false (World.laidAll Try.prog os laidL) #[.string ⟨#[]⟩, .string ⟨#[]⟩] 8 (door_os os) (door_shaped os _) (by kernel_rfl) (by kernel_rfl) (by kernel_rfl) trivial) ?_
  intro W base args ds gs before hval0 hW _ hwt hL hsh _
  have hval : ∀ (j : Nat) t v, Try.f10.params[j]? = some t → args[j]? = some v → Value.okWide Try.prog W .any base t v := hval0
  have hW' := hW
  obtain ⟨p, q, hA0, hV, rfl, hfz, hnd⟩ := hW
  have hA : DataW.TrodAll enc Try.prog W 0 (fun _ => true) true Try.f10.params.toList args.toList ds p := hA0
  rw [Try.params10] at hA hval hwt
  obtain ⟨v0, v1, d0, d1, p0, p1, rfl, rfl, rfl, h0, h1⟩ := trodAll_two hA
  obtain ⟨rfl, rfl⟩ := trodVars_none hV
  obtain ⟨x0, rfl, rfl, rfl, w0⟩ := open_string Try.underlying9 (hval 0 9 v0 rfl rfl) h0
  obtain ⟨x1, rfl, rfl, rfl, w1⟩ := open_string Try.underlying9 (hval 1 9 v1 rfl rfl) h1
  have hwt2 : x0.size ≤ 140737488351232 ∧ x1.size ≤ 140737488351232 := by
    simp [DataW.weightsEach, DataW.weights, reachBytes] at hwt
    first | exact hwt | exact of_decide_eq_true hwt | exact ⟨of_decide_eq_true hwt.1, of_decide_eq_true hwt.2⟩ | exact ⟨of_decide_eq_true hwt.1, of_decide_eq_true hwt.2.1, of_decide_eq_true hwt.2.2⟩
  obtain ⟨z0, z1⟩ := hwt2
  clear hA0 hval0
  simp only [List.append_nil] at hW'
  refine (walk  x0 x1 W z0 z1).mono fun e W' ⟨he, hb⟩ => ?_
  subst he
  exact ⟨_, rfl, post_true hW' (by kernel_rfl) rfl rfl rfl rfl (fun sp _ => trodAll_mk2 (shut_string Try.underlying9 w0) (shut_string Try.underlying9 w1)) hb⟩

theorem row_holds  : Rows.TextFoundSaid :=
  OpenClaim.holds_of_wide 10 Try.f10 rfl rfl rfl rfl rfl rfl rfl ⟨rfl, rfl, rfl, rfl, rfl⟩ rfl rfl rfl rfl rfl (by kernel_rfl) Try.func10 (by kernel_rfl)
    (of_decide_eq_true (by kernel_rfl)) (by unfold Func.isWrapper; first | (rw [if_pos (by decide +kernel)]; kernel_rfl) | (rw [if_neg (by decide +kernel)]; exact ⟨rfl, rfl⟩))
    (fun os started H enc _ => by have h := lifted  os started H enc; simp only [and_true] at h; exact h)

end lawTextFound
end Go.Proofs.Ytcpjogjkjbillaa
