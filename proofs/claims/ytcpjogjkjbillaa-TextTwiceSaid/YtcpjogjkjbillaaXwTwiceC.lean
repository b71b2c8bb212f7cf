/-
  TextTwice of the text package: the law answers true for every input; no condition.
-/
import Derived.Test.YtcpjogjkjbillaaXwTwice
import Derived.Test.YtcpjogjkjbillaaOpP
import Derived.Test.YtcpjogjkjbillaaTreeFF



set_option linter.unusedVariables false
set_option linter.unusedSimpArgs false
namespace Go.Proofs.Ytcpjogjkjbillaa
namespace lawTextTwice
open Go.ChangeShapes Go.WideShapes Go.ChangeAt Go.WideMaps Go.WideElems Go.RowKit
open Go.ChangeMaps (open_string shut_string)


set_option maxRecDepth 100000 in
theorem lifted  (os : Os) (started : os.Started) (H : Type) (enc : TypeId × Value → H) :
    ReturnsInHanded {} Try.checked os 12 .any (fun w args => (Rows.textTwiceSpec.pre enc Try.prog Try.f12 [] false w args ∧ True) ∧ sizedMet enc Try.prog Try.f12 (OpenSpec.ofChange Rows.textTwiceSpec) false w args)
      (Rows.textTwiceSpec.post enc Try.prog Try.f12 false true false false) := by
  refine handed_both (C := Try.checked) (X := fun _ _ => True) (fun _ _ _ _ h => h) own started (by kernel_rfl) Try.func12
    (ChangeSpec.witness_shaped (enc := enc) (C := Try.checked) (os := os) (X := fun _ _ => True) false (World.laidAll Try.prog os laidL) #[.string ⟨#[]⟩, .int .i64 0, .int .i64 0] 8 (door_os os) (door_shaped os _) (by kernel_rfl) (by kernel_rfl) (by kernel_rfl) trivial) ?_
  intro W base args ds gs before hval0 hW _ hwt hL hsh _
  have hval : ∀ (j : Nat) t v, Try.f12.params[j]? = some t → args[j]? = some v → Value.okWide Try.prog W .any base t v := hval0
  have hW' := hW
  obtain ⟨p, q, hA0, hV, rfl, hfz, hnd⟩ := hW
  have hA : DataW.TrodAll enc Try.prog W 0 (fun _ => true) true Try.f12.params.toList args.toList ds p := hA0
  rw [Try.params12] at hA hval hwt
  obtain ⟨v0, v1, v2, d0, d1, d2, p0, p1, p2, rfl, rfl, rfl, h0, h1, h2⟩ := trodAll_three hA
  obtain ⟨rfl, rfl⟩ := trodVars_none hV
  obtain ⟨x0, rfl, rfl, rfl, w0⟩ := open_string Try.underlying9 (hval 0 9 v0 rfl rfl) h0
  obtain ⟨x1, rfl, rfl, rfl, w1⟩ := open_int Try.underlying2 (hval 1 2 v1 rfl rfl) h1
  obtain ⟨x2, rfl, rfl, rfl, w2⟩ := open_int Try.underlying2 (hval 2 2 v2 rfl rfl) h2
  have hwt2 : x0.size ≤ 140737488351232 := by
    simp [DataW.weightsEach, DataW.weights, reachBytes] at hwt
    first | exact hwt | exact of_decide_eq_true hwt | exact ⟨of_decide_eq_true hwt.1, of_decide_eq_true hwt.2⟩ | exact ⟨of_decide_eq_true hwt.1, of_decide_eq_true hwt.2.1, of_decide_eq_true hwt.2.2⟩
  have z0 := hwt2
  clear hA0 hval0
  simp only [List.append_nil] at hW'
  refine (walk  x0 x1 x2 W z0 (wf_rng w1) (wf_rng w2)).mono fun e W' ⟨he, hb⟩ => ?_
  subst he
  exact ⟨_, rfl, post_true hW' (by kernel_rfl) rfl rfl rfl rfl (fun sp _ => trodAll_mk3 (shut_string Try.underlying9 w0) (shut_int Try.underlying2 w1) (shut_int Try.underlying2 w2)) hb⟩

theorem row_holds  : Rows.TextTwiceSaid :=
  OpenClaim.holds_of_wide 12 Try.f12 rfl rfl rfl rfl rfl rfl rfl ⟨rfl, rfl, rfl, rfl, rfl⟩ rfl rfl rfl rfl rfl (by kernel_rfl) Try.func12 (by kernel_rfl)
    (of_decide_eq_true (by kernel_rfl)) (by unfold Func.isWrapper; first | (rw [if_pos (by decide +kernel)]; kernel_rfl) | (rw [if_neg (by decide +kernel)]; exact ⟨rfl, rfl⟩))
    (fun os started H enc _ => by have h := lifted  os started H enc; simp only [and_true] at h; exact h)

end lawTextTwice
end Go.Proofs.Ytcpjogjkjbillaa
