/-
  DictFull of the dict package: the law answers true for every input; no condition.
-/
import Derived.Test.YtaghkidelbepnaaDwFull
import Derived.Test.YtaghkidelbepnaaOpP
import Derived.Test.YtaghkidelbepnaaTreeFF
import Derived.Test.YtaghkidelbepnaaDcZ



set_option linter.unusedVariables false
set_option linter.unusedSimpArgs false
namespace Go.Proofs.Ytaghkidelbepnaa
namespace lawDictFull
open Go.ChangeShapes Go.WideShapes Go.ChangeAt Go.WideMaps Go.WideElems Go.RowKit
open Go.ChangeMaps (open_string shut_string)


set_option maxRecDepth 100000 in
theorem lifted  (os : Os) (started : os.Started) (H : Type) (enc : TypeId × Value → H) :
    ReturnsInHanded {} Try.checked os 9 .any (fun w args => (Rows.dictFullSpec.pre enc Try.prog Try.f9 [] false w args ∧ True) ∧ sizedMet enc Try.prog Try.f9 (OpenSpec.ofChange Rows.dictFullSpec) false w args)
      (Rows.dictFullSpec.post enc Try.prog Try.f9 false true false false) := by
  refine handed_both (C := Try.checked) (X := fun _ _ => True) (fun _ _ _ _ h => h) own started (by kernel_rfl) Try.func9
    (ChangeSpec.witness_shaped (enc := enc) (C := Try.checked) (os := os) (X := fun _ _ => True) false (World.laidAll Try.prog os laidL) #[.int .u8 0, .int .u16 0] 8 (door_os os) (door_shaped os _) (by kernel_rfl) (by kernel_rfl) (by kernel_rfl) trivial) ?_
  intro W base args ds gs before hval0 hW _ hwt hL hsh _
  have hval : ∀ (j : Nat) t v, Try.f9.params[j]? = some t → args[j]? = some v → Value.okWide Try.prog W .any base t v := hval0
  have hW' := hW
  obtain ⟨p, q, hA0, hV, rfl, hfz, hnd⟩ := hW
  have hA : DataW.TrodAll enc Try.prog W 0 (fun _ => true) true Try.f9.params.toList args.toList ds p := hA0
  rw [Try.params9] at hA hval hwt
  obtain ⟨v0, v1, d0, d1, p0, p1, rfl, rfl, rfl, h0, h1⟩ := trodAll_two hA
  obtain ⟨rfl, rfl⟩ := trodVars_none hV
  obtain ⟨y0, rfl, rfl, rfl, w0⟩ := open_int Try.underlying5 (hval 0 5 v0 rfl rfl) h0
  have q0 : 0 ≤ y0 ∧ y0 < 256 := by have h := w0; simp [Lit.wf, IntKind.min, IntKind.max, IntKind.bits, IntKind.signed] at h; omega
  obtain ⟨x0, hx0⟩ : ∃ x : Nat, y0 = (x : Int) := ⟨y0.toNat, (Int.toNat_of_nonneg q0.1).symm⟩
  subst hx0
  obtain ⟨y1, rfl, rfl, rfl, w1⟩ := open_int Try.underlying62 (hval 1 62 v1 rfl rfl) h1
  have q1 : 0 ≤ y1 ∧ y1 < 65536 := by have h := w1; simp [Lit.wf, IntKind.min, IntKind.max, IntKind.bits, IntKind.signed] at h; omega
  obtain ⟨x1, hx1⟩ : ∃ x : Nat, y1 = (x : Int) := ⟨y1.toNat, (Int.toNat_of_nonneg q1.1).symm⟩
  subst hx1
  have o0 : x0 < 256 := by omega
  have o1 : x1 < 65536 := by omega
  clear hA0 hval0
  simp only [List.append_nil] at hW'
  refine (walk dictI o0 o1).mono fun e W' ⟨he, hb⟩ => ?_
  subst he
  exact ⟨_, rfl, post_true hW' (by kernel_rfl) rfl rfl rfl rfl (fun sp _ => trodAll_mk2 (shut_int Try.underlying5 w0) (shut_int Try.underlying62 w1)) hb⟩

theorem row_holds  : Rows.DictFullSaid :=
  OpenClaim.holds_of_wide 9 Try.f9 rfl rfl rfl rfl rfl rfl rfl ⟨rfl, rfl, rfl, rfl, rfl⟩ rfl rfl rfl rfl rfl (by kernel_rfl) Try.func9 (by kernel_rfl)
    (of_decide_eq_true (by kernel_rfl)) (by unfold Func.isWrapper; first | (rw [if_pos (by decide +kernel)]; kernel_rfl) | (rw [if_neg (by decide +kernel)]; exact ⟨rfl, rfl⟩))
    (fun os started H enc _ => by have h := lifted  os started H enc; simp only [and_true] at h; exact h)

end lawDictFull
end Go.Proofs.Ytaghkidelbepnaa
