/-
  TextLists of the text package, where what it reads is of bulk at most 1048576: the law answers true; no other condition.
-/
import Derived.Test.YtcpjogjkjbillaaXwLists
import Derived.Test.YtcpjogjkjbillaaOpS
import Derived.Test.YtcpjogjkjbillaaTreeFF
import Derived.Deep.CondSized
set_option linter.unusedVariables false
set_option linter.unusedSimpArgs false
namespace Go.Proofs.Ytcpjogjkjbillaa
namespace lawTextLists
open Go.ChangeShapes Go.WideShapes Go.ChangeAt Go.WideMaps Go.WideElems Go.RowKit
open Go.ChangeMaps (open_string shut_string)
open Stp

theorem bulk_all {H : Type} : ∀ (l : List Tx.Bs) (y : Tx.Bs), y ∈ l → y.length ≤ Rows.uptoBulkAll (l.map fun x => (DataW.lit (.string x) : DataW H))
  | [], y, h => by cases h
  | a :: r, y, h => by
    simp only [List.map_cons, Rows.uptoBulkAll, Rows.uptoBulk]
    rcases List.mem_cons.1 h with rfl | h
    · omega
    · have := bulk_all (H := H) r y h; omega
set_option maxRecDepth 100000 in
theorem lifted (os : Os) (started : os.Started) (H : Type) (enc : TypeId × Value → H) (F : Stop.Interp) :
    ReturnsInHanded {} Try.checked os 5 .any ((Rows.OpenSpec.upto Rows.textListsSpec).pre6 enc Try.prog Try.f5 Rows.textListsUptoRow.domain false) (((Rows.OpenSpec.upto Rows.textListsSpec).at F).post enc Try.prog Try.f5 false true false false) := by
  refine returnsInHanded_of_cond_sized (C := Try.checked) (s := Rows.OpenSpec.upto Rows.textListsSpec) (k := Rows.uptoSmall) rfl own started (by kernel_rfl) Try.func5
    (OpenSpec.witness (enc := enc) (C := Try.checked) (s := Rows.OpenSpec.upto Rows.textListsSpec) (k := Rows.uptoSmall) rfl false ⟨#[], #[.string ⟨#[]⟩, .slice none 0 0], []⟩ 8 (by kernel_rfl) (by kernel_rfl) (by kernel_rfl)
      (x := ([.lit (.string []), .nil], [], [])) (by kernel_rfl) rfl (by kernel_rfl)) ?_
  intro W base args ds gs before hval0 hW _ hk hwt _
  show Calls Try.prog 5 args W fun e W' => ∃ v, e = .returned v ∧ Rows.textListsSpec.post enc Try.prog Try.f5 false true false false W args v W'
  have hval : ∀ (j : Nat) t v, Try.f5.params[j]? = some t → args[j]? = some v → Value.okWide Try.prog W .any base t v := hval0
  have hW' := hW
  obtain ⟨p, q, hA0, hV, rfl, hfz, hnd⟩ := hW
  have hA : DataW.TrodAll enc Try.prog W 0 (fun _ => true) true Try.f5.params.toList args.toList ds p := hA0
  rw [Try.params5] at hA hval hwt
  obtain ⟨v0, v1, d0, d1, p0, p1, rfl, rfl, rfl, h0, h1⟩ := trodAll_two hA
  obtain ⟨rfl, rfl⟩ := trodVars_none hV
  obtain ⟨x0, rfl, rfl, rfl, w0⟩ := open_string Try.underlying9 (hval 0 9 v0 rfl rfl) h0
  have h1k := h1
  obtain ⟨x1, a1, b1⟩ := strs_in (hval 1 31 v1 rfl rfl) h1
  have hb0 := of_decide_eq_true hk
  simp only [List.append_nil, Rows.uptoBulkAll, Rows.uptoBulk] at hb0
  have hz0 : x0.size ≤ 1048576 := by
    have : x0.size = x0.data.toList.length := by simp
    omega
  have hz1 : ∀ y ∈ x1, y.length ≤ 1048576 := by
    intro y hy
    rcases b1 with rfl | ⟨spare, rfl⟩
    · cases hy
    · simp only [Rows.uptoBulk] at hb0
      have := bulk_all (H := H) x1 y hy
      omega
  clear hA0 hval0
  simp only [List.append_nil] at hW'
  refine (walk x0 x1 v1 W hz0 hz1 a1).mono fun e W' ⟨he, hb⟩ => ?_
  subst he
  have hlt : ∀ x ∈ p1, x.block < W.heap.size := fun x hx => hW'.lt x (by simpa using hx)
  exact ⟨_, rfl, post_true_at hW' (by kernel_rfl) rfl rfl rfl rfl (by have h := trodAll_mk2 (shut_string Try.underlying9 w0) (Below.trod laidOut (by kernel_rfl) (of_decide_eq_true (by kernel_rfl)) h1k hb (fun x hx => hlt x (by simp [hx]))); (try simp only [List.append_nil, List.nil_append] at h); first | exact h | (rw [← List.append_assoc] at h; exact h)) hb⟩
theorem row_upto : Rows.TextListsUptoSaid :=
  OpenClaim.holds_of_cond 5 Try.f5 rfl rfl rfl rfl rfl rfl rfl ⟨rfl, rfl, rfl, rfl, rfl⟩ rfl rfl rfl rfl rfl (by kernel_rfl) Try.func5 (by kernel_rfl)
    (of_decide_eq_true (by kernel_rfl)) (by unfold Func.isWrapper; first | (rw [if_pos (by decide +kernel)]; kernel_rfl) | (rw [if_neg (by decide +kernel)]; exact ⟨rfl, rfl⟩))
    (fun os started H enc _ F => lifted os started H enc F)
end lawTextLists
end Go.Proofs.Ytcpjogjkjbillaa
