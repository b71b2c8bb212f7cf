/-
  Values that came in: opened, at this program.
-/
import Derived.Test.YtaghkidelbepnaaOpP
import Derived.Test.YtaghkidelbepnaaDiA
import Derived.SizedLaws
set_option linter.unusedVariables false
set_option linter.unusedSimpArgs false
namespace Go.Proofs.Ytaghkidelbepnaa
open Go.ChangeShapes Go.WideShapes Go.ChangeAt Go.WideMaps Go.WideElems Go.RowKit Go.Deep
open Stp
open Di

/-- A value's reading. -/
def dV {H : Type} (x : V) : DataW H := .agg [.lit (.int .i64 x.1), .lit (.int .i64 x.2.1), .lit (.string x.2.2.data.toList)]
/-- The numbers of a value that came in. -/
structure Rv (x : V) : Prop where
  k : -9223372036854775808 ≤ x.1 ∧ x.1 ≤ 9223372036854775807
  n : -9223372036854775808 ≤ x.2.1 ∧ x.2.1 ≤ 9223372036854775807
set_option maxRecDepth 100000 in
theorem value_core {H : Type} {enc : TypeId × Value → H} {W : World} {fuel : Nat} {v0 v1 v2 : Value} {y : DataW H × List MemPlace} (hf : DataW.trod enc Try.prog W 0 (fun _ => true) true fuel 32 [v0, v1, v2] = some y) :
    ∃ x : V, (v0 = .int .i64 x.1 ∧ v1 = .int .i64 x.2.1 ∧ v2 = .string x.2.2) ∧ y.1 = dV x ∧ Rv x := by
  have c3 : Try.prog.cellsOf 3 = 1 := by kernel_rfl
  have c9 : Try.prog.cellsOf 9 = 1 := by kernel_rfl
  have cb : Try.prog.cellsOf 2 = 1 := by kernel_rfl
  obtain ⟨xs, k, hk, hxy, _, hxl, hff⟩ := DataW.trod_struct Try.underlying32 hf
  match xs, hxl with
  | [y0, y1, y2], _ =>
    have g0 := hff 0 _ rfl
    have g1 := hff 1 _ rfl
    have g2 := hff 2 _ rfl
    simp [c3, c9, cb] at g0 g1 g2
    obtain ⟨n0, q0, e0, hw0⟩ := DataW.trod_int Try.underlying3 g0
    obtain ⟨n1, q1, e1, hw1⟩ := DataW.trod_int Try.underlying2 g1
    obtain ⟨s2, q2, e2, hs2⟩ := DataW.trod_string Try.underlying9 g2
    cases q0
    cases q1
    cases q2
    subst e0 e1 e2
    exact ⟨(n0, n1, s2), ⟨rfl, rfl, rfl⟩, by rw [hxy]; rfl, wf_rng hw0, wf_rng hw1⟩
/-- A value that came in. -/
theorem value_in {H : Type} {enc : TypeId × Value → H} {W : World} {r : Reach} {b0 : Nat} {v : Value} {d : DataW H} {ps : List MemPlace} (hval : Value.okWide Try.prog W r b0 32 v) (h : DataW.Trod enc Try.prog W 0 (fun _ => true) true 32 v d ps) :
    ∃ x : V, v = vV x ∧ d = dV x ∧ Rv x := by
  obtain ⟨cs, rfl, hcs⟩ := okWide_struct Try.underlying32 hval
  rw [show Try.prog.cellsOf 32 = 3 by kernel_rfl] at hcs
  obtain ⟨fuel, hf⟩ := h
  obtain ⟨l⟩ := cs
  match l, hcs with
  | [v0, v1, v2], _ =>
    have e : (Value.agg #[v0, v1, v2]).cells.toList = [v0, v1, v2] := rfl
    rw [e] at hf
    obtain ⟨x, ⟨rfl, rfl, rfl⟩, hd, hr⟩ := value_core hf
    exact ⟨x, rfl, hd, hr⟩
/-- What an argument weighs is within a machine's reach. -/
theorem each_le {H : Type} {P : Program} {ts : List TypeId} {ds : List (DataW H)} (h : (DataW.weightsEach P ts ds).all (· ≤ reachBytes) = true) (j : Nat) {t : TypeId} {d : DataW H} (ht : ts[j]? = some t) (hd : ds[j]? = some d) : ∀ n ∈ d.weights P t, n ≤ reachBytes :=
  fun n hn => by simpa using List.all_eq_true.1 h n (DataW.weights_mem_each ht hd n hn)
theorem all_mem {H : Type} {P : Program} {e : TypeId} : ∀ {ds : List (DataW H)} {d : DataW H}, d ∈ ds → ∀ n ∈ d.weights P e, n ∈ DataW.weightsAll P e ds
  | d0 :: ds, d, hd, n, hn => by
    unfold DataW.weightsAll
    rcases List.mem_cons.1 hd with rfl | hd
    · exact List.mem_append_left _ hn
    · exact List.mem_append_right _ (all_mem hd n hn)
theorem vok_of {H : Type} {x : V} (hr : Rv x) (hw : ∀ n ∈ (dV x : DataW H).weights Try.prog 32, n ≤ reachBytes) : Vok x := by
  have h := hw x.2.2.data.toList.length (by unfold dV DataW.weights; rw [Try.underlying32]; simp [DataW.weightsEach, DataW.weights])
  rw [size_list] at h
  exact ⟨hr.k, hr.n, Nat.le_trans h (by decide)⟩
end Go.Proofs.Ytaghkidelbepnaa
