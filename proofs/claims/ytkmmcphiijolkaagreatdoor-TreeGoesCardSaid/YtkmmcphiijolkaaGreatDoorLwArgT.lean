/-
  A tree that came in, opened, at this program.
-/
import Derived.Test.YtkmmcphiijolkaaGreatDoorLwArg
set_option linter.unusedVariables false
set_option linter.unusedSimpArgs false
namespace Go.Proofs.YtkmmcphiijolkaaGreatDoor
open Go.ChangeShapes Go.WideShapes Go.ChangeAt Go.WideMaps Go.WideElems Go.RowKit Go.Deep
open Tr
open Stp

/-- What is known of a node that came in. -/
def BndN (x : NodeD) : Prop := (Lit.int .i64 x.1).wf = true ∧ x.2.2.2.2.length ≤ maxLen ∧ (∀ k ∈ x.2.2.2.2, (Lit.int .i64 k).wf = true)

set_option maxRecDepth 100000 in
theorem node_core {H : Type} {enc : TypeId × Value → H} {W : World} {fuel : Nat} {v0 v1 v2 v3 v4 : Value} {y : DataW H × List MemPlace} (hf : DataW.trod enc Tryz.prog W 0 (fun _ => true) true fuel 39 [v0, v1, v2, v3, v4] = some y) :
    ∃ x : NodeD, (v0 = .int .i64 x.1 ∧ v1 = .int .i64 x.2.1 ∧ v2 = .string ⟨x.2.2.1.toArray⟩ ∧ v3 = .int .i64 x.2.2.2.1 ∧ KRow v4 x.2.2.2.2 W) ∧ BndN x := by
  have c3 : Tryz.prog.cellsOf 3 = 1 := by kernel_rfl
  have c9 : Tryz.prog.cellsOf 9 = 1 := by kernel_rfl
  have cb : Tryz.prog.cellsOf 2 = 1 := by kernel_rfl
  have ct : Tryz.prog.cellsOf 24 = 1 := by kernel_rfl
  obtain ⟨xs, k, hk, hxy, _, hxl, hff⟩ := DataW.trod_struct Tryz.underlying39 hf
  match xs, hxl with
  | [y0, y1, y2, y3, y4], _ =>
    have g0 := hff 0 _ rfl
    have g1 := hff 1 _ rfl
    have g2 := hff 2 _ rfl
    have g3 := hff 3 _ rfl
    have g4 := hff 4 _ rfl
    simp [c3, c9, cb, ct] at g0 g1 g2 g3 g4
    obtain ⟨n0, q0, _, hw0⟩ := DataW.trod_int Tryz.underlying3 g0
    obtain ⟨n1, q1, _, _⟩ := DataW.trod_int Tryz.underlying3 g1
    obtain ⟨s2, q2, _, hs2⟩ := DataW.trod_string Tryz.underlying9 g2
    obtain ⟨n3, q3, _, _⟩ := DataW.trod_int Tryz.underlying2 g3
    obtain ⟨l, ha, hl, hts⟩ := krow_core g4
    cases q0
    cases q1
    cases q2
    cases q3
    refine ⟨(n0, n1, s2.data.toList, n3, l), ⟨rfl, rfl, ?_, rfl, ha⟩, hw0, hl, hts⟩
    show Value.string s2 = .string ⟨s2.data.toList.toArray⟩
    rw [toArray_data]

set_option maxRecDepth 100000 in
/-- A tree that came in. -/
theorem nodes_of {H : Type} {enc : TypeId × Value → H} {W : World} {r : Reach} {b0 : Nat} {v : Value} {d : DataW H} {ps : List MemPlace} (hval : Value.okWide Tryz.prog W r b0 23 v) (h : DataW.Trod enc Tryz.prog W 0 (fun _ => true) true 23 v d ps) :
    ∃ l : List NodeD, ArgT v l W ∧ l.length ≤ maxLen ∧ (∀ x ∈ l, BndN x) ∧ ∃ pa cap, v = .slice pa l.length cap ∧ l.length ≤ cap := by
  obtain ⟨a0, len0, cap0, rfl⟩ := okWide_slice Tryz.underlying23 hval
  obtain ⟨fuel, hf⟩ := h
  have e : (Value.slice a0 len0 cap0).cells.toList = [Value.slice a0 len0 cap0] := rfl
  rw [e] at hf
  rcases open_slice Tryz.underlying23 hf with ⟨hcs, _⟩ | ⟨a, len, cap, m, n, D, Pl, hcs, _, hlc, hm, hmm, _, hx⟩
  · cases hcs
    exact ⟨[], ⟨none, 0, rfl, fun k x hx => by simp at hx⟩, Nat.zero_le _, fun x hx => by simp at hx, none, 0, rfl, Nat.le_refl _⟩
  · cases hcs
    rw [if_pos rfl] at hmm
    have ce : Tryz.prog.cellsOf 39 = 5 := by kernel_rfl
    have each : ∀ i, i < len0 → ∃ z : NodeD × Value, (W.cell? (a.add (i * 5)) = some (.int .i64 z.1.1) ∧ W.cell? (a.add (i * 5 + 1)) = some (.int .i64 z.1.2.1) ∧ W.cell? (a.add (i * 5 + 2)) = some (.string ⟨z.1.2.2.1.toArray⟩) ∧ W.cell? (a.add (i * 5 + 3)) = some (.int .i64 z.1.2.2.2.1) ∧ W.cell? (a.add (i * 5 + 4)) = some z.2 ∧ KRow z.2 z.1.2.2.2.2 W) ∧ BndN z.1 := by
      intro i hi
      obtain ⟨cs', h1, h2⟩ := hx i (by omega)
      rw [ce] at h1
      obtain ⟨_, hlen, hcell⟩ := World.cells?_some h1
      match cs', hlen with
      | [v0, v1, v2, v3, v4], _ =>
        have e0 := hcell 0 (by omega)
        have e1 := hcell 1 (by omega)
        have e2 := hcell 2 (by omega)
        have e3 := hcell 3 (by omega)
        have e4 := hcell 4 (by omega)
        rw [add_add] at e0 e1 e2 e3 e4
        obtain ⟨x, ⟨rfl, rfl, rfl, rfl, ha⟩, hb⟩ := node_core h2
        exact ⟨(x, v4), ⟨by simpa using e0, by simpa using e1, by simpa using e2, by simpa using e3, by simpa using e4, ha⟩, hb⟩
    haveI : Inhabited (NodeD × Value) := ⟨((0, 0, [], 0, []), .bool true)⟩
    obtain ⟨X, hX⟩ := choose_lt (α := NodeD × Value) (p := fun i z => (W.cell? (a.add (i * 5)) = some (.int .i64 z.1.1) ∧ W.cell? (a.add (i * 5 + 1)) = some (.int .i64 z.1.2.1) ∧ W.cell? (a.add (i * 5 + 2)) = some (.string ⟨z.1.2.2.1.toArray⟩) ∧ W.cell? (a.add (i * 5 + 3)) = some (.int .i64 z.1.2.2.2.1) ∧ W.cell? (a.add (i * 5 + 4)) = some z.2 ∧ KRow z.2 z.1.2.2.2.2 W) ∧ BndN z.1) each
    refine ⟨(List.range len0).map fun i => (X i).1, ⟨some a, cap0, by simp, ?_⟩, by simp; omega, ?_, some a, cap0, by simp, by simp; omega⟩
    · intro k x hk
      have hkl : k < len0 := by
        have := (List.getElem?_eq_some_iff.1 hk).1
        simpa using this
      rw [List.getElem?_map, List.getElem?_range hkl] at hk
      simp at hk
      subst hk
      obtain ⟨⟨h0, h1, h2, h3, h4, h5⟩, _⟩ := hX k hkl
      have hz := (hX 0 (by omega)).1.1
      rw [Nat.zero_mul, Addr.add_zero'] at hz
      obtain ⟨hb, hsp⟩ := cell_block hz
      have ha := plain_addr hsp
      generalize a.block = g at ha hb
      generalize a.off = o at ha
      subst ha
      rw [add_plain] at h0 h1 h2 h3 h4
      rw [← Nat.add_assoc] at h1 h2 h3 h4
      exact ⟨g, o, _, rfl, hb, h0, h1, h2, h3, h4, h5⟩
    · intro x hx
      obtain ⟨i, hi, rfl⟩ := List.mem_map.1 hx
      exact (hX i (List.mem_range.1 hi)).2
end Go.Proofs.YtkmmcphiijolkaaGreatDoor
