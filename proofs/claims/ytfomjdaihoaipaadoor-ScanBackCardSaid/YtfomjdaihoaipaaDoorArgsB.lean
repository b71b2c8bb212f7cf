/-
  A row of bytes that came in, opened.
-/
import Derived.Test.YtfomjdaihoaipaaDoorArgs
import Derived.Test.YtfomjdaihoaipaaDoorBack
set_option linter.unusedVariables false
set_option linter.unusedSimpArgs false
namespace Go.Proofs.YtfomjdaihoaipaaDoor
open Go.ChangeShapes Go.WideShapes Go.ChangeAt Go.WideMaps Go.WideElems Go.RowKit Go.Deep

set_option maxRecDepth 100000 in
theorem bytes_of {H : Type} {enc : TypeId × Value → H} {W : World} {r : Reach} {b0 : Nat} {v : Value} {d : DataW H} {ps : List MemPlace} (hval : Value.okWide Tryd.prog W r b0 33 v) (h : DataW.Trod enc Tryd.prog W 0 (fun _ => true) true 33 v d ps) :
    ∃ l : Sp.Bs, ArgB v l W ∧ l.length ≤ maxLen := by
  obtain ⟨a0, len0, cap0, rfl⟩ := okWide_slice Tryd.underlying33 hval
  obtain ⟨fuel, hf⟩ := h
  have e : (Value.slice a0 len0 cap0).cells.toList = [Value.slice a0 len0 cap0] := rfl
  rw [e] at hf
  have c5 : Tryd.prog.cellsOf 5 = 1 := by kernel_rfl
  rcases open_slice1 Tryd.underlying33 c5 hf with ⟨hcs, _⟩ | ⟨a, len, cap, m, n, V, D, Pl, hcs, _, hlc, hm, hmm, _, hx⟩
  · cases hcs
    exact ⟨[], ⟨none, 0, rfl, fun k x hx => by simp at hx⟩, Nat.zero_le _⟩
  · cases hcs
    rw [if_pos rfl] at hmm
    have each : ∀ i, i < len0 → ∃ c : UInt8, W.cell? (a.add i) = some (.int .u8 (c.toNat : Int)) := by
      intro i hi
      obtain ⟨h1, h2⟩ := hx i (by omega)
      obtain ⟨n0, q0, _, hw⟩ := DataW.trod_int Tryd.underlying5 h2
      obtain ⟨c, rfl⟩ := byte_of hw
      refine ⟨c, ?_⟩
      rw [h1]
      have := (List.cons.inj q0).1
      rw [this]
    obtain ⟨X, hX⟩ := choose_lt (α := UInt8) (p := fun i c => W.cell? (a.add i) = some (.int .u8 (c.toNat : Int))) each
    refine ⟨(List.range len0).map X, ⟨some a, cap0, by simp, ?_⟩, by simp; omega⟩
    intro k c hk
    have hkl : k < len0 := by
      have := (List.getElem?_eq_some_iff.1 hk).1
      simpa using this
    rw [List.getElem?_map, List.getElem?_range hkl] at hk
    simp at hk
    subst hk
    have h0 := hX k hkl
    have hz := hX 0 (by omega)
    rw [Addr.add_zero'] at hz
    obtain ⟨hb, hsp⟩ := cell_block hz
    have ha := plain_addr hsp
    generalize a.block = g at ha hb
    generalize a.off = o at ha
    subst ha
    rw [add_plain] at h0
    exact ⟨g, o, rfl, hb, h0⟩
end Go.Proofs.YtfomjdaihoaipaaDoor
