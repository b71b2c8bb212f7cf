/-
  A row of texts that came in: opened, at this program.
-/
import Derived.Test.YtcpjogjkjbillaaOpP
import Derived.Test.YtcpjogjkjbillaaTxE
set_option linter.unusedVariables false
set_option linter.unusedSimpArgs false
namespace Go.Proofs.Ytcpjogjkjbillaa
open Go.ChangeShapes Go.WideShapes Go.ChangeAt Go.WideMaps Go.WideElems Go.RowKit Go.Deep
open Stp

set_option maxRecDepth 100000 in
/-- A row of texts that came in: none, or a row whose cells lie plain; each text is as long as its reading. -/
theorem strs_in {H : Type} {enc : TypeId × Value → H} {W : World} {r : Reach} {b0 : Nat} {v : Value} {d : DataW H} {ps : List MemPlace} (hval : Value.okWide Try.prog W r b0 31 v) (h : DataW.Trod enc Try.prog W 0 (fun _ => true) true 31 v d ps) :
    ∃ l : List Tx.Bs, SRow v l W ∧ ((l = [] ∨ ∃ spare, d = .slice (l.map fun x => .lit (.string x)) spare)) := by
  obtain ⟨a0, len0, cap0, rfl⟩ := okWide_slice Try.underlying31 hval
  obtain ⟨fuel, hf⟩ := h
  have e : (Value.slice a0 len0 cap0).cells.toList = [Value.slice a0 len0 cap0] := rfl
  rw [e] at hf
  have c9 : Try.prog.cellsOf 9 = 1 := by kernel_rfl
  rcases open_slice1 Try.underlying31 c9 hf with ⟨hcs, _⟩ | ⟨a, len, cap, m, n, V, D, Pl, hcs, _, hlc, hm, hmm, hd, hx⟩
  · cases hcs
    exact ⟨[], Or.inl ⟨⟨_, rfl⟩, rfl⟩, Or.inl rfl⟩
  · cases hcs
    rw [if_pos rfl] at hmm
    by_cases hc0 : cap0 = 0
    · subst hc0
      obtain rfl : len0 = 0 := by omega
      exact ⟨[], Or.inl ⟨⟨_, rfl⟩, rfl⟩, Or.inl rfl⟩
    obtain ⟨hb, hsp⟩ := cell_block (hx 0 (by omega)).1
    have each : ∀ i, i < len0 → ∃ c : Tx.Bs, W.cell? (a.add i) = some (.string ⟨c.toArray⟩) ∧ D i = .lit (.string c) := by
      intro i hi
      obtain ⟨h1, h2⟩ := hx i (by omega)
      obtain ⟨s, q0, q1, _⟩ := DataW.trod_string Try.underlying9 h2
      refine ⟨s.data.toList, ?_, ?_⟩
      · rw [h1, (List.cons.inj q0).1, toArray_data]
      · have := (Prod.mk.inj q1).1
        rw [this]
    obtain ⟨X, hX⟩ := choose_lt (α := Tx.Bs) (p := fun i c => W.cell? (a.add i) = some (.string ⟨c.toArray⟩) ∧ D i = .lit (.string c)) each
    rw [Addr.add_zero'] at hb hsp
    have ha := plain_addr hsp
    generalize a.block = g at ha hb
    generalize a.off = o at ha
    subst ha
    refine ⟨(List.range len0).map X, Or.inr ⟨g, o, cap0, by simp, by simp; omega, hb, ?_⟩, Or.inr ⟨(List.range (m - len0)).map fun j => D (len0 + j), ?_⟩⟩
    · intro k c hk
      have hkl : k < len0 := by
        have := (List.getElem?_eq_some_iff.1 hk).1
        simpa using this
      rw [List.getElem?_map, List.getElem?_range hkl] at hk
      simp at hk
      subst hk
      have h0 := (hX k hkl).1
      rw [add_plain] at h0
      exact h0
    · rw [(Prod.mk.inj hd).1, List.map_map]
      congr 1
      refine List.map_congr_left fun i hi => ?_
      exact (hX i (List.mem_range.1 hi)).2
end Go.Proofs.Ytcpjogjkjbillaa
