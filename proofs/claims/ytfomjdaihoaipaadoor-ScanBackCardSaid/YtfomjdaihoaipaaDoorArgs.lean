/-
  A row of tokens, or of bytes, that came in: opened, and what a law's row asks behind the call.
-/
import Derived.Test.YtfomjdaihoaipaaDoorFitA
import Derived.Test.YtfomjdaihoaipaaDoorP
import Derived.Deep.Slices
import Derived.Carry
set_option linter.unusedVariables false
set_option linter.unusedSimpArgs false
namespace Go.Proofs.YtfomjdaihoaipaaDoor
open Go.ChangeShapes Go.WideShapes Go.ChangeAt Go.WideMaps Go.WideElems Go.RowKit Go.Deep

theorem cell_block {w : World} {a : Addr} {v : Value} (h : w.cell? a = some v) : a.block < w.heap.size ∧ a.spot = none := by
  unfold World.cell? at h
  split at h
  · rename_i he
    refine ⟨heap_of_some he, ?_⟩
    split at h
    · cases h
    · rename_i hs; simpa using hs
  · cases h
theorem plain_addr {a : Addr} (h : a.spot = none) : a = ⟨a.block, a.off, none⟩ := by
  cases a
  simp at h
  subst h
  rfl

set_option maxRecDepth 100000 in
theorem arg4_of {H : Type} {enc : TypeId × Value → H} {W : World} {r : Reach} {b0 : Nat} {v : Value} {d : DataW H} {ps : List MemPlace} (hval : Value.okWide Tryd.prog W r b0 23 v) (h : DataW.Trod enc Tryd.prog W 0 (fun _ => true) true 23 v d ps) :
    ∃ l : List T4, Arg4 v l W ∧ l.length ≤ maxLen ∧ ∀ x ∈ l, x.2.2.1.length ≤ maxLen := by
  obtain ⟨a0, len0, cap0, rfl⟩ := okWide_slice Tryd.underlying23 hval
  obtain ⟨fuel, hf⟩ := h
  have e : (Value.slice a0 len0 cap0).cells.toList = [Value.slice a0 len0 cap0] := rfl
  rw [e] at hf
  rcases open_slice Tryd.underlying23 hf with ⟨hcs, _⟩ | ⟨a, len, cap, m, n, D, Pl, hcs, _, hlc, hm, hmm, _, hx⟩
  · cases hcs
    exact ⟨[], ⟨none, 0, rfl, fun k x hx => by simp at hx⟩, Nat.zero_le _, fun x hx => by simp at hx⟩
  · cases hcs
    rw [if_pos rfl] at hmm
    have ce : Tryd.prog.cellsOf 36 = 4 := by kernel_rfl
    have c3 : Tryd.prog.cellsOf 3 = 1 := by kernel_rfl
    have c9 : Tryd.prog.cellsOf 9 = 1 := by kernel_rfl
    have c2 : Tryd.prog.cellsOf 2 = 1 := by kernel_rfl
    have each : ∀ i, i < len0 → ∃ x : T4, (W.cell? (a.add (i * 4)) = some (.int .i64 x.1) ∧ W.cell? (a.add (i * 4 + 1)) = some (.int .i64 x.2.1) ∧ W.cell? (a.add (i * 4 + 2)) = some (.string ⟨x.2.2.1.toArray⟩) ∧ W.cell? (a.add (i * 4 + 3)) = some (.int .i64 x.2.2.2)) ∧ x.2.2.1.length ≤ maxLen := by
      intro i hi
      obtain ⟨cs', h1, h2⟩ := hx i (by omega)
      rw [ce] at h1
      obtain ⟨_, hlen, hcell⟩ := World.cells?_some h1
      obtain ⟨xs, k, hk, hxy, _, hxl, hff⟩ := DataW.trod_struct Tryd.underlying36 h2
      match xs, hxl, cs', hlen with
      | [y0, y1, y2, y3], _, [v0, v1, v2, v3], _ =>
        have g0 := hff 0 _ rfl
        have g1 := hff 1 _ rfl
        have g2 := hff 2 _ rfl
        have g3 := hff 3 _ rfl
        simp [c3, c9, c2] at g0 g1 g2 g3
        have e0 := hcell 0 (by omega)
        have e1 := hcell 1 (by omega)
        have e2 := hcell 2 (by omega)
        have e3 := hcell 3 (by omega)
        rw [add_add] at e0 e1 e2 e3
        obtain ⟨n0, q0, _, _⟩ := DataW.trod_int Tryd.underlying3 g0
        obtain ⟨n1, q1, _, _⟩ := DataW.trod_int Tryd.underlying3 g1
        obtain ⟨s2, q2, _, hs2⟩ := DataW.trod_string Tryd.underlying9 g2
        obtain ⟨n3, q3, _, _⟩ := DataW.trod_int Tryd.underlying2 g3
        cases q0
        cases q1
        cases q2
        cases q3
        refine ⟨(n0, n1, s2.data.toList, n3), ⟨by simpa using e0, by simpa using e1, ?_, by simpa using e3⟩, ?_⟩
        · show W.cell? (a.add (i * 4 + 2)) = some (.string ⟨s2.data.toList.toArray⟩)
          rw [toArray_data]
          simpa using e2
        · show s2.data.toList.length ≤ maxLen
          rw [size_list]
          exact hs2
    obtain ⟨X, hX⟩ := choose_lt (α := T4) (p := fun i x => (W.cell? (a.add (i * 4)) = some (.int .i64 x.1) ∧ W.cell? (a.add (i * 4 + 1)) = some (.int .i64 x.2.1) ∧ W.cell? (a.add (i * 4 + 2)) = some (.string ⟨x.2.2.1.toArray⟩) ∧ W.cell? (a.add (i * 4 + 3)) = some (.int .i64 x.2.2.2)) ∧ x.2.2.1.length ≤ maxLen) each
    refine ⟨(List.range len0).map X, ⟨some a, cap0, by simp, ?_⟩, by simp; omega, ?_⟩
    · intro k x hk
      have hkl : k < len0 := by
        have := (List.getElem?_eq_some_iff.1 hk).1
        simpa using this
      rw [List.getElem?_map, List.getElem?_range hkl] at hk
      simp at hk
      subst hk
      obtain ⟨⟨h0, h1, h2, h3⟩, _⟩ := hX k hkl
      have hz := (hX 0 (by omega)).1.1
      rw [Nat.zero_mul, Addr.add_zero'] at hz
      obtain ⟨hb, hsp⟩ := cell_block hz
      have ha := plain_addr hsp
      generalize a.block = g at ha hb
      generalize a.off = o at ha
      subst ha
      rw [add_plain] at h0 h1 h2 h3
      rw [← Nat.add_assoc] at h1 h2 h3
      exact ⟨g, o, rfl, hb, h0, h1, h2, h3⟩
    · intro x hx
      obtain ⟨i, hi, rfl⟩ := List.mem_map.1 hx
      exact (hX i (List.mem_range.1 hi)).2

/-- The answer true, the arguments as they read before, no older cell turned: what a law's row asks, of arguments that lead to memory too. -/
theorem post_true_at {H : Type} {enc : TypeId × Value → H} {f : Func} {s : ChangeSpec} {W W' : World} {args : Array Value} {ds : List (DataW H)} {before : List MemPlace}
    (hW : DataW.Whole enc Tryd.prog f.params.toList s.vars false W args.toList ds [] before)
    (hrt : f.resultTypes = #[4]) (hres : (s.fn H (ds ++ [])).results = [.lit (.bool true)]) (hfa : (s.fn H (ds ++ [])).args = ds) (hfv : (s.fn H (ds ++ [])).vars = []) (hsv : s.vars = [])
    (hargs : DataW.TrodAll enc Tryd.prog W' 0 (fun b => decide (b < W.heap.size)) true f.params.toList args.toList ds before)
    (hb : Below W.heap.size W W') :
    s.post enc Tryd.prog f false true false false W args (.bool true) W' := by
  have hr : ∀ (b : Nat) (sp : Nat → Bool) (hd : Bool), DataW.TrodAll enc Tryd.prog W' b sp hd f.resultTypes.toList ((Value.bool true).resultList f.resultTypes.size) (s.fn H (ds ++ [])).results [] := by
    intro b sp hd
    rw [hrt, hres]
    exact trodAll_mk1 (shut_bool Tryd.underlying4 _)
  exact ⟨ds, [], before, [], before, [], hW, hr _ _ _, by rw [hfa]; exact hargs, by rw [hfv, hsv]; rfl, World.keptBut_mono (fun p hp => ⟨hp, Or.inr (Or.inl hp)⟩) (hb.frame (· ∈ before)), fun h => by cases h⟩
theorem laidOut : laidOutB Tryd.prog = true := by kernel_rfl
end Go.Proofs.YtfomjdaihoaipaaDoor
