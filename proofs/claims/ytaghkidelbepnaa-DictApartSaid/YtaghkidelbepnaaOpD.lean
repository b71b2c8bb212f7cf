/-
  Calls, values and pairs of values that came in: opened, at this program.
-/
import Derived.Test.YtaghkidelbepnaaOpV
import Derived.Test.YtaghkidelbepnaaDiV
import Derived.SizedLaws
set_option linter.unusedVariables false
set_option linter.unusedSimpArgs false
namespace Go.Proofs.Ytaghkidelbepnaa
open Go.ChangeShapes Go.WideShapes Go.ChangeAt Go.WideMaps Go.WideElems Go.RowKit Go.Deep
open Stp
open Di

def dC {H : Type} (c : Cl) : DataW H := .agg [.lit (.int .i64 c.1), dV c.2.1, dV c.2.2.1, .lit (.bool c.2.2.2)]
set_option maxRecDepth 100000 in
theorem call_core {H : Type} {enc : TypeId × Value → H} {W : World} {fuel : Nat} {v0 v1 v2 v3 v4 v5 v6 v7 : Value} {y : DataW H × List MemPlace} (hf : DataW.trod enc Try.prog W 0 (fun _ => true) true fuel 34 [v0, v1, v2, v3, v4, v5, v6, v7] = some y) :
    ∃ c : Cl, [v0, v1, v2, v3, v4, v5, v6, v7] = cC c ∧ y.1 = dC c ∧ Rv c.2.1 ∧ Rv c.2.2.1 := by
  have c3 : Try.prog.cellsOf 3 = 1 := by kernel_rfl
  have c4 : Try.prog.cellsOf 4 = 1 := by kernel_rfl
  have cv : Try.prog.cellsOf 32 = 3 := by kernel_rfl
  obtain ⟨xs, k, hk, hxy, _, hxl, hff⟩ := DataW.trod_struct Try.underlying34 hf
  match xs, hxl with
  | [y0, y1, y2, y3], _ =>
    have g0 := hff 0 _ rfl
    have g1 := hff 1 _ rfl
    have g2 := hff 2 _ rfl
    have g3 := hff 3 _ rfl
    simp [c3, c4, cv] at g0 g1 g2 g3
    obtain ⟨n0, q0, e0, hw0⟩ := DataW.trod_int Try.underlying3 g0
    obtain ⟨x1, ⟨r1, r2, r3⟩, e1, hr1⟩ := value_core g1
    obtain ⟨x2, ⟨r4, r5, r6⟩, e2, hr2⟩ := value_core g2
    obtain ⟨b, q3, e3⟩ := DataW.trod_bool Try.underlying4 g3
    cases q0
    cases q3
    subst r1 r2 r3 r4 r5 r6 e0 e3
    exact ⟨(n0, x1, x2, b), rfl, by rw [hxy]; simp only [List.map_cons, List.map_nil, e1, e2]; rfl, hr1, hr2⟩
set_option maxRecDepth 100000 in
/-- Two values that came in, in one. -/
theorem two_in {H : Type} {enc : TypeId × Value → H} {W : World} {r : Reach} {b0 : Nat} {v : Value} {d : DataW H} {ps : List MemPlace} (hval : Value.okWide Try.prog W r b0 45 v) (h : DataW.Trod enc Try.prog W 0 (fun _ => true) true 45 v d ps) :
    ∃ x y : V, v = .agg #[.int .i64 x.1, .int .i64 x.2.1, .string x.2.2, .int .i64 y.1, .int .i64 y.2.1, .string y.2.2] ∧ d = .agg [dV x, dV y] ∧ Rv x ∧ Rv y := by
  have hcs : ∃ cs, v = .agg cs ∧ cs.size = 6 := by
    unfold Value.okWide at hval
    rw [Try.underlying45] at hval
    obtain ⟨cs, h1, h2, _⟩ := hval
    exact ⟨cs, h1, h2.trans (by kernel_rfl)⟩
  obtain ⟨cs, rfl, hcs⟩ := hcs
  obtain ⟨fuel, hf⟩ := h
  obtain ⟨l⟩ := cs
  match l, hcs with
  | [v0, v1, v2, v3, v4, v5], _ =>
    have e : (Value.agg #[v0, v1, v2, v3, v4, v5]).cells.toList = [v0, v1, v2, v3, v4, v5] := rfl
    rw [e] at hf
    have cv : Try.prog.cellsOf 32 = 3 := by kernel_rfl
    obtain ⟨xs, k, hk, hxy, _, hxl, hff⟩ := DataW.trod_array Try.underlying45 hf
    match xs, hxl with
    | [y0, y1], _ =>
      have g0 := hff 0 (by omega)
      have g1 := hff 1 (by omega)
      simp [cv] at g0 g1
      obtain ⟨x, ⟨rfl, rfl, rfl⟩, e0, hr0⟩ := value_core g0
      obtain ⟨z, ⟨rfl, rfl, rfl⟩, e1, hr1⟩ := value_core g1
      have hd := (Prod.mk.inj hxy).1
      refine ⟨x, z, rfl, ?_, hr0, hr1⟩
      rw [hd]
      simp only [List.map_cons, List.map_nil, e0, e1]
set_option maxRecDepth 100000 in
/-- A row of calls that came in. -/
theorem calls_in {H : Type} {enc : TypeId × Value → H} {W : World} {r : Reach} {b0 : Nat} {v : Value} {d : DataW H} {ps : List MemPlace} (hval : Value.okWide Try.prog W r b0 22 v) (h : DataW.Trod enc Try.prog W 0 (fun _ => true) true 22 v d ps) :
    ∃ l : List Cl, CRow v l W ∧ (l = [] ∨ ∃ spare, d = .slice (l.map dC) spare) ∧ ∀ c ∈ l, Rv c.2.1 ∧ Rv c.2.2.1 := by
  obtain ⟨a0, len0, cap0, rfl⟩ := okWide_slice Try.underlying22 hval
  obtain ⟨fuel, hf⟩ := h
  have e : (Value.slice a0 len0 cap0).cells.toList = [Value.slice a0 len0 cap0] := rfl
  rw [e] at hf
  rcases open_slice Try.underlying22 hf with ⟨hcs, _⟩ | ⟨a, len, cap, m, n, D, Pl, hcs, _, hlc, hm, hmm, hd, hx⟩
  · cases hcs
    exact ⟨[], .inl ⟨none, 0, rfl, rfl⟩, .inl rfl, fun c hc => by cases hc⟩
  · cases hcs
    rw [if_pos rfl] at hmm
    have ce : Try.prog.cellsOf 34 = 8 := by kernel_rfl
    by_cases hl0 : len0 = 0
    · subst hl0
      exact ⟨[], .inl ⟨some a, cap0, rfl, rfl⟩, .inl rfl, fun c hc => by cases hc⟩
    have each : ∀ i, i < len0 → ∃ c : Cl, (∀ j u, (cC c)[j]? = some u → W.cell? (a.add (i * 8 + j)) = some u) ∧ D i = dC c ∧ Rv c.2.1 ∧ Rv c.2.2.1 := by
      intro i hi
      obtain ⟨cs', h1, h2⟩ := hx i (by omega)
      rw [ce] at h1
      obtain ⟨_, hlen, hcell⟩ := World.cells?_some h1
      match cs', hlen with
      | [v0, v1, v2, v3, v4, v5, v6, v7], _ =>
        obtain ⟨c, hc, hdc, hr⟩ := call_core h2
        refine ⟨c, fun j u hu => ?_, hdc, hr⟩
        rw [← hc] at hu
        have hj : j < 8 := (List.getElem?_eq_some_iff.1 hu).1
        have e0 := hcell j (by omega)
        rw [add_add] at e0
        rw [e0]
        exact hu
    obtain ⟨X, hX⟩ := choose_lt (α := Cl) (p := fun i c => (∀ j u, (cC c)[j]? = some u → W.cell? (a.add (i * 8 + j)) = some u) ∧ D i = dC c ∧ Rv c.2.1 ∧ Rv c.2.2.1) each
    have hz := (hX 0 (by omega)).1 0 _ rfl
    rw [Nat.zero_mul, Nat.zero_add, Addr.add_zero'] at hz
    obtain ⟨hb, hsp⟩ := cell_block hz
    have ha := plain_addr hsp
    generalize a.block = g at ha hb
    generalize a.off = o at ha
    subst ha
    refine ⟨(List.range len0).map X, .inr ⟨g, o, cap0, by simp, hb, fun i c hk j u hu => ?_⟩, .inr ⟨(List.range (m - len0)).map fun j => D (len0 + j), ?_⟩, fun c hc => ?_⟩
    · have hkl : i < len0 := by
        have := (List.getElem?_eq_some_iff.1 hk).1
        simpa using this
      rw [List.getElem?_map, List.getElem?_range hkl] at hk
      simp at hk
      subst hk
      have h0 := (hX i hkl).1 j u hu
      rw [add_plain] at h0
      rw [Nat.add_assoc]
      exact h0
    · rw [(Prod.mk.inj hd).1, List.map_map]
      congr 1
      refine List.map_congr_left fun i hi => ?_
      exact (hX i (List.mem_range.1 hi)).2.1
    · obtain ⟨i, hi, rfl⟩ := List.mem_map.1 hc
      exact (hX i (List.mem_range.1 hi)).2.2
theorem cok_of {H : Type} {c : Cl} (h1 : Rv c.2.1) (h2 : Rv c.2.2.1) (hw : ∀ n ∈ (dC c : DataW H).weights Try.prog 34, n ≤ reachBytes) : Cok c := by
  have hu := Try.underlying34
  refine ⟨vok_of (H := H) h1 (fun n hn => hw n ?_), vok_of (H := H) h2 (fun n hn => hw n ?_)⟩
  · unfold dC DataW.weights
    rw [hu]
    exact DataW.weights_mem_each (j := 1) (t := 32) (d := dV c.2.1) rfl rfl n hn
  · unfold dC DataW.weights
    rw [hu]
    exact DataW.weights_mem_each (j := 2) (t := 32) (d := dV c.2.2.1) rfl rfl n hn
theorem coks_of {H : Type} {l : List Cl} {d : DataW H} (hl : l = [] ∨ ∃ spare, d = .slice (l.map dC) spare) (hr : ∀ c ∈ l, Rv c.2.1 ∧ Rv c.2.2.1) (hw : ∀ n ∈ d.weights Try.prog 22, n ≤ reachBytes) : (∀ c ∈ l, Cok c) ∧ l.length ≤ 140737488355328 := by
  rcases hl with rfl | ⟨spare, rfl⟩
  · exact ⟨(fun c hc => by cases hc), (by simp)⟩
  · have hu := Try.underlying22
    unfold DataW.weights at hw
    rw [hu] at hw
    refine ⟨fun c hc => cok_of (H := H) (hr c hc).1 (hr c hc).2 (fun n hn => hw n ?_), ?_⟩
    · exact List.mem_cons_of_mem _ (List.mem_append_left _ (all_mem (List.mem_map_of_mem hc) n hn))
    · have h := hw _ (List.mem_cons_self ..)
      rw [show Try.prog.bytesOf 34 = 80 by kernel_rfl, List.length_map] at h
      have : reachBytes = 0x7ffffffff000 := rfl
      omega
theorem two_ok {H : Type} {x y : V} (h1 : Rv x) (h2 : Rv y) (hw : ∀ n ∈ (DataW.agg [dV x, dV y] : DataW H).weights Try.prog 45, n ≤ reachBytes) : Vok x ∧ Vok y := by
  have hu := Try.underlying45
  unfold DataW.weights at hw
  rw [hu] at hw
  exact ⟨vok_of (H := H) h1 (fun n hn => hw n (all_mem (List.mem_cons_self ..) n hn)), vok_of (H := H) h2 (fun n hn => hw n (all_mem (List.mem_cons_of_mem _ (List.mem_cons_self ..)) n hn))⟩
end Go.Proofs.Ytaghkidelbepnaa
