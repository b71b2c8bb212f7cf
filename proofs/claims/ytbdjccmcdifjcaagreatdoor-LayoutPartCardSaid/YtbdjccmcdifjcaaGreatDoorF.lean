/-
  From a row's own premises to what the contracts ask: the variables' cells; and the step from a contract to a row, the listed variables and the world's shape kept.
-/
import Derived.Test.YtbdjccmcdifjcaaGreatDoorG
import Derived.Test.YtbdjccmcdifjcaaGreatDoorRows
import Derived.ProofKit
import Derived.LaidMore
import Derived.OpenShut
import Derived.Stop.Joined
import Derived.HandedShaped
import Derived.Shelf.Vars
import Derived.Lay
set_option linter.unusedVariables false
set_option linter.unusedSimpArgs false
namespace Go.Proofs.YtbdjccmcdifjcaaGreatDoor
open Go.ChangeShapes Go.WideShapes Go.ChangeAt Go.WideMaps Go.WideElems Go.RowKit

theorem own : ownKnob Tryz.prog.godebug = none := by kernel_rfl

theorem handed_both {H : Type} {enc : TypeId × Value → H} {a : Assume} {C : Checked} {os : Os} {f : FuncId} {fn : Func} {s : ChangeSpec} {conds : List PathCond} {apart fresh handsOn again : Bool} {X : World → Array Value → Prop}
    (hX : ∀ (w w' : World) (args : Array Value), w.heap = w'.heap → X w args → X w' args)
    (own : ownKnob C.prog.godebug = none) (started : os.Started) (noInit : C.prog.inits.idxOf? f = none) (hfn : C.prog.funcs[f]? = some fn)
    (witness : ∃ (w : World) (tape : Tape) (i : Input), w.os = os ∧ (w.forCall tape i).Shaped C.prog ∧ i.vars = [] ∧ Input.okWide C.prog (w.forCall tape i) .any w.heap.size f i ∧
      ((s.pre enc C.prog fn conds apart (w.forCall tape i).memory i.args ∧ X (w.forCall tape i).memory i.args) ∧ sizedMet enc C.prog fn (OpenSpec.ofChange s) apart (w.forCall tape i).memory i.args) ∧ a.holds C.prog (lone (Frame.enter C.prog f i.args .normal) [] (w.forCall tape i)))
    (contract : ∀ (W : World) (base : Nat) (args : Array Value) (ds gs : List (DataW H)) (before : List MemPlace),
      (∀ (j : Nat) t v, fn.params[j]? = some t → args[j]? = some v → Value.okWide C.prog W .any base t v) →
      DataW.Whole enc C.prog fn.params.toList s.vars apart W args.toList ds gs before →
      conds.all (PathCond.test C.prog ⟨fn.params.toList, ds, s.plain.varTypes C.prog, gs⟩) = true →
      (DataW.weightsEach C.prog (fn.params.toList ++ s.plain.varTypes C.prog) (ds ++ gs)).all (· ≤ reachBytes) = true → X W args → W.ShapedOpen C.prog →
      a.holds C.prog (lone (Frame.enter C.prog f args .normal) [] W) →
      Calls C.prog f args W fun e W' => ∃ v, e = .returned v ∧ s.post enc C.prog fn apart fresh handsOn again W args v W') :
    ReturnsInHanded a C os f .any (fun w args => (s.pre enc C.prog fn conds apart w args ∧ X w args) ∧ sizedMet enc C.prog fn (OpenSpec.ofChange s) apart w args) (s.post enc C.prog fn apart fresh handsOn again) := by
  refine returnsInHanded_of_calls own started noInit witness ?_
  intro w tape i _ hsh _ hok hpre hholds
  obtain ⟨_, _, _, fn', hfn', _, _, _, _, hval⟩ := hok
  have e : fn' = fn := Option.some.inj (hfn'.symm.trans hfn)
  subst e
  obtain ⟨⟨⟨ds, gs, before, hw, hc⟩, hx⟩, hz⟩ := hpre
  have hw' := DataW.Whole.of_heap (w' := w.forCall tape i) (by rfl) hw
  refine (contract (w.forCall tape i) w.heap.size i.args ds gs before hval hw' hc (hz.weights hw) (hX _ _ _ (by rfl) hx) hsh hholds).mono fun e W' ⟨v, he, hp⟩ => ?_
  subst he
  exact ChangeSpec.post_blind hp

/-- The list of every row of this seat. -/
abbrev laidL : List (String × DataW Unit) := Rows.layoutTellsRow.laid

theorem gOps : Tryz.prog.globalNamed "krait/scan.operators" = some 3 := by kernel_rfl
theorem tOps : (Tryz.prog.globals[3]?).map (·.type) = some 122 := by kernel_rfl
theorem gES : Tryz.prog.globalNamed "strconv.ErrSyntax" = some 4 := by kernel_rfl
theorem tES : (Tryz.prog.globals[4]?).map (·.type) = some 119 := by kernel_rfl
theorem gER : Tryz.prog.globalNamed "strconv.ErrRange" = some 5 := by kernel_rfl
theorem tER : (Tryz.prog.globals[5]?).map (·.type) = some 119 := by kernel_rfl

theorem var_heap {W : World} {n : String} {g : Nat} {cs : Array Value} (hg : Tryz.prog.globalNamed n = some g) (h : W.var? Tryz.prog n = some cs) : ∃ T fr, W.heap[g]? = some (.cells cs T fr) := by
  unfold World.var? at h
  rw [hg] at h
  simp only [Option.bind_some] at h
  split at h
  · rename_i cs' T fr hh
    cases h
    exact ⟨T, fr, hh⟩
  · cases h
theorem iface_cell {W : World} {n : String} {g : Nat} {t : TypeId} {ms : Array (String × TypeId)} {nm : String} {d : DataW Unit} {cs : Array Value} {fuel : Nat} {p : List MemPlace} {enc : TypeId × Value → Unit}
    (hg : Tryz.prog.globalNamed n = some g) (hi : Tryz.prog.underlying t = some (.interface ms)) (hv : W.var? Tryz.prog n = some cs) (h : DataW.trod enc Tryz.prog W 0 (fun _ => true) false fuel t cs.toList = some (.iface nm d, p)) :
    ∃ ev, W.cell? ⟨g, 0, none⟩ = some ev ∧ (ev = .nilIface ∨ ∃ te pe, ev = .iface te pe) := by
  obtain ⟨f1, u, v, hcs, _, _⟩ := iface_of_trod hi h
  have := World.var?_cell hg hv 0
  refine ⟨.iface u v, ?_, Or.inr ⟨u, v, rfl⟩⟩
  rw [this]
  have e : cs = #[.iface u v] := by
    obtain ⟨l⟩ := cs
    simp at hcs
    rw [hcs]
  rw [e]
  rfl

theorem opsArr_list : opsArr.toList = Sp.opsL.map fun l => Value.string ⟨l.toArray⟩ := rfl

/-- WHAT THE ROWS' OWN PREMISES GIVE. -/
theorem env_of {W : World} (h : laidMetH Tryz.prog laidL W) (hsh : W.ShapedOpen Tryz.prog) : Env W := by
  rw [MakeChecks.laidMetH_plain _ _ _ (by kernel_rfl)] at h
  obtain ⟨ps, hL, _, hrows⟩ := h
  obtain ⟨g1, t1, cs1, f1, p1, q1, hg1, ht1, hv1, hd1, hL, e1⟩ := hL
  obtain ⟨g2, t2, cs2, f2, p2, q2, hg2, ht2, hv2, hd2, hL, e2⟩ := hL
  obtain ⟨g3, t3, cs3, f3, p3, q3, hg3, ht3, hv3, hd3, hL, e3⟩ := hL
  obtain ⟨g0, t0, cs0, f0, p0, q0, hg0, ht0, hv0, hd0, hL, e0⟩ := hL
  obtain ⟨g4, t4, cs4, f4, p4, q4, hg4, ht4, hv4, hd4, hL, e4⟩ := hL
  obtain ⟨g5, t5, cs5, f5, p5, q5, hg5, ht5, hv5, hd5, hL, e5⟩ := hL
  obtain ⟨g6, t6, cs6, f6, p6, q6, hg6, ht6, hv6, hd6, hL, e6⟩ := hL
  clear hL hd0 hd1 hd2 hd3 hrows e0 e1 e2 e3 e4 e5 e6
  obtain rfl := Option.some.inj (gER.symm.trans hg4)
  obtain rfl := Option.some.inj (tER.symm.trans ht4)
  obtain rfl := Option.some.inj (gES.symm.trans hg5)
  obtain rfl := Option.some.inj (tES.symm.trans ht5)
  obtain rfl := Option.some.inj (gOps.symm.trans hg6)
  obtain rfl := Option.some.inj (tOps.symm.trans ht6)
  have hes := iface_cell gES Tryz.underlying119 hv5 hd5
  have her := iface_cell gER Tryz.underlying119 hv4 hd4
  have hml : ∃ m, W.cell? ⟨2, 0, none⟩ = some (.int .i64 m) :=
    cell_of_shapedOpen_int (t := 3) (zero := #[.int .i64 0]) hsh (of_decide_eq_true (by kernel_rfl)) (by kernel_rfl) rfl (by kernel_rfl) (by kernel_rfl) Tryz.underlying3
  have hops : ∃ T fr, W.heap[3]? = some (.cells opsArr T fr) := by
    obtain ⟨T, fr, hh⟩ := var_heap gOps hv6
    refine ⟨T, fr, ?_⟩
    rw [hh]
    congr 2
    obtain ⟨xs, m, _, hx, hl, hn, hel⟩ := DataW.trod_array Tryz.underlying122 hd6
    have c9 : Tryz.prog.cellsOf 9 = 1 := by kernel_rfl
    have c79 : Tryz.prog.cellsOf 122 = 28 := by kernel_rfl
    rw [c79] at hl
    simp only [c9, Nat.mul_one] at hel
    have hx1 := congrArg Prod.fst hx
    simp only at hx1
    have hxs : xs.map (·.1) = Sp.opsL.map fun l => (DataW.lit (.string l) : DataW Unit) := by
      have := DataW.agg.inj hx1
      rw [← this]
      rfl
    apply Array.toList_inj.1
    rw [opsArr_list]
    apply List.ext_getElem?
    intro i
    by_cases hi : i < 28
    · have h1 := hel i hi
      have hxi : i < xs.length := by omega
      rw [List.getElem?_eq_getElem hxi] at h1
      obtain ⟨s, hc, hxv, _⟩ := DataW.trod_string Tryz.underlying9 h1
      have h2 : cs6.toList[i]? = some (.string s) := by
        have := congrArg (·[0]?) hc
        simpa [List.getElem?_take, List.getElem?_drop] using this
      have h3 := congrArg (·[i]?) hxs
      have hoi : i < Sp.opsL.length := by rw [opsL_len]; exact hi
      simp only [List.getElem?_map, List.getElem?_eq_getElem hxi, List.getElem?_eq_getElem hoi, Option.map_some, hxv] at h3
      have h4 : s.data.toList = Sp.opsL[i] := by
        have := Option.some.inj h3
        simpa using this
      rw [h2, List.getElem?_map, List.getElem?_eq_getElem hoi, Option.map_some, ← h4, toArray_data]
    · rw [List.getElem?_eq_none (by omega), List.getElem?_eq_none (by simp [opsL_len]; omega)]
  exact ⟨by obtain ⟨ev, h3, _⟩ := her; obtain ⟨ev2, h2, _⟩ := hes; obtain ⟨m1, h1⟩ := hml; have k3 := block_lt_of_cell h3; have k2 := block_lt_of_cell h2; have k1 := block_lt_of_cell h1; simp at k1 k2 k3; omega, hops, hml, hes, her⟩

/-- The world of the witness holds what the rows list. -/
theorem door_met (os : Os) (args : Array Value) : laidMetH Tryz.prog laidL ((World.laidAll Tryz.prog os laidL).forCall (fun _ _ => 0) ⟨#[], args, []⟩).memory := by
  rw [MakeChecks.laidMetH_plain _ _ _ (by kernel_rfl)]
  exact laidMet_laidAll _ (by kernel_rfl) (by kernel_rfl)
theorem door_shaped (os : Os) (args : Array Value) : ((World.laidAll Tryz.prog os laidL).forCall (fun _ _ => 0) ⟨#[], args, []⟩).Shaped Tryz.prog := World.shaped_of_ZipB (by kernel_rfl) (by kernel_rfl)
theorem door_os (os : Os) : (World.laidAll Tryz.prog os laidL).os = os := World.laidAll_os _ _ _
end Go.Proofs.YtbdjccmcdifjcaaGreatDoor
