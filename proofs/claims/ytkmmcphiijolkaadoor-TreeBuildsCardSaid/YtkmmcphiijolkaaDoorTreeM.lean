/-
  Maps of numbers to values, as functions, at this program.
-/
import Derived.Test.YtkmmcphiijolkaaDoorTreeA
import Derived.Maps.OwnIn
import Derived.Maps.OwnSet
set_option linter.unusedVariables false
set_option linter.unusedSimpArgs false
namespace Go.Proofs.YtkmmcphiijolkaaDoor
open Go.RowKit Go.Shelf

def heldR (v : Value) : Option (DataW Value × List MemPlace) := some (.held v, [])
/-- Block b is a map of numbers, of n entries at most, that holds what f says. -/
def MapI (w : World) (b n : Nat) (f : Int → Option Value) : Prop :=
  ∃ D : DataW Value, w.ownsMap Tryd.prog 3 heldR b n D ∧ Maps.IsMap D ∧ ∀ x, (Lit.int .i64 x).wf = true → Maps.has D (.int .i64 x) = (f x).isSome ∧ ∀ z, D.atKey (.int .i64 x) (.held z) = .held ((f x).getD z)
theorem MapI.lt {w : World} {b n : Nat} {f : Int → Option Value} (h : MapI w b n f) : b < w.heap.size := by obtain ⟨D, h, _⟩ := h; exact h.lt
theorem MapI.alloc {w : World} {b n : Nat} {f : Int → Option Value} (h : MapI w b n f) (o : Obj) : MapI (w.alloc o) b n f := by obtain ⟨D, h, r⟩ := h; exact ⟨D, h.alloc o, r⟩
theorem MapI.drew {w : World} {b n : Nat} {f : Int → Option Value} (h : MapI w b n f) : MapI w.drew b n f := by obtain ⟨D, h, r⟩ := h; exact ⟨D, h.drew, r⟩
theorem MapI.mono {w : World} {b n m : Nat} {f : Int → Option Value} (h : MapI w b n f) (hm : n ≤ m) : MapI w b m f := by obtain ⟨D, h, r⟩ := h; exact ⟨D, h.mono hm, r⟩
theorem MapI.of_block {w w' : World} {b n : Nat} {f : Int → Option Value} (h : MapI w b n f) (hb : w'.heap[b]? = w.heap[b]?) : MapI w' b n f := by
  obtain ⟨D, ⟨es, ck, h1, h2⟩, r⟩ := h
  exact ⟨D, ⟨es, ck, hb.trans h1, h2⟩, r⟩
theorem MapI.below {w w' : World} {b n B : Nat} {f : Int → Option Value} (h : MapI w b n f) (hb : Below B w w') (hB : b < B) : MapI w' b n f := h.of_block (hb.block b hB)
theorem MapI.made (w : World) : MapI (w.alloc (.map #[] 0)) w.heap.size 0 (fun _ => none) :=
  ⟨.map [], World.ownsMap_made w _ _ _, Maps.isMap_empty, fun x _ => ⟨rfl, fun z => rfl⟩⟩
theorem MapI.congr {w : World} {b n : Nat} {f g : Int → Option Value} (h : MapI w b n f) (he : ∀ x, (Lit.int .i64 x).wf = true → f x = g x) : MapI w b n g := by
  obtain ⟨D, h, hm, r⟩ := h
  exact ⟨D, h, hm, fun x hx => by rw [← he x hx]; exact r x hx⟩
theorem key_int (x : Int) (hx : (Lit.int .i64 x).wf = true) : keyOf Tryd.prog 3 (.int .i64 x) = some (.int .i64 x) := Maps.keyOf_int_mk Tryd.underlying3 hx
theorem MapI.put {w : World} {b n : Nat} {f : Int → Option Value} (h : MapI w b n f) (hn : n < 1000000000) (t e : TypeId) (ht : Tryd.prog.underlying t = some (.map 3 e)) (x : Int) (hx : (Lit.int .i64 x).wf = true) (v : Value) :
    ∃ w', (Instr.mapUpdate t (.map (some b)) (.int .i64 x) v).run Tryd.prog w = .ok () w' ∧ MapI w' b (n + 1) (fun y => if y = x then some v else f y) ∧ w.grownBy w' (some b) := by
  obtain ⟨D, h, hm, r⟩ := h
  obtain ⟨w', h1, h2, h3⟩ := h.update (val := v) (d := .held v) (ps := []) (Maps.int_keyed Tryd.underlying3) ht (by unfold maxLen; omega) (key_int x hx) rfl
  refine ⟨w', h1, ⟨_, h2, hm.put _ _, fun y hy => ?_⟩, h3⟩
  by_cases e : y = x
  · subst e
    simp only [if_true, Option.isSome_some, Option.getD_some]
    exact ⟨Maps.has_put_same hm (by trivial) _, fun z => Maps.atKey_put_same hm (by trivial) _ _⟩
  · have hne : (Lit.int .i64 y) ≠ Lit.int .i64 x := fun h => e (by injection h)
    simp only [if_neg e]
    rw [Maps.has_put_other hne]
    exact ⟨(r y hy).1, fun z => (Maps.atKey_put_other hne _ _).trans ((r y hy).2 z)⟩
theorem MapI.get_ok {w : World} {b n : Nat} {f : Int → Option Value} (h : MapI w b n f) (t e : TypeId) (ht : Tryd.prog.underlying t = some (.map 3 e)) {z : Value} (hz : (zeroValue e).run Tryd.prog w = .ok z w) (x : Int) (hx : (Lit.int .i64 x).wf = true) :
    (Instr.lookup t (.map (some b)) (.int .i64 x) true).run Tryd.prog w = .ok (.tuple #[(f x).getD z, .bool (f x).isSome]) w := by
  obtain ⟨D, h, hm, r⟩ := h
  obtain ⟨v, ps, h1, h2⟩ := h.look_ok (zd := .held z) (zp := []) (Maps.int_keyed Tryd.underlying3) ht hz rfl (key_int x hx)
  have h5 : DataW.held v = DataW.held ((f x).getD z) := (congrArg Prod.fst (Option.some.inj h2)).trans ((r x hx).2 z)
  have h5 := DataW.held.inj h5
  rw [h1, (r x hx).1, h5]
theorem MapI.get {w : World} {b n : Nat} {f : Int → Option Value} (h : MapI w b n f) (t e : TypeId) (ht : Tryd.prog.underlying t = some (.map 3 e)) {z : Value} (hz : (zeroValue e).run Tryd.prog w = .ok z w) (x : Int) (hx : (Lit.int .i64 x).wf = true) :
    (Instr.lookup t (.map (some b)) (.int .i64 x) false).run Tryd.prog w = .ok ((f x).getD z) w := by
  obtain ⟨D, h, hm, r⟩ := h
  obtain ⟨v, ps, h1, h2⟩ := h.lookup (zd := .held z) (zp := []) (Maps.int_keyed Tryd.underlying3) ht hz rfl (key_int x hx)
  have h5 : DataW.held v = DataW.held ((f x).getD z) := (congrArg Prod.fst (Option.some.inj h2)).trans ((r x hx).2 z)
  have h5 := DataW.held.inj h5
  rw [h1, h5]
end Go.Proofs.YtkmmcphiijolkaaDoor
