/-
  Maps of texts to values, as functions; the program's operators as a map, at this program.
-/
import Derived.Test.YtaekjkihdecmcaaNuB
import Derived.Maps.OwnIn
import Derived.Maps.OwnSet
import Derived.Maps.Keyed
set_option linter.unusedVariables false
set_option linter.unusedSimpArgs false
namespace Go.Proofs.Ytaekjkihdecmcaa
open Go.RowKit

def heldR (v : Value) : Option (DataW Value × List MemPlace) := some (.held v, [])
/-- Block b is a map of texts, of n entries at most, that holds what f says. -/
def MapS (w : World) (b n : Nat) (f : ByteArray → Option Value) : Prop :=
  ∃ D : DataW Value, w.ownsMap Try.prog 9 heldR b n D ∧ Maps.IsMap D ∧ ∀ x kl, keyOf Try.prog 9 (.string x) = some kl → Maps.has D kl = (f x).isSome ∧ ∀ z, D.atKey kl (.held z) = .held ((f x).getD z)
theorem str_keyed : Maps.Keyed Try.prog 9 := Maps.string_keyed Try.underlying9
theorem key_str (s : ByteArray) (hs : s.size ≤ 1000000) : ∃ kl, keyOf Try.prog 9 (.string s) = some kl := ⟨_, WideMaps.keyOf_string_mk Try.underlying9 (by unfold maxLen; omega)⟩
section
variable {w w' : World} {b n : Nat} {f : ByteArray → Option Value}
theorem MapS.lt (h : MapS w b n f) : b < w.heap.size := by obtain ⟨D, h, _⟩ := h; exact h.lt
theorem MapS.of_block (h : MapS w b n f) (hb : w'.heap[b]? = w.heap[b]?) : MapS w' b n f := by
  obtain ⟨D, ⟨es, ck, h1, h2⟩, r⟩ := h
  exact ⟨D, ⟨es, ck, hb.trans h1, h2⟩, r⟩
theorem MapS.below {B : Nat} (h : MapS w b n f) (hb : Below B w w') (hB : b < B) : MapS w' b n f := h.of_block (hb.block b hB)
theorem MapS.made (w : World) : MapS (w.alloc (.map #[] 0)) w.heap.size 0 (fun _ => none) :=
  ⟨.map [], World.ownsMap_made w _ _ _, Maps.isMap_empty, fun x _ _ => ⟨rfl, fun z => rfl⟩⟩
theorem MapS.put (h : MapS w b n f) (hn : n < 1000000000) (t e : TypeId) (ht : Try.prog.underlying t = some (.map 9 e)) (x : ByteArray) (hx : x.size ≤ 1000000) (v : Value) :
    ∃ w', (Instr.mapUpdate t (.map (some b)) (.string x) v).run Try.prog w = .ok () w' ∧ MapS w' b (n + 1) (fun y => if y = x then some v else f y) ∧ w.grownBy w' (some b) := by
  obtain ⟨D, h, hm, r⟩ := h
  obtain ⟨kl, hx⟩ := key_str x hx
  obtain ⟨w', h1, h2, h3⟩ := h.update (val := v) (d := .held v) (ps := []) str_keyed ht (by unfold maxLen; omega) hx rfl
  refine ⟨w', h1, ⟨_, h2, hm.put _ _, fun y ky hy => ?_⟩, h3⟩
  by_cases e : y = x
  · subst e
    rw [hx] at hy
    injection hy with hy
    subst hy
    simp only [if_true, Option.isSome_some, Option.getD_some]
    exact ⟨Maps.has_put_same hm (str_keyed.key hx) _, fun z => Maps.atKey_put_same hm (str_keyed.key hx) _ _⟩
  · have hne : ky ≠ kl := fun h => e (by have := str_keyed.inj (h ▸ hy) hx; injection this)
    simp only [if_neg e]
    rw [Maps.has_put_other hne]
    exact ⟨(r y ky hy).1, fun z => (Maps.atKey_put_other hne _ _).trans ((r y ky hy).2 z)⟩
theorem MapS.get_ok (h : MapS w b n f) (t e : TypeId) (ht : Try.prog.underlying t = some (.map 9 e)) {z : Value} (hz : (zeroValue e).run Try.prog w = .ok z w) (x : ByteArray) (hx : x.size ≤ 1000000) :
    (Instr.lookup t (.map (some b)) (.string x) true).run Try.prog w = .ok (.tuple #[(f x).getD z, .bool (f x).isSome]) w := by
  obtain ⟨D, h, hm, r⟩ := h
  obtain ⟨kl, hx⟩ := key_str x hx
  obtain ⟨v, ps, h1, h2⟩ := h.look_ok (zd := .held z) (zp := []) str_keyed ht hz rfl hx
  have h5 : DataW.held v = DataW.held ((f x).getD z) := (congrArg Prod.fst (Option.some.inj h2)).trans ((r x kl hx).2 z)
  have h5 := DataW.held.inj h5
  rw [h1, (r x kl hx).1, h5]
end
theorem upon_insS {w : World} {b n : Nat} {f : ByteArray → Option Value} {o : Oper} {a : Act} {X : Act → World → Prop} {Q : Exit → Act → World → Prop} {F : Unit → World → Result Next} {t e : TypeId} {s : ByteArray} {val : Value} (HM : Hid (MapS w b n f)) (hn : n < 1000) (hs : s.size ≤ 1000)
    (ht : Try.prog.underlying t = some (.map 9 e))
    (hK : ∀ w', Hid (MapS w' b (n + 1) (fun y => if y = s then some val else f y)) → Hid (w.grownBy w' (some b)) → Oper.upon Try.prog o a X Q (F () w')) : Oper.upon Try.prog o a X Q ((Sem.run Try.prog (Instr.mapUpdate t (.map (some b)) (.string s) val) w).andThen F) := by
  obtain ⟨w', h1, h2, h3⟩ := HM.out.put (by omega) t e ht s (by omega) val
  rw [h1]
  exact hK w' h2 h3
/-- The operators. -/
def opF : ByteArray → Option Value := fun y =>
  if y = ⟨#[42, 42]⟩ then some (.func (.func 40) #[] #[])
  else if y = ⟨#[37]⟩ then some (.func (.func 39) #[] #[])
  else if y = ⟨#[47, 47]⟩ then some (.func (.func 38) #[] #[])
  else if y = ⟨#[42]⟩ then some (.func (.func 37) #[] #[])
  else if y = ⟨#[45]⟩ then some (.func (.func 36) #[] #[])
  else if y = ⟨#[43]⟩ then some (.func (.func 35) #[] #[])
  else none
set_option maxHeartbeats 2000000 in
theorem operators_is (w : World) : Calls Try.prog 25 #[] w fun e w' => ∃ b, e = .returned (.map (some b)) ∧ Hid (MapS w' b 6 opF) ∧ Hid (Below w.heap.size w w') := by
  have HM0 : Hid (MapS (w.alloc (.map #[] 0)) w.heap.size 0 (fun _ => none)) := MapS.made w
  have hmm := @run_makeMap Try.prog
  go_enter Try.func25, Try.ntmps25
  go_wp2_with (first
    | ((with_reducible refine upon_insS HM0 (by decide) (by decide) Try.underlying43 ?_); intro w1 HM1 HG1; clear HM0)
    | ((with_reducible refine upon_insS HM1 (by decide) (by decide) Try.underlying43 ?_); intro w2 HM2 HG2; clear HM1)
    | ((with_reducible refine upon_insS HM2 (by decide) (by decide) Try.underlying43 ?_); intro w3 HM3 HG3; clear HM2)
    | ((with_reducible refine upon_insS HM3 (by decide) (by decide) Try.underlying43 ?_); intro w4 HM4 HG4; clear HM3)
    | ((with_reducible refine upon_insS HM4 (by decide) (by decide) Try.underlying43 ?_); intro w5 HM5 HG5; clear HM4)
    | ((with_reducible refine upon_insS HM5 (by decide) (by decide) Try.underlying43 ?_); intro w6 HM6 HG6; clear HM5))
  go_ret
  refine ⟨_, rfl, HM6.out, ?_⟩
  have h0 : Below w.heap.size w (w.alloc (.map #[] 0)) := (Below.refl _ w).alloc (Nat.le_refl _) _
  have g : ∀ {A B : World}, Below w.heap.size w A → A.grownBy B (some w.heap.size) → Below w.heap.size w B := fun h hg => h.grown hg h.size (fun j e => by cases e; exact Nat.le_refl _)
  exact g (g (g (g (g (g h0 HG1.out) HG2.out) HG3.out) HG4.out) HG5.out) HG6.out
theorem zeroFn (w : World) : (zeroValue 41).run Try.prog w = .ok .nilFunc w := Try.zeroValue41 w
end Go.Proofs.Ytaekjkihdecmcaa
