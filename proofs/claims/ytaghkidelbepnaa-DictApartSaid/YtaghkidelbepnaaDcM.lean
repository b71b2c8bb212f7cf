/-
  Maps of values to numbers, as functions, with how many entries there are, at this program.
-/
import Derived.Test.YtaghkidelbepnaaDiA
import Derived.Maps.OwnIn
import Derived.Maps.OwnSet
import Derived.Maps.Keyed
import Derived.DeepKeys4
set_option linter.unusedVariables false
set_option linter.unusedSimpArgs false
namespace Go.Proofs.Ytaghkidelbepnaa
open Go.RowKit Go.Shelf
open Di

def heldR (v : Value) : Option (DataW Value × List MemPlace) := some (.held v, [])
abbrev nV (i : Nat) : Value := .int .i64 (i : Int)
/-- Block b is a map of values, of n entries, that holds what f says. -/
def MapN (w : World) (b n : Nat) (f : V → Option Nat) : Prop :=
  ∃ D : DataW Value, w.ownsMap Try.prog 32 heldR b n D ∧ Maps.size D = n ∧ ∀ x kl, keyOf Try.prog 32 (vV x) = some kl → Maps.has D kl = (f x).isSome ∧ ∀ z, D.atKey kl (.held z) = .held (((f x).map nV).getD z)
theorem laidOut2 : laidOutB Try.prog = true := by kernel_rfl
theorem val_keyed : Maps.Keyed Try.prog 32 := Maps.Keyed.of_law (deep_law_laid laidOut2 (m := 3) (by decide) (of_decide_eq_true (by kernel_rfl)) (by kernel_rfl) (by kernel_rfl))
theorem vV_inj {x y : V} (h : vV x = vV y) : x = y := by
  obtain ⟨a, b, c⟩ := x
  obtain ⟨a', b', c'⟩ := y
  simp at h
  obtain ⟨rfl, rfl, rfl⟩ := h
  rfl
theorem lits_int (d : Nat) (n : Int) (h : (Lit.int .i64 n).wf = true) : Try.prog.keyLits (d + 1) 3 [.int .i64 n] = some [.int .i64 n] := by
  rw [Program.keyLits.eq_def]
  simp only [Try.underlying3, h, and_self, if_true]
theorem lits_int64 (d : Nat) (n : Int) (h : (Lit.int .i64 n).wf = true) : Try.prog.keyLits (d + 1) 2 [.int .i64 n] = some [.int .i64 n] := by
  rw [Program.keyLits.eq_def]
  simp only [Try.underlying2, h, and_self, if_true]
theorem lits_string (d : Nat) (s : ByteArray) (h : s.size ≤ maxLen) : Try.prog.keyLits (d + 1) 9 [.string s] = some [.string s.data.toList] := by
  rw [Program.keyLits.eq_def]
  simp only [Try.underlying9, h, if_true]
theorem wf_64 {n : Int} (h : -9223372036854775808 ≤ n ∧ n ≤ 9223372036854775807) : (Lit.int .i64 n).wf = true := by
  simp [Lit.wf, IntKind.min, IntKind.max, IntKind.bits, IntKind.signed]; omega
theorem key_val {x : V} (h : Vok x) : ∃ kl, keyOf Try.prog 32 (vV x) = some kl := by
  obtain ⟨a, c, s⟩ := x
  have h1 := wf_64 h.k
  have h3 := wf_64 h.n
  have h2 : s.size ≤ maxLen := by have := h.s; unfold maxLen; simp only at this; omega
  simp only at h1 h3
  have ki : Try.prog.cellsOf 3 = 1 := by kernel_rfl
  have ks : Try.prog.cellsOf 9 = 1 := by kernel_rfl
  have kl : Try.prog.cellsOf 2 = 1 := by kernel_rfl
  have kt : Try.prog.cellsOf 32 = 3 := by kernel_rfl
  have ky : Try.prog.keyType 32 = true := by kernel_rfl
  obtain ⟨d, hd⟩ : ∃ d, Try.prog.types.size = d + 1 := ⟨Try.prog.types.size - 1, by have : (1 : Nat) ≤ Try.prog.types.size := of_decide_eq_true (by kernel_rfl); omega⟩
  have hc : (vV (a, c, s)).cells.toList = [.int .i64 a, .int .i64 c, .string s] := rfl
  have hl : Try.prog.keyLits (Try.prog.types.size + 1) 32 [.int .i64 a, .int .i64 c, .string s] = some [.int .i64 a, .int .i64 c, .string s.data.toList] := by
    rw [hd, Program.keyLits.eq_def]
    simp only [Try.underlying32]
    have e1 := lits_int d a h1
    have e2 := lits_string d s h2
    have e3 := lits_int64 d c h3
    simp only [kt, List.length_cons, List.length_nil, true_and]
    rw [if_pos (by kernel_rfl)]
    simp only [List.mapM_cons, List.mapM_nil, ki, ks, kl, List.drop_succ_cons, List.drop_zero, List.take_succ_cons, List.take_zero, e1, e2, e3]
    rfl
  have hf : (vV (a, c, s)).formed Try.prog 32 = true := by
    simp only [Value.formed, Try.underlying32, kt]
    rfl
  refine ⟨.string (keyBytes [.int .i64 a, .int .i64 c, .string s.data.toList]), ?_⟩
  unfold keyOf
  rw [Try.underlying32]
  simp only [ky, hf, hc, hl, Bool.and_self, if_true, Option.map_some]
section
variable {w w' : World} {b n : Nat} {f : V → Option Nat}
theorem MapN.lt (h : MapN w b n f) : b < w.heap.size := by obtain ⟨D, h, _⟩ := h; exact h.lt
theorem MapN.of_block (h : MapN w b n f) (hb : w'.heap[b]? = w.heap[b]?) : MapN w' b n f := by
  obtain ⟨D, ⟨es, ck, h1, h2⟩, r⟩ := h
  exact ⟨D, ⟨es, ck, hb.trans h1, h2⟩, r⟩
theorem MapN.is_map (h : MapN w b n f) : ∃ es ck, w.heap[b]? = some (.map es ck) := by
  obtain ⟨D, ⟨es, ck, h1, h2⟩, r⟩ := h
  exact ⟨es, ck, h1⟩
theorem MapN.made (w : World) : MapN (w.alloc (.map #[] 0)) w.heap.size 0 (fun _ => none) :=
  ⟨.map [], World.ownsMap_made w _ _ _, rfl, fun x _ _ => ⟨rfl, fun z => rfl⟩⟩
theorem MapN.put (h : MapN w b n f) (hn : n < 1000000000) {x : V} (hx : Vok x) (hf : f x = none) (i : Nat) :
    ∃ w', (Instr.mapUpdate 71 (.map (some b)) (vV x) (nV i)).run Try.prog w = .ok () w' ∧ MapN w' b (n + 1) (fun y => if y = x then some i else f y) ∧ w.grownBy w' (some b) := by
  obtain ⟨D, h, hs, r⟩ := h
  obtain ⟨kl, hkl⟩ := key_val hx
  have hm := h.isMap
  obtain ⟨w', h1, h2, h3⟩ := h.update (val := nV i) (d := .held (nV i)) (ps := []) val_keyed Try.underlying71 (by unfold maxLen; omega) hkl rfl
  refine ⟨w', h1, ⟨_, h2, ?_, fun y ky hy => ?_⟩, h3⟩
  · rw [Maps.size_put (h.tidy val_keyed), (r x kl hkl).1, hf, hs]
    rfl
  · by_cases e : y = x
    · subst e
      rw [hkl] at hy
      injection hy with hy
      subst hy
      simp only [if_true, Option.isSome_some, Option.map_some, Option.getD_some]
      exact ⟨Maps.has_put_same hm (val_keyed.key hkl) _, fun z => Maps.atKey_put_same hm (val_keyed.key hkl) _ _⟩
    · have hne : ky ≠ kl := fun h => e (vV_inj (val_keyed.inj (h ▸ hy) hkl))
      simp only [if_neg e]
      rw [Maps.has_put_other hne]
      exact ⟨(r y ky hy).1, fun z => (Maps.atKey_put_other hne _ _).trans ((r y ky hy).2 z)⟩
theorem MapN.drop (h : MapN w b n f) {x : V} (hx : Vok x) {i : Nat} (hf : f x = some i) (ty : TypeId) :
    ∃ w', (Builtin.delete_ #[71, 32] ty #[.map (some b), vV x]).run Try.prog w = .ok (.tuple #[]) w' ∧ MapN w' b (n - 1) (fun y => if y = x then none else f y) ∧ w.grownBy w' (some b) := by
  obtain ⟨D, h, hs, r⟩ := h
  obtain ⟨kl, hkl⟩ := key_val hx
  have hm := h.isMap
  obtain ⟨w', h1, h2, h3⟩ := h.drop val_keyed Try.underlying71 hkl ty
  have hsz : Maps.size (D.del kl) = n - 1 := by
    have := Maps.size_del (h.tidy val_keyed) (k := kl)
    rw [(r x kl hkl).1, hf, hs] at this
    simp at this
    omega
  refine ⟨w', h1, ⟨_, ?_, hsz, fun y ky hy => ?_⟩, h3.grown⟩
  · obtain ⟨es, ck, g1, g2, g3, g4⟩ := h2
    refine ⟨es, ck, g1, g2, ?_, g4⟩
    rw [← hsz, g4]
    simp [Maps.size, length_sorted]
  · by_cases e : y = x
    · subst e
      rw [hkl] at hy
      injection hy with hy
      subst hy
      simp only [if_true, Option.isSome_none, Option.map_none, Option.getD_none]
      exact ⟨Maps.has_del_same, fun z => Maps.atKey_del_same _⟩
    · have hne : ky ≠ kl := fun h => e (vV_inj (val_keyed.inj (h ▸ hy) hkl))
      simp only [if_neg e]
      rw [Maps.has_del_other hne]
      exact ⟨(r y ky hy).1, fun z => (Maps.atKey_del_other hne _).trans ((r y ky hy).2 z)⟩
theorem MapN.get (h : MapN w b n f) {x : V} (hx : Vok x) :
    (Instr.lookup 71 (.map (some b)) (vV x) true).run Try.prog w = .ok (.tuple #[((f x).map nV).getD (.int .i64 0), .bool (f x).isSome]) w := by
  obtain ⟨D, h, hm, r⟩ := h
  obtain ⟨kl, hkl⟩ := key_val hx
  obtain ⟨v, ps, h1, h2⟩ := h.look_ok (zd := .held (.int .i64 0)) (zp := []) val_keyed Try.underlying71 (z := .int .i64 0) (Try.zeroValue3 w) rfl hkl
  have h5 : DataW.held v = DataW.held (((f x).map nV).getD (.int .i64 0)) := (congrArg Prod.fst (Option.some.inj h2)).trans ((r x kl hkl).2 _)
  have h5 := DataW.held.inj h5
  rw [h1, (r x kl hkl).1, h5]
theorem MapN.len (h : MapN w b n f) (ty : TypeId) : (Builtin.len_ #[71] ty #[.map (some b)]).run Try.prog w = .ok (.int .i64 (n : Int)) w := by
  obtain ⟨D, h, hs, r⟩ := h
  rw [h.len Try.underlying71 ty, hs]
end
end Go.Proofs.Ytaghkidelbepnaa
