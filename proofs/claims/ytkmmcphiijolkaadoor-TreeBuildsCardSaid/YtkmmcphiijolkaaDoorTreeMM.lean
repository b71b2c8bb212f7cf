/-
  The law's builds: plain facts, and rows that stand apart.
-/
import Derived.Test.YtkmmcphiijolkaaDoorTreeKK
import Derived.Test.YtkmmcphiijolkaaDoorTreeBB
import Derived.Test.YtkmmcphiijolkaaDoorTreeLL
import Derived.Deep.RegionHeld3
import Derived.Deep.AppendLies
set_option linter.unusedVariables false
set_option linter.unusedSimpArgs false
namespace Go.Proofs.YtkmmcphiijolkaaDoor
open Go.RowKit Go.Shelf
open Tr

namespace Tr
/-- A step's kids: as they stand, or by rests. -/
def stepK (r : Bool) (i : Nat) (ks : List Int) : List Int := (ks.take 4).map fun n => if r then n % ((i : Int) + 2) - 1 else n
/-- The node of a step. -/
def stepN (r : Bool) (i : Nat) (x : NodeD) : NodeD := (x.1, x.2.1, x.2.2.1, x.2.2.2.1, castL (kidsOf i (stepK r i x.2.2.2.2)))
def stepsT (r : Bool) : Nat → List NodeD → List NodeD
  | _, [] => []
  | i, x :: xs => stepN r i x :: stepsT r (i + 1) xs
theorem stepsT_length (r : Bool) : ∀ (i : Nat) (l : List NodeD), (stepsT r i l).length = l.length
  | i, [] => rfl
  | i, x :: xs => by simp [stepsT, stepsT_length r (i + 1) xs]
theorem stepsT_append (r : Bool) : ∀ (i : Nat) (a b : List NodeD), stepsT r i (a ++ b) = stepsT r i a ++ stepsT r (i + a.length) b
  | i, [], b => by simp [stepsT]
  | i, x :: xs, b => by
    simp only [List.cons_append, stepsT, stepsT_append r (i + 1) xs b, List.length_cons]
    rw [show i + 1 + xs.length = i + (xs.length + 1) by omega]
theorem stepsT_take (r : Bool) (l : List NodeD) (i : Nat) (x : NodeD) (hx : l[i]? = some x) : stepsT r 0 (l.take (i + 1)) = stepsT r 0 (l.take i) ++ [stepN r i x] := by
  have hi := (List.getElem?_eq_some_iff.1 hx).1
  rw [take_snoc l i x hx, stepsT_append]
  simp only [stepsT, List.length_take, Nat.min_eq_left (Nat.le_of_lt hi), Nat.zero_add]
theorem stepK_length (r : Bool) (i : Nat) (ks : List Int) : (stepK r i ks).length = min 4 ks.length := by simp [stepK]
theorem stepK_get (r : Bool) (i : Nat) (ks : List Int) (k : Nat) (n : Int) (hk : k < 4) (hn : ks[k]? = some n) : (stepK r i ks)[k]? = some (if r then n % ((i : Int) + 2) - 1 else n) := by
  unfold stepK
  rw [List.getElem?_map, List.getElem?_take, if_pos hk, hn]
  rfl
theorem stepsT_kids (r : Bool) : ∀ (i : Nat) (l : List NodeD), KidsAt i (stepsT r i l)
  | i, [] => trivial
  | i, x :: xs => by
    refine ⟨fun k hk => ?_, stepsT_kids r (i + 1) xs⟩
    simp only [stepN, castL, List.mem_map] at hk
    obtain ⟨y, hy, rfl⟩ := hk
    have := kidsOf_lt i _ y hy
    omega
theorem stepsT_few (r : Bool) : ∀ (i : Nat) (l : List NodeD), ∀ x ∈ stepsT r i l, x.2.2.2.2.length ≤ 4
  | i, [], x, h => by simp [stepsT] at h
  | i, y :: ys, x, h => by
    simp only [stepsT, List.mem_cons] at h
    rcases h with rfl | h
    · have h1 := kidsOf_length i (stepK r i y.2.2.2.2)
      have h2 := stepK_length r i y.2.2.2.2
      simp only [stepN, castL, List.length_map]
      omega
    · exact stepsT_few r (i + 1) ys x h
end Tr

theorem own_but {base n sz : Nat} {T : TypeId} {v : Value} {xs : List Value} {w w' : World} {p : Nat → Prop} (h : w.ownsRow base T sz v n xs) (hb : But p w w') (hp : ∀ g, v.ownBlock = some g → ¬ p g) : w'.ownsRow base T sz v n xs := by
  refine ⟨h.1, ?_⟩
  rcases h.2 with e | ⟨g, cap, cur, e, hg, hgb, r⟩
  · exact Or.inl e
  · exact Or.inr ⟨g, cap, cur, e, hg, ((hb.both g (Array.getElem?_eq_some_iff.1 hgb).1 (hp g (by rw [e]; rfl))).1).trans hgb, r⟩
theorem TRow.but2 {base : Nat} {v : Value} {P : List (NodeD × Value)} {w w' : World} {p : Nat → Prop} (h : TRow base v P w) (hb : But p w w') (hv : ∀ g, v.ownBlock = some g → ¬ p g) (hk : ∀ q ∈ P, q.1.2.2.2.2 ≠ [] → ∀ g, q.2.ownBlock = some g → ¬ p g) : TRow base v P w' :=
  ⟨own_but h.1 hb hv, fun q hq => ⟨(h.2 q hq).1.same hb.size (fun hne g e hlt => (hb.both g hlt (hk q hq hne g e)).1), (h.2 q hq).2⟩⟩
theorem Bld.but {base bB : Nat} {v : Value} {P : List (NodeD × Value)} {w w' : World} {p : Nat → Prop} (h : Bld base bB v P w) (hb : But p w w') (hB : ¬ p bB) (hv : ∀ g, v.ownBlock = some g → ¬ p g) (hk : ∀ q ∈ P, q.1.2.2.2.2 ≠ [] → ∀ g, q.2.ownBlock = some g → ¬ p g) : Bld base bB v P w' :=
  ⟨((hb.both bB (Array.getElem?_eq_some_iff.1 h.blk).1 hB).1).trans h.blk, h.row.but2 hb hv hk, h.hb, h.form⟩
theorem KRow.lt {v : Value} {ks : List Int} {w : World} (h : KRow v ks w) (hne : ks ≠ []) (g : Nat) (e : v.ownBlock = some g) : g < w.heap.size := by
  obtain ⟨pa, cap, ev, hc⟩ := h
  obtain ⟨c, hc0⟩ : ∃ c, ks[0]? = some c := by
    cases ks with
    | nil => exact absurd rfl hne
    | cons a l => exact ⟨a, rfl⟩
  obtain ⟨g', o, e3, hg', _⟩ := hc.1 0 c hc0
  rw [ev, e3] at e
  simp only [Value.ownBlock, Option.some.injEq] at e
  omega
theorem own_lt {base n sz : Nat} {T : TypeId} {v : Value} {xs : List Value} {w : World} (h : w.ownsRow base T sz v n xs) (g : Nat) (e : v.ownBlock = some g) : base ≤ g ∧ g < w.heap.size := h.lt g e

/-- A builder, and another row: nothing of the one lies in the other. -/
structure Sep (bB : Nat) (v : Value) (P : List (NodeD × Value)) (u : Value) (Q : List (NodeD × Value)) : Prop where
  s1 : ∀ g, u.ownBlock = some g → g ≠ bB ∧ v.ownBlock ≠ some g
  s2 : ∀ p ∈ P, p.1.2.2.2.2 ≠ [] → ∀ g, p.2.ownBlock = some g → u.ownBlock ≠ some g
  s3 : ∀ q ∈ Q, q.1.2.2.2.2 ≠ [] → ∀ g, q.2.ownBlock = some g → g ≠ bB ∧ v.ownBlock ≠ some g

/-- Nodes that are written out are appended to a row of the call's own, in a region that draws its order. -/
theorem step_tapp {ops : Array Oper} {o : Oper} {a : Act} {K : Act → World → Prop} {Q' : Exit → Act → World → Prop} {E : Prop} (hgd : o.guard = none) (s x : Operand)
    (ho : o.op = .call { callee := .builtin .append, args := #[s, x], argTypes := #[25, 25] }) (base : Nat) (v : Value) (P : List (NodeD × Value)) (w : World) (hT : TRow base v P w) (hbase : base ≤ w.heap.size) (W : World) (hb : Below w.heap.size w W) (hz : W.heap.size = w.heap.size + 1)
    (Q : List (NodeD × Value)) (n m : Nat) (hn : P.length = n) (hm : Q.length = m) (hQ : 0 < m) (cs : Array Value) (hc : W.heap[w.heap.size]? = some (.cells cs 37 (0, 0))) (hcs : cs.toList = flatT Q) (hs : a.eval s = v) (hx : a.eval x = .slice (some ⟨w.heap.size, 0, none⟩) m m)
    (hq : ∀ q ∈ Q, KRowX v.ownBlock q.2 q.1.2.2.2.2 w) (hlen : n + m ≤ 1000000)
    (h : ∀ g c w', Hid (TRow base (.slice (some ⟨g, 0, none⟩) (n + m) c) (P ++ Q) w') → Hid ((P ++ Q).length = n + m) → Hid (But (fun k => v.ownBlock = some k) w w') → Hid (some g = v.ownBlock ∨ w.heap.size ≤ g) → K (a.put o.dst (.slice (some ⟨g, 0, none⟩) (n + m) c)) w') :
    if Region.wanted o (yielded ops a.tmps) = true then Oper.wp Tryd.prog o a W K Q' else E := by
  subst hn
  subst hm
  obtain ⟨i0, hi, hz0, hz1, hz2⟩ := info_parts infoNode
  have hTW := hT.below hb
  have hnew : ∀ (j : Nat) (u : Value), (flatT Q)[j]? = some u → W.cell? ((⟨w.heap.size, 0, none⟩ : Addr).add j) = some u := by
    intro j u h
    have e : ((⟨w.heap.size, 0, none⟩ : Addr).add j) = ⟨w.heap.size, j, none⟩ := by unfold Addr.add; split <;> simp_all
    rw [e, cell_of_row _ w.heap.size j _ 37 (0, 0) hc, ← Array.getElem?_toList, hcs]
    exact h
  refine step_append_lies _ hgd s x 25 ho base 37 i0 _ 5 64 Tryd.underlying25 hi hz0 hz1 hz2 rfl (by decide) v P.length (flatT P) hs hTW.1 ⟨w.heap.size, 0, none⟩ Q.length Q.length (flatT Q) hx (flatT_length Q) hnew ?_ hQ (by unfold maxLen; omega) (by omega) (by omega) (w.heap.size + 1) hz ?_
  · intro u hu
    rcases flatT_one Q u hu with ⟨i, rfl⟩ | ⟨s, rfl⟩ | ⟨q, hqm, rfl⟩
    · rfl
    · rfl
    · obtain ⟨pa, cap, e, _⟩ := (hq q hqm).1
      rw [e]; rfl
  · intro g c w' hown' hgrow hat hlt
    have hloc : (Value.slice (some ⟨g, 0, none⟩) (P.length + Q.length) c).ownBlock = v.ownBlock ∨ (Value.slice (some ⟨g, 0, none⟩) (P.length + Q.length) c).ownBlock = some W.heap.size := by
      rcases hat with e | e
      · exact Or.inl (by rw [e]; rfl)
      · exact Or.inr (by rw [e, hz]; rfl)
    have hT' := hTW.grow hown' hgrow hloc (fun q hqm => ⟨(hq q hqm).1.below hb, (hq q hqm).2⟩)
    have hs2 := hb.size
    refine h g c w' hT' (show _ = _ by rw [List.length_append]) (show But _ _ _ from ⟨hgrow.os.trans hb.os, hgrow.tape.trans hb.tape, hgrow.output.trans hb.output, Nat.le_trans hs2 hgrow.size, fun k hk hn => ⟨(hgrow.block k (by omega) (fun e => hn e.symm)).trans (hb.block k hk), fun e => hn e⟩⟩) ?_
    show _ ∨ _
    rcases hat with e | e
    · exact Or.inl e.symm
    · exact Or.inr (by omega)
theorem step_all {bB : Nat} {v v' vk u um : Value} {P Q : List (NodeD × Value)} {wr w5 w9 : World} {nd : NodeD} {g9 c9 i : Nat}
    (hB : Bld bB bB v P wr) (hT : TRow bB u Q wr) (hS : Sep bB v P u Q) (hB5 : Bld bB bB v' (P ++ [(nd, vk)]) w5) (hC5 : But (fun k => k = bB ∨ v.ownBlock = some k) wr w5)
    (hL5 : v'.ownBlock = v.ownBlock ∨ ∃ g, v'.ownBlock = some g ∧ wr.heap.size ≤ g) (hF5 : ∀ g, vk.ownBlock = some g → wr.heap.size ≤ g)
    (hm : ∀ g, um.ownBlock = some g → g ≠ bB ∧ v.ownBlock ≠ some g ∧ g < wr.heap.size) (hB9 : But (fun k => u.ownBlock = some k) w5 w9) (hG9 : some g9 = u.ownBlock ∨ w5.heap.size ≤ g9) :
    Bld bB bB v' (P ++ [(nd, vk)]) w9 ∧ Sep bB v' (P ++ [(nd, vk)]) (.slice (some ⟨g9, 0, none⟩) (i + 1) c9) (Q ++ [(nd, um)]) ∧ Below bB wr w9 := by
  have hbB : bB < wr.heap.size := (Array.getElem?_eq_some_iff.1 hB.blk).1
  have hsz := hC5.size
  have hu : ∀ g, u.ownBlock = some g → bB ≤ g ∧ g < wr.heap.size := fun g e => hT.1.lt g e
  have hv : ∀ g, v.ownBlock = some g → bB ≤ g ∧ g < wr.heap.size := fun g e => hB.row.1.lt g e
  have hv' : ∀ g, v'.ownBlock = some g → g < w5.heap.size := fun g e => (hB5.row.1.lt g e).2
  have hvu : ∀ g, v'.ownBlock = some g → u.ownBlock ≠ some g := fun g e e2 => by
    rcases hL5 with h | ⟨g', h, hg⟩
    · exact (hS.s1 g e2).2 (h.symm.trans e)
    · rw [h] at e; injection e with e; subst e; have := hu _ e2; omega
  have hpu : ∀ p ∈ P ++ [(nd, vk)], p.1.2.2.2.2 ≠ [] → ∀ g, p.2.ownBlock = some g → u.ownBlock ≠ some g := fun p hp hne g e e2 => by
    rcases List.mem_append.1 hp with hp | hp
    · exact hS.s2 p hp hne g e e2
    · simp only [List.mem_cons, List.not_mem_nil, or_false] at hp
      subst hp
      have h1 := hF5 g e
      have h2 := hu g e2
      omega
  refine ⟨hB5.but hB9 (fun e => (hS.s1 bB e).1 rfl) hvu hpu, ⟨?_, ?_, ?_⟩, ?_⟩
  · intro g e
    simp only [Value.ownBlock, Option.some.injEq] at e
    subst e
    rcases hG9 with h | h
    · exact ⟨(hS.s1 g9 h.symm).1, fun e2 => hvu g9 e2 h.symm⟩
    · exact ⟨by omega, fun e2 => by have := hv' g9 e2; omega⟩
  · intro p hp hne g e e2
    simp only [Value.ownBlock, Option.some.injEq] at e2
    subst e2
    rcases hG9 with h | h
    · exact hpu p hp hne g9 e h.symm
    · have := (hB5.row.2 p hp).1.lt hne g9 e; omega
  · intro q hq hne g e
    rcases List.mem_append.1 hq with hq | hq
    · have h3 := hS.s3 q hq hne g e
      refine ⟨h3.1, fun e2 => ?_⟩
      rcases hL5 with h | ⟨g', h, hg⟩
      · exact h3.2 (h.symm.trans e2)
      · rw [h] at e2; injection e2 with e2; subst e2
        have := (hT.2 q hq).1.lt hne _ e; omega
    · simp only [List.mem_cons, List.not_mem_nil, or_false] at hq
      subst hq
      have h3 := hm g e
      refine ⟨h3.1, fun e2 => ?_⟩
      rcases hL5 with h | ⟨g', h, hg⟩
      · exact h3.2.1 (h.symm.trans e2)
      · rw [h] at e2; injection e2 with e2; subst e2; omega
  · exact (hC5.below (by omega) (fun b hb e => e.elim (fun h => by omega) (fun h => by have := (hv b h).1; omega))).trans (hB9.below (by omega) (fun b hb e => by have := (hu b e).1; omega))
end Go.Proofs.YtkmmcphiijolkaaDoor
