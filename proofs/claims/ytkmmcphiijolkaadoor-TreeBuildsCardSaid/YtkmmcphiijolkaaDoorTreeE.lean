/-
  Rows of nodes of the call's own, at this program.
-/
import Derived.Test.YtkmmcphiijolkaaDoorTreeD
import Derived.Deep.AppendLies
import Derived.Maps.AppendAt
import Derived.Laws.OwnMore
set_option linter.unusedVariables false
set_option linter.unusedSimpArgs false
namespace Go.Proofs.YtkmmcphiijolkaaDoor
open Go.RowKit Go.Shelf
open Tr

theorem infoNode : (Tryd.prog.info? 37).map (fun i => (i.zero, i.size, i.bytes)) = some (some (.agg #[.int .i64 0, .int .i64 0, .string ⟨#[]⟩, .int .i64 0, .slice none 0 0]), 5, 64) := by kernel_rfl
/-- A node's five cells. -/
def flatN (p : NodeD × Value) : List Value := [.int .i64 p.1.1, .int .i64 p.1.2.1, .string ⟨p.1.2.2.1.toArray⟩, .int .i64 p.1.2.2.2.1, p.2]
def flatT (P : List (NodeD × Value)) : List Value := P.flatMap flatN
theorem flatT_append (P Q : List (NodeD × Value)) : flatT (P ++ Q) = flatT P ++ flatT Q := by simp [flatT]
theorem flatT_length : ∀ P : List (NodeD × Value), (flatT P).length = P.length * 5
  | [] => rfl
  | p :: P => by
    have := flatT_length P
    simp only [flatT, List.flatMap_cons, List.length_append, List.length_cons] at this ⊢
    rw [this]
    simp only [flatN, List.length_cons, List.length_nil]
    omega
theorem flatT_get : ∀ (P : List (NodeD × Value)) (k : Nat) (p : NodeD × Value) (i : Nat), P[k]? = some p → i < 5 → (flatT P)[k * 5 + i]? = (flatN p)[i]?
  | [], k, p, i, h, _ => by simp at h
  | q :: P, 0, p, i, h, hi => by
    simp only [List.getElem?_cons_zero, Option.some.injEq] at h
    subst h
    simp only [flatT, List.flatMap_cons, Nat.zero_mul, Nat.zero_add]
    rw [List.getElem?_append_left (by simp [flatN]; omega)]
  | q :: P, k + 1, p, i, h, hi => by
    simp only [List.getElem?_cons_succ] at h
    have := flatT_get P k p i h hi
    simp only [flatT, List.flatMap_cons] at this ⊢
    rw [List.getElem?_append_right (by simp [flatN]; omega)]
    rw [← this]
    congr 1
    simp [flatN]
    omega
/-- A node's kids, in a block that is not own. -/
def KRowX (own : Option Nat) (vk : Value) (ks : List Int) (w : World) : Prop := KRow vk ks w ∧ (ks ≠ [] → ∀ g, vk.ownBlock = some g → own ≠ some g)
/-- A row of nodes of the call's own. -/
def TRow (base : Nat) (v : Value) (P : List (NodeD × Value)) (w : World) : Prop := w.ownsRow base 37 5 v P.length (flatT P) ∧ ∀ p ∈ P, KRowX v.ownBlock p.2 p.1.2.2.2.2 w
theorem TRow.argT {base : Nat} {v : Value} {P : List (NodeD × Value)} {w : World} (h : TRow base v P w) : ArgT v (P.map (·.1)) w := by
  obtain ⟨ho, hk⟩ := h
  rcases ho.2 with ⟨rfl, hn⟩ | ⟨g, cap, cur, rfl, hg, hgb, hnc, hcm, hcs, htk⟩
  · have hx : P = [] := by cases P with
      | nil => rfl
      | cons a l => simp at hn
    subst hx
    exact ⟨none, 0, rfl, fun k x hx => by simp at hx⟩
  · refine ⟨_, cap, by rw [List.length_map], fun k x hx => ?_⟩
    rw [List.getElem?_map] at hx
    cases hp : P[k]? with
    | none => rw [hp] at hx; simp at hx
    | some p =>
      rw [hp] at hx
      simp only [Option.map_some, Option.some.injEq] at hx
      subst hx
      have hlt := (List.getElem?_eq_some_iff.1 hp).1
      have hcell : ∀ i, i < 5 → w.cell? ⟨g, 0 + (k * 5 + i), none⟩ = (flatN p)[i]? := fun i hi => by
        rw [Nat.zero_add]
        have := ho.cellAt (g := g) (cap := cap) (k * 5 + i) (by omega)
        rw [this]
        exact flatT_get P k p i hp hi
      refine ⟨g, 0, p.2, rfl, (Array.getElem?_eq_some_iff.1 hgb).1, hcell 0 (by omega), hcell 1 (by omega), hcell 2 (by omega), hcell 3 (by omega), hcell 4 (by omega), (hk p (List.mem_of_getElem? hp)).1⟩
theorem KRow.same {v : Value} {l : List Int} {w w' : World} (h : KRow v l w) (hs : w.heap.size ≤ w'.heap.size) (hb : l ≠ [] → ∀ g, v.ownBlock = some g → g < w.heap.size → w'.heap[g]? = w.heap[g]?) : KRow v l w' := by
  obtain ⟨pa, cap, e, hc⟩ := h
  refine ⟨pa, cap, e, fun k c hk => ?_, hc.2⟩
  obtain ⟨g, o, e2, hg, a0⟩ := hc.1 k c hk
  refine ⟨g, o, e2, Nat.lt_of_lt_of_le hg hs, ?_⟩
  rw [World.cell?_of_block (w := w) (hb (fun e => by rw [e] at hk; simp at hk) g (by rw [e, e2]; rfl) hg)]
  exact a0
theorem TRow.grow {base : Nat} {v v' : Value} {P Q : List (NodeD × Value)} {w w' : World} (h : TRow base v P w) (hown : w'.ownsRow base 37 5 v' (P.length + Q.length) (flatT P ++ flatT Q)) (hg : w.grownBy w' v.ownBlock)
    (hl : v'.ownBlock = v.ownBlock ∨ v'.ownBlock = some w.heap.size) (hq : ∀ q ∈ Q, KRowX v.ownBlock q.2 q.1.2.2.2.2 w) : TRow base v' (P ++ Q) w' := by
  refine ⟨by rw [List.length_append, flatT_append]; exact hown, fun p hp => ?_⟩
  have hx : KRowX v.ownBlock p.2 p.1.2.2.2.2 w := by
    rcases List.mem_append.1 hp with hp | hp
    · exact h.2 p hp
    · exact hq p hp
  refine ⟨hx.1.same hg.size (fun hne g e hlt => hg.block g hlt (fun e2 => hx.2 hne g e e2.symm)), fun hne g e => ?_⟩
  rcases hl with hl | hl
  · rw [hl]; exact hx.2 hne g e
  · rw [hl]
    intro e2
    injection e2 with e2
    obtain ⟨pa, cap, ev, hc⟩ := hx.1
    obtain ⟨c, hc0⟩ : ∃ c, p.1.2.2.2.2[0]? = some c := by
      cases hks : p.1.2.2.2.2 with
      | nil => exact absurd hks hne
      | cons a l => exact ⟨a, rfl⟩
    obtain ⟨g', o, e3, hg', _⟩ := hc.1 0 c hc0
    rw [ev, e3] at e
    simp only [Value.ownBlock, Option.some.injEq] at e
    omega
theorem TRow.below {base : Nat} {v : Value} {P : List (NodeD × Value)} {w w' : World} (h : TRow base v P w) (hb : Below w.heap.size w w') : TRow base v P w' := by
  refine ⟨?_, fun p hp => ⟨(h.2 p hp).1.below hb, (h.2 p hp).2⟩⟩
  refine ⟨h.1.1, ?_⟩
  rcases h.1.2 with h2 | ⟨g, cap, cur, e, hg, hgb, r⟩
  · exact Or.inl h2
  · exact Or.inr ⟨g, cap, cur, e, hg, (hb.block g (Array.getElem?_eq_some_iff.1 hgb).1).trans hgb, r⟩
/-- A row written out. -/
theorem TRow.lit (base : Nat) (P : List (NodeD × Value)) (w : World) (cs : Array Value) (hcs : cs.toList = flatT P) (hb : base ≤ w.heap.size) (hl : P.length ≤ maxLen) (hk : ∀ p ∈ P, KRow p.2 p.1.2.2.2.2 w) : TRow base (.slice (some ⟨w.heap.size, 0, none⟩) P.length P.length) P (w.alloc (.cells cs 37)) := by
  have hbel := (Below.refl w.heap.size w).alloc (Nat.le_refl _) (.cells cs 37)
  refine ⟨⟨flatT_length P, Or.inr ⟨w.heap.size, P.length, cs, rfl, hb, heap_alloc_new w _, Nat.le_refl _, hl, by rw [← Array.length_toList, hcs, flatT_length], ?_⟩⟩, fun p hp => ⟨(hk p hp).below hbel, fun hne g e => ?_⟩⟩
  · rw [hcs]
    exact List.take_of_length_le (by rw [flatT_length]; exact Nat.le_refl _)
  · obtain ⟨pa, cap, ev, hc⟩ := hk p hp
    obtain ⟨c, hc0⟩ : ∃ c, p.1.2.2.2.2[0]? = some c := by
      cases hks : p.1.2.2.2.2 with
      | nil => exact absurd hks hne
      | cons a l => exact ⟨a, rfl⟩
    obtain ⟨g', o, e3, hg', _⟩ := hc.1 0 c hc0
    rw [ev, e3] at e
    simp only [Value.ownBlock, Option.some.injEq] at e
    intro e2
    simp only [Value.ownBlock, Option.some.injEq] at e2
    omega
/-- A row of kids written out. -/
theorem KRow.lit (w : World) (cs : Array Value) (ks : List Int) (hcs : cs.toList = ks.map (Value.int .i64)) : KRow (.slice (some ⟨w.heap.size, 0, none⟩) ks.length ks.length) ks (w.alloc (.cells cs 3)) :=
  ⟨_, _, rfl, fun k c hk => ⟨w.heap.size, 0, rfl, by simp, by
    rw [Nat.zero_add, cell_of_row _ w.heap.size k cs 3 (0, 0) (heap_alloc_new w _), ← Array.getElem?_toList, hcs, List.getElem?_map, hk]
    rfl⟩, Nat.le_refl _⟩
theorem KRow.nil_ (w : World) : KRow (.slice none 0 0) [] w := ⟨none, 0, rfl, fun k c hk => by simp at hk, Nat.le_refl _⟩
end Go.Proofs.YtkmmcphiijolkaaDoor
