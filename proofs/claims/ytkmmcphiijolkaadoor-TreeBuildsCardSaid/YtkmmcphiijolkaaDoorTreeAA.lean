/-
  Nodes added to a row of the call's own, at this program.
-/
import Derived.Test.YtkmmcphiijolkaaDoorTreeE
set_option linter.unusedVariables false
set_option linter.unusedSimpArgs false
namespace Go.Proofs.YtkmmcphiijolkaaDoor
open Go.RowKit Go.Shelf
open Tr

theorem TRow.app {base : Nat} {v v' : Value} {P Q : List (NodeD × Value)} {w w2 w1 : World} (h : TRow base v P w) (hb : Below w.heap.size w w2) (hown : w1.ownsRow base 37 5 v' (P.length + Q.length) (flatT P ++ flatT Q)) (hg : w2.grownBy w1 v.ownBlock)
    (hl : v'.ownBlock = v.ownBlock ∨ v'.ownBlock = some w2.heap.size) (hq : ∀ q ∈ Q, KRow q.2 q.1.2.2.2.2 w2 ∧ (q.1.2.2.2.2 ≠ [] → ∀ g, q.2.ownBlock = some g → w.heap.size ≤ g)) : TRow base v' (P ++ Q) w1 :=
  (h.below hb).grow hown hg hl fun q hq2 => ⟨(hq q hq2).1, fun hne g e e2 => by
    have h1 := (hq q hq2).2 hne g e
    have h2 := (h.1.lt g e2).2
    omega⟩
theorem TRow.wide {base : Nat} {v : Value} {P : List (NodeD × Value)} {w w2 w1 w0 : World} (h : TRow base v P w) (h0 : Below base w0 w) (hb : Below w.heap.size w w2) (hbase : base ≤ w.heap.size) (hg : w2.grownBy w1 v.ownBlock) : Below base w0 w1 :=
  (h0.trans (hb.mono hbase)).grown hg (Nat.le_trans hbase hb.size) (fun k e => (h.1.lt k e).1)
theorem TRow.form {base : Nat} {v : Value} {P : List (NodeD × Value)} {w : World} (h : TRow base v P w) (hn : 0 < P.length) : ∃ g c, v = .slice (some ⟨g, 0, none⟩) P.length c := by
  obtain ⟨g, c, e, _⟩ := h.1.form hn
  exact ⟨g, c, e⟩
theorem kid_lit1 (w : World) (o : Obj) (a : Int) : KRow (.slice (some ⟨w.heap.size, 0, none⟩) 1 1) [a] ((w.alloc (.cells #[.int .i64 a] 3)).alloc o) :=
  (KRow.lit w #[.int .i64 a] [a] rfl).below ((Below.refl _ _).alloc (Nat.le_refl _) _)
theorem nodesL (w : World) (Q : List (NodeD × Value)) (cs : Array Value) (hcs : cs.toList = flatT Q) : ∀ (j : Nat) (u : Value), (flatT Q)[j]? = some u → (w.alloc (.cells cs 37)).cell? ((⟨w.heap.size, 0, none⟩ : Addr).add j) = some u := by
  intro j u h
  have e : ((⟨w.heap.size, 0, none⟩ : Addr).add j) = ⟨w.heap.size, j, none⟩ := by unfold Addr.add; split <;> simp_all
  rw [e, cell_of_row _ w.heap.size j _ 37 (0, 0) (heap_alloc_new w _), ← Array.getElem?_toList, hcs]
  exact h
theorem flatT_one (Q : List (NodeD × Value)) : ∀ u ∈ flatT Q, (∃ i, u = .int .i64 i) ∨ (∃ s, u = .string s) ∨ ∃ q ∈ Q, u = q.2 := by
  intro u hu
  simp only [flatT, List.mem_flatMap] at hu
  obtain ⟨q, hq, hu⟩ := hu
  simp only [flatN, List.mem_cons, List.not_mem_nil, or_false] at hu
  rcases hu with rfl | rfl | rfl | rfl | rfl
  · exact .inl ⟨_, rfl⟩
  · exact .inl ⟨_, rfl⟩
  · exact .inr (.inl ⟨_, rfl⟩)
  · exact .inl ⟨_, rfl⟩
  · exact .inr (.inr ⟨q, hq, rfl⟩)
/-- Nodes that are written out are appended to a row of the call's own. -/
theorem wpList_tapp {ops : Array Oper} {rest : List Oper} {o : Oper} {a : Act} {Q' : Exit → Act → World → Prop} (hgd : o.guard = none) (s x : Operand)
    (ho : o.op = .call { callee := .builtin .append, args := #[s, x], argTypes := #[25, 25] }) (base : Nat) (v : Value) (P : List (NodeD × Value)) (w : World) (hT : TRow base v P w) (hbase : base ≤ w.heap.size) (w2 : World) (hb : Below w.heap.size w w2)
    (Q : List (NodeD × Value)) (n m : Nat) (hn : P.length = n) (hm : Q.length = m) (hQ : 0 < m) (cs : Array Value) (hcs : cs.toList = flatT Q) (hs : a.eval s = v) (hx : a.eval x = .slice (some ⟨w2.heap.size, 0, none⟩) m m)
    (hq : ∀ q ∈ Q, KRow q.2 q.1.2.2.2.2 w2 ∧ (q.1.2.2.2.2 ≠ [] → ∀ g, q.2.ownBlock = some g → w.heap.size ≤ g)) (hlen : n + m ≤ 1000000)
    (h : ∀ g c w', Hid (TRow base (.slice (some ⟨g, 0, none⟩) (n + m) c) (P ++ Q) w') → Hid ((P ++ Q).length = n + m) → (∀ w0, Below base w0 w → Below base w0 w') → wpList Tryd.prog ops Q' rest (a.put o.dst (.slice (some ⟨g, 0, none⟩) (n + m) c)) w') :
    wpList Tryd.prog ops Q' (o :: rest) a (w2.alloc (.cells cs 37)) := by
  subst hn
  subst hm
  obtain ⟨i0, hi, hz0, hz1, hz2⟩ := info_parts infoNode
  have hb2 : Below w.heap.size w (w2.alloc (.cells cs 37)) := hb.alloc hb.size _
  have hown : (w2.alloc (.cells cs 37)).ownsRow base 37 5 v P.length (flatT P) := (hT.below hb2).1
  refine wpList_append_own_at _ hgd s x 25 ho base 37 i0 _ 5 64 Tryd.underlying25 hi hz0 hz1 hz2 rfl (by decide) v P.length (flatT P) hs hown ⟨w2.heap.size, 0, none⟩ Q.length Q.length (flatT Q) hx (flatT_length Q) (nodesL w2 Q cs hcs) ?_ (by unfold maxLen; omega) (by omega) (by have := hb.size; simp; omega) ?_
  · intro u hu
    rcases flatT_one Q u hu with ⟨i, rfl⟩ | ⟨s, rfl⟩ | ⟨q, hqm, rfl⟩
    · rfl
    · rfl
    · obtain ⟨pa, cap, e, _⟩ := (hq q hqm).1
      rw [e]; rfl
  · intro v' w' hown' hgrow _ hloc
    have hT' := hT.app hb2 hown' hgrow hloc (fun q hqm => ⟨(hq q hqm).1.below ((Below.refl _ _).alloc (Nat.le_refl _) _), (hq q hqm).2⟩)
    obtain ⟨g, c, rfl⟩ := hT'.form (by rw [List.length_append]; omega)
    rw [List.length_append] at hT' ⊢
    exact h g c w' hT' (show _ = _ by rw [List.length_append]) (fun w0 h0 => hT.wide h0 hb2 hbase hgrow)
end Go.Proofs.YtkmmcphiijolkaaDoor
