/-
  Small facts of the walks; rows of natural numbers, at this program.
-/
import Derived.Test.YtaekjkihdecmcaaProg
import Derived.Test.YtaekjkihdecmcaaNuP
import Derived.WalkKit
import Derived.BigCall
import Derived.WalkSpells
import Derived.WalkLawsBesides
import Derived.Below
import Derived.Lib.Hide
import Derived.IntWalk
import Derived.OwnWalk
import Derived.Deep.OwnRows
import Derived.Deep.AppendLies
import Derived.Maps.AppendAt
import Derived.Laws.OwnMore
import Derived.Laws.MakeOwn
import Derived.Laws.AppendOwn
import Derived.RangeFuncBox
set_option linter.unusedVariables false
set_option linter.unusedSimpArgs false
namespace Go.Proofs.Ytaekjkihdecmcaa
open Go.RowKit

theorem ret_bool {a b : Bool} (h : a = b) : Ending.returned (.bool a) = .returned (.bool b) := by rw [h]
theorem ret_int {k : IntKind} {a b : Int} (h : a = b) : Ending.returned (.int k a) = .returned (.int k b) := by rw [h]
theorem hid_ex {α : Type} (a : α) : ∃ b, Hid (a = b) := ⟨a, show a = a from rfl⟩
theorem size_list (s : ByteArray) : s.data.toList.length = s.size := by simp
theorem get_drop (s : ByteArray) (k : Nat) (h : k < s.size) : s.data.toList.drop k = s[k] :: s.data.toList.drop (k + 1) := by
  rw [List.drop_eq_getElem_cons (by simpa using h)]
  rfl
theorem infoInt : (Try.prog.info? 3).map (fun i => (i.zero, i.size, i.bytes)) = some (some (.int .i64 0), 1, 8) := by kernel_rfl

abbrev dI (d : Nat) : Value := .int .i64 (d : Int)
/-- A row of natural numbers. -/
def DRow (v : Value) (l : List Nat) (w : World) : Prop := (v = .slice none 0 0 ∧ l = []) ∨ ∃ g o cap, v = .slice (some ⟨g, o, none⟩) l.length cap ∧ g < w.heap.size ∧ l.length ≤ cap ∧ ∀ k c, l[k]? = some c → w.cell? ⟨g, o + k, none⟩ = some (dI c)
theorem DRow.below {v : Value} {l : List Nat} {w w' : World} (h : DRow v l w) (hb : Below w.heap.size w w') : DRow v l w' := by
  rcases h with h | ⟨g, o, cap, e, hg, hcap, hc⟩
  · exact Or.inl h
  · exact Or.inr ⟨g, o, cap, e, Nat.lt_of_lt_of_le hg hb.size, hcap, fun k c hk => (hb.cell (p := ⟨g, _, none⟩) hg).trans (hc k c hk)⟩
theorem DRow.nil_ (w : World) : DRow (.slice none 0 0) [] w := Or.inl ⟨rfl, rfl⟩
theorem DRow.form {v : Value} {l : List Nat} {w : World} (h : DRow v l w) : ∃ pa cap, v = .slice pa l.length cap := by
  rcases h with ⟨rfl, rfl⟩ | ⟨g, o, cap, rfl, _⟩
  · exact ⟨none, 0, rfl⟩
  · exact ⟨_, cap, rfl⟩
theorem own_formD {base n : Nat} {v : Value} {xs : List Value} {w : World} (h : w.ownsRow base 3 1 v n xs) : ∃ pr cr, v = .slice pr n cr := by
  rcases h.2 with ⟨rfl, hn⟩ | ⟨g, cap, cur, rfl, _⟩
  · exact ⟨none, 0, by rw [hn]⟩
  · exact ⟨_, cap, rfl⟩
theorem own_cellD {base n : Nat} {pr : Option Addr} {cr : Nat} {l : List Nat} {w : World} (h : w.ownsRow base 3 1 (.slice pr n cr) n (l.map dI)) {i : Nat} {k : Nat} (hk : l[i]? = some k) :
    ∃ g, pr = some ⟨g, 0, none⟩ ∧ base ≤ g ∧ g < w.heap.size ∧ w.cell? ⟨g, i, none⟩ = some (dI k) := by
  have hl : l.length = n := by have := h.1; rw [List.length_map] at this; omega
  have hi := (List.getElem?_eq_some_iff.1 hk).1
  rcases h.2 with ⟨e, hn⟩ | ⟨g, cap, cur, e, hg, hgb, r⟩
  · omega
  · injection e with e1 e2 e3
    subst e1
    subst e3
    refine ⟨g, rfl, hg, (Array.getElem?_eq_some_iff.1 hgb).1, ?_⟩
    rw [World.ownsRow.cellAt h i (by omega), List.getElem?_map, hk]
    rfl
theorem own_drow {base n : Nat} {v : Value} {l : List Nat} {w : World} (h : w.ownsRow base 3 1 v n (l.map dI)) : DRow v l w := by
  have hl : l.length = n := by have := h.1; rw [List.length_map] at this; omega
  rcases h.2 with ⟨rfl, hn⟩ | ⟨g, cap, cur, rfl, hg, hgb, hnc, _⟩
  · exact Or.inl ⟨rfl, List.length_eq_zero_iff.1 (by omega)⟩
  · refine Or.inr ⟨g, 0, cap, by rw [hl], (Array.getElem?_eq_some_iff.1 hgb).1, by omega, fun k c hk => ?_⟩
    obtain ⟨g', e, _, _, hc⟩ := own_cellD h hk
    injection e with e
    injection e with e1
    rw [Nat.zero_add, e1]
    exact hc
theorem own_empty (W : World) (base : Nat) (hb : base ≤ W.heap.size) (b : Nat) (e : W.heap.size = b) : (W.alloc (.cells #[] 3)).ownsRow base 3 1 (.slice (some ⟨b, 0, none⟩) 0 0) 0 (([] : List Nat).map dI) := by
  subst e
  exact World.ownsRow_lit W #[] 0 hb (Nat.zero_le _) rfl
theorem own_setD {base n sz : Nat} {T : TypeId} {v : Value} {xs : List Value} {w : World} (h : w.ownsRow base T sz v n xs) {a : Addr} (u : Value) (ha : a.block < base) : (w.setCell a u).ownsRow base T sz v n xs := by
  refine ⟨h.1, ?_⟩
  rcases h.2 with h2 | ⟨g, cap, cur, e, hg, hgb, r⟩
  · exact Or.inl h2
  · exact Or.inr ⟨g, cap, cur, e, hg, (Below.heap_setCell w a u g (by omega)).trans hgb, r⟩
/-- Only the block is changed that P speaks of, among those that were there. -/
structure ButD (P : Nat → Prop) (w w' : World) : Prop where
  os : w'.os = w.os
  tape : w'.tape = w.tape
  output : w'.output = w.output
  size : w.heap.size ≤ w'.heap.size
  block : ∀ k, k < w.heap.size → ¬ P k → w'.heap[k]? = w.heap[k]?
theorem ButD.below {P : Nat → Prop} {w w' : World} {B : Nat} (h : ButD P w w') (hB : B ≤ w.heap.size) (hP : ∀ b, b < B → ¬ P b) : Below B w w' := ⟨h.os, h.tape, h.output, h.size, fun k hk => h.block k (by omega) (hP k hk)⟩
/-- A number is appended to a row of the call's own. -/
theorem wpList_dapp {ops : Array Oper} {rest : List Oper} {o : Oper} {a : Act} {Q' : Exit → Act → World → Prop} (hgd : o.guard = none) (s x : Operand)
    (ho : o.op = .call { callee := .builtin .append, args := #[s, x], argTypes := #[29, 29] }) (base n : Nat) (v : Value) (l : List Nat) (w : World) (hown : w.ownsRow base 3 1 v n (l.map dI)) (hbase : base ≤ w.heap.size) (k : Nat)
    (hs : a.eval s = v) (hx : a.eval x = .slice (some ⟨w.heap.size, 0, none⟩) 1 1) (hlen : n + 1 ≤ 1000000)
    (h : ∀ g c w', Hid (w'.ownsRow base 3 1 (.slice (some ⟨g, 0, none⟩) (n + 1) c) (n + 1) ((l ++ [k]).map dI)) → Hid (ButD (fun b => v.ownBlock = some b) w w') → wpList Try.prog ops Q' rest (a.put o.dst (.slice (some ⟨g, 0, none⟩) (n + 1) c)) w') :
    wpList Try.prog ops Q' (o :: rest) a (w.alloc (.cells #[.int .i64 (k : Int)] 3)) := by
  obtain ⟨i0, hi, hz0, hz1, hz2⟩ := info_parts infoInt
  have hb2 : Below w.heap.size w (w.alloc (.cells #[.int .i64 (k : Int)] 3)) := (Below.refl _ _).alloc (Nat.le_refl _) _
  refine wpList_append_own_at _ hgd s x 29 ho base 3 i0 _ 1 8 Try.underlying29 hi hz0 hz1 hz2 rfl (by decide) v n _ hs (hown.alloc _) ⟨w.heap.size, 0, none⟩ 1 1 [.int .i64 (k : Int)] hx rfl ?_ ?_ (by unfold maxLen; omega) (by omega) (by simp; omega) ?_
  · intro j u hu
    cases j with
    | zero =>
      simp at hu
      subst hu
      simp [Addr.add]
    | succ j => simp at hu
  · intro u hu
    simp at hu
    subst hu
    rfl
  · intro v' w' hown' hgrow hz hloc
    have hown2 := hown'
    rcases hown'.2 with ⟨e, hn⟩ | ⟨g, cap, cur, rfl, hg, _⟩
    · omega
    · refine h g cap w' (show World.ownsRow _ _ _ _ _ _ _ by rw [List.map_append]; exact hown2) (show ButD _ _ _ from ⟨hgrow.os, hgrow.tape, hgrow.output, Nat.le_trans hb2.size hgrow.size, fun k hk hn => (hgrow.block k (by have := hb2.size; omega) (fun e => hn e.symm)).trans (hb2.block k hk)⟩)
/-- A row of numbers is appended to a row of the call's own. -/
theorem wpList_drow {ops : Array Oper} {rest : List Oper} {o : Oper} {a : Act} {Q' : Exit → Act → World → Prop} (hgd : o.guard = none) (s x : Operand)
    (ho : o.op = .call { callee := .builtin .append, args := #[s, x], argTypes := #[29, 29] }) (base n m : Nat) (v : Value) (l : List Nat) (w : World) (hown : w.ownsRow base 3 1 v n (l.map dI)) (hbase : base ≤ w.heap.size) (q : List Nat) (hm : q.length = m) (ad : Addr) (c : Nat)
    (hs : a.eval s = v) (hx : a.eval x = .slice (some ad) m c) (hq : ∀ (j : Nat) (d : Nat), q[j]? = some d → w.cell? (ad.add j) = some (dI d)) (hlen : n + m ≤ 1000000)
    (h : ∀ v' w', Hid (w'.ownsRow base 3 1 v' (n + m) ((l ++ q).map dI)) → Hid (ButD (fun b => v.ownBlock = some b) w w') → wpList Try.prog ops Q' rest (a.put o.dst v') w') :
    wpList Try.prog ops Q' (o :: rest) a w := by
  obtain ⟨i0, hi, hz0, hz1, hz2⟩ := info_parts infoInt
  refine wpList_append_own_at _ hgd s x 29 ho base 3 i0 _ 1 8 Try.underlying29 hi hz0 hz1 hz2 rfl (by decide) v n _ hs hown ad m c (q.map dI) hx (by simp [hm]) ?_ ?_ (by unfold maxLen; omega) (by omega) hbase ?_
  · intro j u hu
    rw [List.getElem?_map] at hu
    cases e : q[j]? with
    | none => rw [e] at hu; simp at hu
    | some d =>
      rw [e] at hu
      simp only [Option.map_some, Option.some.injEq] at hu
      subst hu
      exact hq j d e
  · intro u hu
    obtain ⟨d, _, rfl⟩ := List.mem_map.1 hu
    rfl
  · intro v' w' hown' hgrow hz hloc
    exact h v' w' (show World.ownsRow _ _ _ _ _ _ _ by rw [List.map_append]; exact hown') (show ButD _ _ _ from ⟨hgrow.os, hgrow.tape, hgrow.output, hgrow.size, fun k hk hn => hgrow.block k hk (fun e => hn e.symm)⟩)
/-- A number without bounds: a sign, and digits. -/
def NumV (v : Value) (z : Int) (w : World) : Prop := ∃ s vd l, v = .agg #[.bool s, vd] ∧ DRow vd l w ∧ Nu.Says s l z
theorem NumV.below {v : Value} {z : Int} {w w' : World} (h : NumV v z w) (hb : Below w.heap.size w w') : NumV v z w' := by
  obtain ⟨s, vd, l, e, hd, hs⟩ := h
  exact ⟨s, vd, l, e, hd.below hb, hs⟩
theorem NumV.zero (w : World) : NumV (.agg #[.bool false, .slice none 0 0]) 0 w :=
  ⟨false, _, [], rfl, DRow.nil_ w, fun d hd => by simp at hd, fun h => by simp at h, rfl, fun h => by cases h⟩
end Go.Proofs.Ytaekjkihdecmcaa
