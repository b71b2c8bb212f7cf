/-
  What a builder tells, at this program.
-/
import Derived.Test.YtkmmcphiijolkaaDoorTreeCC
import Derived.Deep.RegionHeld3
import Derived.Deep.Onto
set_option linter.unusedVariables false
set_option linter.unusedSimpArgs false
namespace Go.Proofs.YtkmmcphiijolkaaDoor
open Go.RowKit Go.Shelf
open Tr

namespace Tr
/-- Where a number stands in a row first. -/
def posIn (k : Nat) : List Nat → Nat
  | [] => 0
  | y :: ys => if y = k then 0 else posIn k ys + 1
theorem posIn_get : ∀ (ys : List Nat) (j y : Nat), ys.Nodup → ys[j]? = some y → posIn y ys = j
  | [], j, y, _, h => by simp at h
  | x :: ys, 0, y, _, h => by
    simp at h
    simp [posIn, h]
  | x :: ys, j + 1, y, hn, h => by
    simp only [List.getElem?_cons_succ] at h
    have hx : x ≠ y := fun e => (List.nodup_cons.1 hn).1 (e ▸ List.mem_of_getElem? h)
    rw [posIn, if_neg hx, posIn_get ys j y (List.nodup_cons.1 hn).2 h]
/-- A node with its kids' new numbers. -/
def renN (ys : List Nat) (x : NodeD) : NodeD := (x.1, x.2.1, x.2.2.1, x.2.2.2.1, x.2.2.2.2.map fun k => ((posIn k.toNat ys : Nat) : Int))
/-- What is below the last node, in the order of numbers. -/
def belS (t : List NodeD) : List Nat := (List.range t.length).filter fun i => decide (i ∈ belowT t ((t.length : Int) - 1))
def treeT (t : List NodeD) : List NodeD := (belS t).map fun y : Nat => renN (belS t) (nodeAt t (y : Int))
theorem belS_of {t : List NodeD} {ys : List Nat} (hp : ys.Perm (belowT t ((t.length : Int) - 1))) (hs : ys.Pairwise (· ≤ ·)) : ys = belS t := by
  have hf := below_few t ((t.length : Int) - 1)
  refine List.Perm.eq_of_pairwise (le := (· ≤ ·)) (fun a b _ _ h1 h2 => Nat.le_antisymm h1 h2) hs ?_ ?_
  · exact (List.pairwise_le_range).filter _
  · refine hp.trans ?_
    unfold belS
    rw [List.perm_ext_iff_of_nodup hf.1 ((List.nodup_range).filter _)]
    intro a
    simp only [List.mem_filter, List.mem_range, decide_eq_true_eq]
    exact ⟨fun h => ⟨hf.2 a h, h⟩, fun h => h.2⟩
theorem belS_nodup (t : List NodeD) : (belS t).Nodup := (List.nodup_range).filter _
end Tr
/-- The new numbers of those that have been gone over. -/
def numM (ys : List Nat) (j : Nat) : Int → Option Value := fun x => if 0 ≤ x ∧ x.toNat ∈ ys.take j then some (.int .i64 ((posIn x.toNat ys : Nat) : Int)) else none

theorem Clone_krow (kv : Value) (ks : List Int) (w : World) (hk : KRow kv ks w) (hl : ks.length ≤ 1000000) :
    Calls Tryd.prog 38 #[kv] w fun e w' => ∃ v', e = .returned v' ∧ w'.ownsRow w.heap.size 3 1 v' ks.length (ks.map (Value.int .i64)) ∧ Below w.heap.size w w' := by
  obtain ⟨pk, ck, rfl, fk⟩ := hk
  cases pk with
  | none =>
    have hx : ks = [] := by
      cases ks with
      | nil => rfl
      | cons a l => obtain ⟨g, o, e, _⟩ := fk.1 0 a rfl; cases e
    subst hx
    exact (Tryd.slices_Clone_int_nil 0 ck w).mono fun e w' ⟨he, hw⟩ => ⟨_, he, World.ownsRow_nil _ _ _ _, by rw [hw]; exact Below.refl _ _⟩
  | some a =>
    cases ks with
    | nil => exact (Tryd.slices_Clone_int_zero a ck w).mono fun e w' ⟨v', he, ho, _, hb⟩ => ⟨v', he, ho, hb⟩
    | cons x l =>
      obtain ⟨g, o, e, _⟩ := fk.1 0 x rfl
      injection e with e
      subst e
      refine (Tryd.slices_Clone_int g o (x :: l).length ck (x :: l) w (Nat.le_refl _) (by omega) (fun j hj => ?_)).mono fun e w' ⟨v', he, ho, _, hb⟩ => ⟨v', he, by rw [List.take_length] at ho; exact ho, hb⟩
      have hjj : (x :: l)[j]? = some ((x :: l)[j]) := List.getElem?_eq_getElem hj
      obtain ⟨g', o', e, _, hc⟩ := fk.1 j _ hjj
      injection e with e
      injection e with e1 e2
      subst e1; subst e2
      rw [hc]
      simp [List.getD, hjj]

theorem frozen_of_block {w : World} {b : Nat} {cs : Array Value} {T : TypeId} (h : w.heap[b]? = some (.cells cs T (0, 0))) (o : Nat) : w.frozen? ⟨b, o, none⟩ = false := by simp [World.frozen?, h]
theorem own_formI {base n : Nat} {v : Value} {xs : List Value} {w : World} (h : w.ownsRow base 3 1 v n xs) : ∃ pr cr, v = .slice pr n cr := by
  rcases h.2 with ⟨rfl, hn⟩ | ⟨g, cap, cur, rfl, _⟩
  · exact ⟨none, 0, by rw [hn]⟩
  · exact ⟨_, cap, rfl⟩
theorem own_set {base n sz : Nat} {T : TypeId} {v : Value} {xs : List Value} {w : World} (h : w.ownsRow base T sz v n xs) {a : Addr} (u : Value) (ha : a.block < base) : (w.setCell a u).ownsRow base T sz v n xs := by
  refine ⟨h.1, ?_⟩
  rcases h.2 with h2 | ⟨g, cap, cur, e, hg, hgb, r⟩
  · exact Or.inl h2
  · exact Or.inr ⟨g, cap, cur, e, hg, (Below.heap_setCell w a u g (by omega)).trans hgb, r⟩
/-- A row of numbers of the call's own: its cell. -/
theorem own_cellI {base n : Nat} {pr : Option Addr} {cr : Nat} {l : List Int} {w : World} (h : w.ownsRow base 3 1 (.slice pr n cr) n (l.map (Value.int .i64))) {i : Nat} {k : Int} (hk : l[i]? = some k) :
    ∃ g, pr = some ⟨g, 0, none⟩ ∧ base ≤ g ∧ g < w.heap.size ∧ w.cell? ⟨g, i, none⟩ = some (.int .i64 k) ∧ w.frozen? ⟨g, i, none⟩ = false := by
  have hl : l.length = n := by have := h.1; rw [List.length_map] at this; omega
  have hi := (List.getElem?_eq_some_iff.1 hk).1
  rcases h.2 with ⟨e, hn⟩ | ⟨g, cap, cur, e, hg, hgb, r⟩
  · omega
  · injection e with e1 e2 e3
    subst e1
    subst e3
    refine ⟨g, rfl, hg, (Array.getElem?_eq_some_iff.1 hgb).1, ?_, frozen_of_block hgb i⟩
    rw [World.ownsRow.cellAt h i (by omega), List.getElem?_map, hk]
    rfl
theorem own_krowI {base n : Nat} {v : Value} {l : List Int} {w : World} (h : w.ownsRow base 3 1 v n (l.map (Value.int .i64))) : KRow v l w := by
  have hl : l.length = n := by have := h.1; rw [List.length_map] at this; omega
  obtain ⟨pr, cr, rfl⟩ := own_formI h
  refine ⟨pr, cr, by rw [hl], fun k c hk => ?_, ?_⟩
  · obtain ⟨g, e, _, hg, hc, _⟩ := own_cellI h hk
    exact ⟨g, 0, e, hg, by rw [Nat.zero_add]; exact hc⟩
  · rcases h.2 with ⟨e, hn⟩ | ⟨g, cap, cur, e, hg, hgb, hnc, _⟩
    · omega
    · injection e with e1 e2 e3
      omega
theorem KRow.but {v : Value} {l : List Int} {w w' : World} {bM : Nat} (h : KRow v l w) (hm : ∀ o, w.cell? ⟨bM, o, none⟩ = none) (hs : w.heap.size ≤ w'.heap.size) (hb : ∀ k, k < w.heap.size → k ≠ bM → w'.heap[k]? = w.heap[k]?) : KRow v l w' := by
  obtain ⟨pa, cap, e, hc⟩ := h
  refine ⟨pa, cap, e, fun k c hk => ?_, hc.2⟩
  obtain ⟨g, o, e2, hg, a0⟩ := hc.1 k c hk
  refine ⟨g, o, e2, Nat.lt_of_lt_of_le hg hs, ?_⟩
  rw [World.cell?_of_block (w := w) (hb g hg (fun e => by subst e; rw [hm] at a0; cases a0))]
  exact a0
theorem TRow.but {base : Nat} {v : Value} {P : List (NodeD × Value)} {w w' : World} {bM : Nat} (h : TRow base v P w) (hm : ∀ o, w.cell? ⟨bM, o, none⟩ = none) (hM : bM < base) (hs : w.heap.size ≤ w'.heap.size) (hb : ∀ k, k < w.heap.size → k ≠ bM → w'.heap[k]? = w.heap[k]?) : TRow base v P w' := by
  refine ⟨?_, fun p hp => ⟨(h.2 p hp).1.but hm hs hb, (h.2 p hp).2⟩⟩
  refine ⟨h.1.1, ?_⟩
  rcases h.1.2 with h2 | ⟨g, cap, cur, e, hg, hgb, r⟩
  · exact Or.inl h2
  · exact Or.inr ⟨g, cap, cur, e, hg, (hb g (Array.getElem?_eq_some_iff.1 hgb).1 (by omega)).trans hgb, r⟩
theorem MapI.cell {w : World} {b n : Nat} {f : Int → Option Value} (h : MapI w b n f) (o : Nat) : w.cell? ⟨b, o, none⟩ = none := by
  obtain ⟨D, ⟨es, ck, h1, h2⟩, r⟩ := h
  simp [World.cell?, h1]
/-- Kids that have been given their new numbers, as far as number i. -/
def midK (f : Int → Int) (ks : List Int) (i : Nat) : List Int := (ks.take i).map f ++ ks.drop i
theorem midK_set (f : Int → Int) : ∀ (ks : List Int) (i : Nat) (k : Int), ks[i]? = some k → (midK f ks i).set i (f k) = midK f ks (i + 1)
  | [], i, k, h => by simp at h
  | x :: xs, 0, k, h => by
    simp at h
    subst h
    simp [midK]
  | x :: xs, i + 1, k, h => by
    have := midK_set f xs i k (by simpa using h)
    simp only [midK] at this
    simp only [midK, List.take_succ_cons, List.drop_succ_cons, List.map_cons, List.cons_append, List.set_cons_succ]
    rw [this]
theorem midK_get (f : Int → Int) (ks : List Int) (i : Nat) (k : Int) (h : ks[i]? = some k) : (midK f ks i)[i]? = some k := by
  have hi := (List.getElem?_eq_some_iff.1 h).1
  unfold midK
  rw [List.getElem?_append_right (by rw [List.length_map, List.length_take]; omega)]
  rw [List.length_map, List.length_take, List.getElem?_drop]
  rw [show i + (i - min i ks.length) = i by omega]
  exact h
theorem midK_zero (f : Int → Int) (ks : List Int) : midK f ks 0 = ks := by simp [midK]
theorem midK_end (f : Int → Int) (ks : List Int) : midK f ks ks.length = ks.map f := by simp [midK]
def renK (ys : List Nat) (k : Int) : Int := ((posIn k.toNat ys : Nat) : Int)
theorem posIn_le : ∀ (ys : List Nat) (k : Nat), posIn k ys ≤ ys.length
  | [], k => Nat.le_refl _
  | y :: ys, k => by
    have := posIn_le ys k
    simp only [posIn]
    split <;> simp <;> omega
theorem mem_kidsOf (y : Nat) (k : Int) (h0 : 0 ≤ k) (h1 : k < (y : Int)) : ∀ l : List Int, k ∈ l → k.toNat ∈ kidsOf y l
  | [], h => by cases h
  | x :: xs, h => by
    simp only [kidsOf]
    rcases List.mem_cons.1 h with rfl | h
    · rw [if_pos ⟨h0, h1⟩]; exact List.mem_cons_self ..
    · have := mem_kidsOf y k h0 h1 xs h
      split
      · exact List.mem_cons_of_mem _ this
      · exact this
/-- Kids of a node that is below are below, ahead of it. -/
theorem kid_ahead (t : List NodeD) (hkid : KidsAt 0 t) {j y : Nat} {x : NodeD} (hy : (belS t)[j]? = some y) (hx : t[y]? = some x) : ∀ k ∈ x.2.2.2.2, 0 ≤ k ∧ k < (y : Int) ∧ k.toNat ∈ (belS t).take j := by
  intro k hk
  have h1 := hkid.get hx k hk
  rw [Nat.zero_add] at h1
  have hyb := List.mem_of_getElem? hy
  have hyb2 : y ∈ belowT t ((t.length : Int) - 1) := by
    unfold belS at hyb
    simpa using (List.mem_filter.1 hyb).2
  have hnx : nodeAt t (y : Int) = x := by unfold nodeAt; rw [Int.toNat_natCast, hx]; rfl
  have hkn : k.toNat ∈ kidN t y := by
    unfold kidN
    rw [hnx]
    exact mem_kidsOf y k h1.1 h1.2 _ hk
  have hkb := below_closed t _ y hyb2 _ hkn
  refine ⟨h1.1, h1.2, sorted_take ((List.pairwise_le_range).filter _) hy ?_ (by omega)⟩
  show _ ∈ belS t
  unfold belS
  rw [List.mem_filter]
  exact ⟨List.mem_range.2 (below_lt t _ _ hkb), by simpa using hkb⟩
theorem treeT_take (t : List NodeD) {j y : Nat} {x : NodeD} (hy : (belS t)[j]? = some y) (hx : t[y]? = some x) : (treeT t).take (j + 1) = (treeT t).take j ++ [renN (belS t) x] := by
  have hnx : nodeAt t (y : Int) = x := by unfold nodeAt; rw [Int.toNat_natCast, hx]; rfl
  refine take_snoc _ _ _ ?_
  unfold treeT
  rw [List.getElem?_map, hy]
  simp only [Option.map_some]
  rw [hnx]
theorem wpList_tapp3 {ops : Array Oper} {rest : List Oper} {o : Oper} {a : Act} {Q' : Exit → Act → World → Prop} (hgd : o.guard = none) (s x : Operand)
    (ho : o.op = .call { callee := .builtin .append, args := #[s, x], argTypes := #[25, 25] }) (base : Nat) (v : Value) (P : List (NodeD × Value)) (w : World) (hT : TRow base v P w) (hbase : base ≤ w.heap.size)
    (Q : List (NodeD × Value)) (n m : Nat) (hn : P.length = n) (hm : Q.length = m) (hQ : 0 < m) (cs : Array Value) (hcs : cs.toList = flatT Q) (hs : a.eval s = v) (hx : a.eval x = .slice (some ⟨w.heap.size, 0, none⟩) m m)
    (hq : ∀ q ∈ Q, KRowX v.ownBlock q.2 q.1.2.2.2.2 w) (hlen : n + m ≤ 1000000)
    (h : ∀ g c w', Hid (TRow base (.slice (some ⟨g, 0, none⟩) (n + m) c) (P ++ Q) w') → Hid ((P ++ Q).length = n + m) → Hid (But (fun k => v.ownBlock = some k) w w') → wpList Tryd.prog ops Q' rest (a.put o.dst (.slice (some ⟨g, 0, none⟩) (n + m) c)) w') :
    wpList Tryd.prog ops Q' (o :: rest) a (w.alloc (.cells cs 37)) := by
  subst hn
  subst hm
  obtain ⟨i0, hi, hz0, hz1, hz2⟩ := info_parts infoNode
  have hb2 : Below w.heap.size w (w.alloc (.cells cs 37)) := (Below.refl _ _).alloc (Nat.le_refl _) _
  have hown : (w.alloc (.cells cs 37)).ownsRow base 37 5 v P.length (flatT P) := (hT.below hb2).1
  refine wpList_append_own_at _ hgd s x 25 ho base 37 i0 _ 5 64 Tryd.underlying25 hi hz0 hz1 hz2 rfl (by decide) v P.length (flatT P) hs hown ⟨w.heap.size, 0, none⟩ Q.length Q.length (flatT Q) hx (flatT_length Q) (nodesL w Q cs hcs) ?_ (by unfold maxLen; omega) (by omega) (by simp; omega) ?_
  · intro u hu
    rcases flatT_one Q u hu with ⟨i, rfl⟩ | ⟨s, rfl⟩ | ⟨q, hqm, rfl⟩
    · rfl
    · rfl
    · obtain ⟨pa, cap, e, _⟩ := (hq q hqm).1
      rw [e]; rfl
  · intro v' w' hown' hgrow _ hloc
    have hT' := (hT.below hb2).grow hown' hgrow hloc (fun q hqm => ⟨(hq q hqm).1.below hb2, (hq q hqm).2⟩)
    obtain ⟨g, c, rfl⟩ := hT'.form (by rw [List.length_append]; omega)
    rw [List.length_append] at hT' ⊢
    exact h g c w' hT' (show _ = _ by rw [List.length_append]) (show But _ _ _ from ⟨hgrow.os, hgrow.tape, hgrow.output, Nat.le_trans hb2.size hgrow.size, fun k hk hn => ⟨(hgrow.block k (by have := hb2.size; omega) (fun e => hn e.symm)).trans (hb2.block k hk), fun e => hn e⟩⟩)
set_option maxHeartbeats 16000000 in
set_option maxRecDepth 100000 in
theorem Tree_any (base bB : Nat) (v : Value) (P : List (NodeD × Value)) (w : World) (hB : Bld base bB v P w) (hP : P.length ≤ 1000000) (hks : ∀ p ∈ P, p.1.2.2.2.2.length ≤ 1000000) (hkid : KidsAt 0 (P.map (·.1))) :
    Calls Tryd.prog 20 #[.pointer (some ⟨bB, 0, none⟩)] w fun e w' => ∃ v' P', e = .returned v' ∧ TRow w.heap.size v' P' w' ∧ P'.map (·.1) = treeT (P.map (·.1)) ∧ Below w.heap.size w w' := by
  obtain ⟨t, ht⟩ : ∃ t, t = P.map (·.1) := ⟨_, rfl⟩
  have hat : ArgT v t w := by rw [ht]; exact hB.row.argT
  have htl : t.length = P.length := by rw [ht, List.length_map]
  have hks2 : ∀ x ∈ t, x.2.2.2.2.length ≤ 1000000 := fun x hx => by
    rw [ht] at hx
    obtain ⟨p, hp, rfl⟩ := List.mem_map.1 hx
    exact hks p hp
  rw [← ht] at hkid ⊢
  have c0 := hB.cell
  have hbl := (Array.getElem?_eq_some_iff.1 hB.blk).1
  obtain ⟨pv, cv, rfl⟩ := hB.form
  obtain ⟨m, hm⟩ : ∃ m, m = t.length := ⟨_, rfl⟩
  rw [← htl, ← hm] at c0 hat hP
  have HM := Lib.hid hm
  have HC0 := Lib.hid c0
  have HAT := Lib.hid hat
  have HKID := Lib.hid hkid
  have HKS := Lib.hid hks2
  obtain ⟨W1, hW1⟩ : ∃ W1, W1 = w.alloc (.map #[] 0) := ⟨_, rfl⟩
  have hb1 : Below w.heap.size w W1 := by rw [hW1]; exact (Below.refl _ w).alloc (Nat.le_refl _) _
  have hs1 : W1.heap.size = w.heap.size + 1 := by rw [hW1]; simp
  have hm1 : MapI W1 w.heap.size 0 (fun _ => none) := by rw [hW1]; exact MapI.made w
  have c1 : W1.cell? ⟨bB, 0, none⟩ = some (.slice pv m cv) := (hb1.cell (p := ⟨bB, 0, none⟩) hbl).trans c0
  have hbel := fun W => callsIn_wide.1 (below_in Fence.wide 3 trivial rfl pv m cv ((m : Int) - 1) W)
  have hsort : ∀ W, Below W1.heap.size W1 W → Calls Tryd.prog 26 #[.func (.func 36) #[] #[.pointer (some ⟨W.heap.size, 0, none⟩), .pointer (some ⟨W.heap.size + 1, 0, none⟩)]] ((W.alloc (.cells #[.slice pv m cv] 25)).alloc (.cells #[.int .i64 ((m : Int) - 1)] 3)) fun e WS =>
      ∃ (pr : Option Addr) (cr ny : Nat), e = .returned (.slice pr ny cr) ∧ Hid (ny = (belS t).length) ∧ ny ≤ 1000000 ∧ Hid (WS.ownsRow W1.heap.size 3 1 (.slice pr ny cr) ny ((belS t).map fun x : Nat => .int .i64 (x : Int))) ∧ Hid (Below W1.heap.size W1 WS) ∧ WS.cell? ⟨bB, 0, none⟩ = some (.slice pv m cv) := fun W hW => by
    have hs := hW.size
    have hbW : Below W1.heap.size W1 ((W.alloc (.cells #[.slice pv m cv] 25)).alloc (.cells #[.int .i64 ((m : Int) - 1)] 3)) := (hW.alloc hs _).alloc (by simp; omega) _
    have q2 : ((W.alloc (.cells #[.slice pv m cv] 25)).alloc (.cells #[.int .i64 ((m : Int) - 1)] 3)).cell? ⟨W.heap.size, 0, none⟩ = some (.slice pv m cv) := by
      rw [World.cell?_alloc_past _ _ _ (by simp), World.cell?_alloc_at _ _ _ _ rfl]; rfl
    have q3 : ((W.alloc (.cells #[.slice pv m cv] 25)).alloc (.cells #[.int .i64 ((m : Int) - 1)] 3)).cell? ⟨W.heap.size + 1, 0, none⟩ = some (.int .i64 ((m : Int) - 1)) := by
      rw [World.cell?_alloc_at _ _ _ _ (by simp)]; rfl
    have hit := below_iter Fence.wide fen_wide w ((W.alloc (.cells #[.slice pv m cv] 25)).alloc (.cells #[.int .i64 ((m : Int) - 1)] 3)) (.slice pv m cv) t HAT.out (by rw [← HM.out]; exact hP) (fun x hx => by have := HKS.out x hx; unfold maxLen; omega) ((m : Int) - 1) W.heap.size (W.heap.size + 1) (hb1.trans (hbW.mono hb1.size)) (by simp; omega) (by simp) q2 q3
    refine (Sorted_any _ 36 _ (enters_of Tryd.func36 (by kernel_rfl) rfl) (Few t) (fun xs => xs = belowT t ((m : Int) - 1)) (fun q h => Nat.le_trans (few_length h) (by rw [← HM.out]; exact hP)) (fun q h => by rw [h]; exact Nat.le_trans (few_length (below_few t _)) (by rw [← HM.out]; exact hP)) hit).mono ?_
    rintro e WS ⟨v, xs, ys, rfl, hp, hpw, rfl, hown, hbs⟩
    rw [HM.out] at hp
    obtain rfl := belS_of hp hpw
    obtain ⟨pr, cr, rfl, _⟩ := own_form hown
    exact ⟨pr, cr, _, rfl, rfl, by rw [hp.length_eq]; exact Nat.le_trans (few_length (below_few t _)) (by rw [← HM.out]; exact hP), hown.mono hbW.size, hbW.trans (hbs.mono hbW.size), ((hbW.trans (hbs.mono hbW.size)).cell (p := ⟨bB, 0, none⟩) (Nat.lt_of_lt_of_le hbl hb1.size)).trans c1⟩
  have hsort2 := hsort W1.drew (Below.refl _ _).drew
  have hbel2 := hbel W1.drew
  have e0 : W1.drew.heap.size = W1.heap.size := rfl
  rw [e0] at hsort2 hbel2
  have HSORT := Lib.hid hsort2
  have HBEL := Lib.hid hbel2
  have hmm := @run_makeMap Tryd.prog
  have hmw : IntKind.i64.wrap ((m : Int) - 1) = (m : Int) - 1 := IntWalk.i64_in _ (by omega)
  have HB := Lib.hid hB
  have HS1 := Lib.hid hs1
  have HB1 := Lib.hid hb1
  have HM1 := Lib.hid hm1
  clear hs1 hb1 hm1 hB hat hkid hks2 hks ht htl hm hsort hbel hsort2 hbel2 e0 c0
  go_enter Tryd.func20, Tryd.ntmps20
  go_upto_region 5 with fail
  rw [← hW1]
  have HW1 := Lib.hid hW1
  clear hW1 hmm
  go_region_held3 (fun w' => w'.cell? ⟨bB, 0, none⟩ = some (.slice pv m cv)) (go_keep)
    ((first | (go_at_call 19; refine HBEL.out.mono ?_; rintro e w5 ⟨rfl, rfl⟩) | (go_at_call 26; refine HSORT.out.mono ?_; rintro e WS ⟨pr, cr, ny, rfl, HNY, hny, HROW, HBS, cS⟩)))
  obtain ⟨ys, hys⟩ : ∃ ys, ys = belS t := ⟨_, rfl⟩
  have hny2 := HNY.out
  have hrow := HROW.out
  rw [← hys] at hny2 hrow
  have frow : ∀ (j y : Nat), ys[j]? = some y → ∃ g, pr = some ⟨g, 0, none⟩ ∧ W1.heap.size ≤ g ∧ g < WS.heap.size ∧ WS.cell? ⟨g, j, none⟩ = some (.int .i64 (y : Int)) := by
    rw [hny2] at hrow
    obtain ⟨pr', cr', e, h⟩ := own_form hrow
    injection e with e1 e2 e3
    subst e1
    exact h
  have hwS : Below w.heap.size w WS := HB1.out.trans (HBS.out.mono HB1.out.size)
  have hszS : w.heap.size + 1 ≤ WS.heap.size := by rw [← HS1.out]; exact HBS.out.size
  have hmS : MapI WS w.heap.size 0 (numM ys 0) := (HM1.out.below HBS.out (by rw [HS1.out]; omega)).congr (fun z _ => by simp [numM])
  have HYS := Lib.hid hys
  have HNYE := Lib.hid hny2
  have HFROW := Lib.hid frow
  have HWS := Lib.hid hwS
  have hs1 := HS1.out
  have hW1s : w.heap.size < W1.heap.size := by omega
  clear hs1 hrow frow hwS hys hny2 c1 HSORT HBEL HROW HNY HW1 HM1 HS1
  go_wp2_with fail
  go_loopw [3, 26] (fun v3 v26 wr => ∃ (j : Nat) (p3 : Option Addr) (c3 : Nat) (P3 : List (NodeD × Value)), v26 = .int .i64 (j : Int) ∧ v3 = .slice p3 j c3 ∧ j ≤ ny ∧ MapI wr w.heap.size j (numM ys j) ∧ But (fun k => k = w.heap.size) WS wr ∧ Hid (TRow WS.heap.size (.slice p3 j c3) P3 wr) ∧ Hid (P3.map (·.1) = (treeT t).take j)) (fun _ v26 _ => ny - (intOf v26).toNat)
  case atStart => exact ⟨0, none, 0, [], rfl, rfl, Nat.zero_le _, hmS, Chg.refl _ _, ⟨World.ownsRow_nil _ _ _ _, fun p h => by simp at h⟩, by show _ = _; simp⟩
  case round =>
    obtain ⟨j, p3, c3, P3, rfl, rfl, hj, hmp, hbut, HT3, HP3⟩ := hrel
    clear hmS cS
    by_cases hjn : j < ny
    · obtain ⟨y, hy⟩ : ∃ y, ys[j]? = some y := ⟨_, List.getElem?_eq_getElem (by rw [← HNYE.out]; exact hjn)⟩
      obtain ⟨g, rfl, hg1, hg2, hgc⟩ := HFROW.out j y hy
      have hyb : y ∈ belS t := by rw [← HYS.out]; exact List.mem_of_getElem? hy
      have hyt : y < t.length := by
        unfold belS at hyb
        exact List.mem_range.1 (List.mem_filter.1 hyb).1
      have hyc : wr.cell? ⟨g, j, none⟩ = some (.int .i64 (y : Int)) := (World.cell?_of_block (a := ⟨g, j, none⟩) (hbut.both g hg2 (by omega)).1).trans hgc
      obtain ⟨x, hx⟩ : ∃ x, t[y]? = some x := ⟨_, List.getElem?_eq_getElem hyt⟩
      obtain ⟨pa, cap, ea, hcs⟩ := HAT.out
      injection ea with e1 e2 e3
      subst e1
      obtain ⟨ga, oa, vk, rfl, hga, a0, a1, a2, a3, a4, hkv⟩ := hcs y x hx
      have hold : ∀ o, wr.cell? ⟨ga, o, none⟩ = w.cell? ⟨ga, o, none⟩ := fun o => (World.cell?_of_block (a := ⟨ga, o, none⟩) (hbut.both ga (Nat.lt_of_lt_of_le hga HWS.out.size) (by omega)).1).trans (HWS.out.cell (p := ⟨ga, o, none⟩) hga)
      rw [← hold] at a0 a1 a2 a3 a4
      have hbw : Below w.heap.size w wr := HWS.out.trans (hbut.below (by omega) (fun k hk e => by omega))
      have cB : wr.cell? ⟨bB, 0, none⟩ = some (.slice (some ⟨ga, oa, none⟩) m cv) := (hbw.cell (p := ⟨bB, 0, none⟩) hbl).trans HC0.out
      have hym : y < m := by rw [HM.out]; exact hyt
      have hym2 : (y : Int) < (m : Int) := by omega
      obtain ⟨x0, x1, x2, x3, ks⟩ := x
      simp only at a0 a1 a2 a3 a4 hkv
      have HKV := Lib.hid hkv
      obtain ⟨pk, ck, rfl, fk⟩ := hkv
      obtain ⟨q, hq⟩ : ∃ q, q = ks.length := ⟨_, rfl⟩
      have hqm : q ≤ 1000000 := by rw [hq]; exact HKS.out (x0, x1, x2, x3, ks) (List.mem_of_getElem? hx)
      have HQ := Lib.hid hq
      rw [← hq] at a4 HKV
      obtain ⟨sx, hsx⟩ : ∃ sx : ByteArray, sx = ⟨x2.toArray⟩ := ⟨_, rfl⟩
      rw [← hsx] at a2
      have HSX := Lib.hid hsx
      obtain ⟨W2, hW2⟩ : ∃ W2, W2 = wr.alloc (.cells #[.int .i64 x0, .int .i64 x1, .string sx, .int .i64 x3, .slice pk q ck] 37) := ⟨_, rfl⟩
      have hb2 : Below wr.heap.size wr W2 := by rw [hW2]; exact (Below.refl _ _).alloc (Nat.le_refl _) _
      have hs2 : W2.heap.size = wr.heap.size + 1 := by rw [hW2]; simp
      have hN2 : W2.heap[wr.heap.size]? = some (.cells #[.int .i64 x0, .int .i64 x1, .string sx, .int .i64 x3, .slice pk q ck] 37) := by rw [hW2]; show (wr.heap.push _)[_]? = _; simp
      have hcl := (Clone_krow (.slice pk q ck) ks W2 (HKV.out.below (hbw.trans (hb2.mono hbw.size))) (by rw [← hq]; exact hqm)).mono (R' := fun e WC => ∃ (pc : Option Addr) (cc : Nat), e = .returned (.slice pc q cc) ∧ Hid (WC.ownsRow (wr.heap.size + 1) 3 1 (.slice pc q cc) q (ks.map (Value.int .i64))) ∧ Hid (Below (wr.heap.size + 1) W2 WC) ∧ WC.heap[wr.heap.size]? = some (.cells #[.int .i64 x0, .int .i64 x1, .string sx, .int .i64 x3, .slice pk q ck] 37)) (by
        rintro e WC ⟨v', rfl, hown, hbc⟩
        rw [hs2] at hown hbc
        obtain ⟨pc, cc, rfl⟩ := own_formI hown
        exact ⟨pc, cc, by rw [hq], by rw [hq]; exact hown, hbc, (hbc.block _ (by omega)).trans hN2⟩)
      have HCL := Lib.hid hcl
      rw [hW2] at hcl
      have HX := Lib.hid hx
      have HY := Lib.hid hy
      have HBW := Lib.hid hbw
      have HBUT := Lib.hid hbut
      have HMP := Lib.hid hmp
      have HB2 := Lib.hid hb2
      have HN2 := Lib.hid hN2
      have HW2 := Lib.hid hW2
      have HS2 := Lib.hid hs2
      clear fk hx hy hold hbw hbut hmp hgc hyb hcs e2 e3 HCL hq hsx hb2 hN2 hW2 hs2
      go_wp2_with (go_at_call 38; refine hcl.mono ?_; clear hcl; rintro e WC ⟨pc, cc, rfl, HROWC, HBC, hNC⟩; have n4 := cell_of_row _ _ 4 _ _ _ hNC; simp only [List.getElem?_toArray, List.getElem?_cons_succ, List.getElem?_cons_zero] at n4; have nf := frozen_of_block hNC (4); have HNC := Lib.hid hNC; clear hNC)
      obtain ⟨N0, hN0⟩ : ∃ N0, N0 = wr.heap.size := ⟨_, rfl⟩
      rw [← hN0] at n4 nf HNC HBC HROWC
      rw [← hN0]
      obtain ⟨Wd, hWd⟩ : ∃ Wd, Wd = WC.setCell ⟨N0, 4, none⟩ (.slice pc q cc) := ⟨_, rfl⟩
      have hNd : Wd.heap[N0]? = some (.cells #[.int .i64 x0, .int .i64 x1, .string sx, .int .i64 x3, .slice pc q cc] 37) := by
        rw [hWd, heap_setCell_same _ _ _ _ _ _ HNC.out]
        rfl
      have hrd : Wd.ownsRow (N0 + 1) 3 1 (.slice pc q cc) q ((midK (renK ys) ks 0).map (Value.int .i64)) := by
        rw [midK_zero, hWd]
        exact own_set HROWC.out _ (by simp)
      have hN0s : w.heap.size < N0 := by rw [hN0]; exact Nat.lt_of_lt_of_le (by omega) HBUT.out.size
      have hbd : Below N0 wr Wd := by
        have hb0 : Below N0 wr W2 := by rw [hN0]; exact HB2.out
        have hbc := HBC.out
        rw [← HW2.out] at hbc
        have hb1 : Below N0 W2 WC := hbc.mono (Nat.le_succ _)
        have hb01 := hb0.trans hb1
        rw [hWd]
        exact hb01.setCell (p := ⟨N0, 4, none⟩) (Nat.le_refl _) _
      have hmd : MapI Wd w.heap.size j (numM ys j) := HMP.out.below hbd hN0s
      have HBD := Lib.hid hbd
      rw [← hWd]
      have HWd := Lib.hid hWd
      have HNO := Lib.hid hN0
      have HKA := Lib.hid (kid_ahead t HKID.out (j := j) (y := y) (x := (x0, x1, x2, x3, ks)) (by rw [← HYS.out]; exact HY.out) HX.out)
      clear hWd hbd n4 nf hN0
      obtain ⟨wo, hwo⟩ : ∃ wo, wo = wr := ⟨_, rfl⟩
      subst hwo
      go_loopw [44] (fun v44 wk => ∃ i : Nat, v44 = .int .i64 (i : Int) ∧ i ≤ q ∧ MapI wk w.heap.size j (numM ys j) ∧ wk.heap[N0]? = some (.cells #[.int .i64 x0, .int .i64 x1, .string sx, .int .i64 x3, .slice pc q cc] 37) ∧ Hid (wk.ownsRow (N0 + 1) 3 1 (.slice pc q cc) q ((midK (renK ys) ks i).map (Value.int .i64))) ∧ Hid (But (fun k => (Value.slice pc q cc).ownBlock = some k) Wd wk)) (fun v44 _ => q - (intOf v44).toNat)
      case atStart => exact ⟨0, rfl, Nat.zero_le _, hmd, hNd, hrd, Chg.refl _ _⟩
      case round =>
        obtain ⟨i, rfl, hi, hmk, hNk, HRK, HBK⟩ := hrel
        clear hmd hNd hrd
        by_cases hiq : i < q
        · obtain ⟨k, hk⟩ : ∃ k, ks[i]? = some k := ⟨_, List.getElem?_eq_getElem (by rw [← HQ.out]; exact hiq)⟩
          obtain ⟨gc, rfl, hgc1, hgc2, kc, kf⟩ := own_cellI HRK.out (midK_get _ _ _ _ hk)
          have hka := HKA.out k (List.mem_of_getElem? hk)
          have hwfk : (Lit.int .i64 k).wf = true := by
            have := wf_node (i := k.toNat) (n := m) (by omega) hP
            rwa [show ((k.toNat : Nat) : Int) = k by omega] at this
          have hlk := hmk.get 62 3 Tryd.underlying62 (zero_int wr) k hwfk
          have hnum : numM ys j k = some (.int .i64 (renK ys k)) := by unfold numM; rw [if_pos ⟨hka.1, by rw [HYS.out]; exact hka.2.2⟩]; rfl
          rw [hnum] at hlk
          simp only [Option.getD_some] at hlk
          have n4 := cell_of_row _ _ 4 _ _ _ hNk
          simp only [List.getElem?_toArray, List.getElem?_cons_succ, List.getElem?_cons_zero] at n4
          obtain ⟨rk, hrk⟩ := hid_ex (renK ys k)
          rw [hrk.out] at hlk
          have HMK := Lib.hid hmk
          have HNK := Lib.hid hNk
          have HK := Lib.hid hk
          clear hka hwfk hnum hmk hNk hk
          go_wp2_with fail
          refine ⟨⟨i + 1, rfl, by omega, HMK.out.of_block (Below.heap_setCell wr ⟨gc, i, none⟩ _ w.heap.size (by show w.heap.size ≠ gc; omega)), (Below.heap_setCell wr ⟨gc, i, none⟩ _ N0 (by show N0 ≠ gc; omega)).trans HNK.out, ?_, HBK.out.setCell (x := ⟨gc, i, none⟩) (fun _ => rfl) _⟩, by simp [intOf]; omega⟩
          have e : ((midK (renK ys) ks i).map (Value.int .i64)).set i (.int .i64 rk) = (midK (renK ys) ks (i + 1)).map (Value.int .i64) := by rw [← hrk.out, ← midK_set _ _ _ _ HK.out, List.map_set]
          rw [← e]
          exact (World.ownsRow.stored HRK.out i (.int .i64 rk)).1
        · obtain rfl : i = q := by omega
          have hys := HYS.out
          have hrk := HRK.out
          rw [HQ.out, midK_end] at hrk
          rw [← HQ.out] at hrk
          have hsx := HSX.out
          subst hsx
          have hyl := (List.getElem?_eq_some_iff.1 HY.out).1
          have hpos : posIn y ys = j := posIn_get ys j y (by rw [hys]; exact belS_nodup t) HY.out
          obtain ⟨W5, hup, hm5, hg5⟩ := hmk.put (by omega) 62 3 Tryd.underlying62 (y : Int) (wf_node hym hP) (.int .i64 (j : Int))
          have hbut5 : But (fun k => k = w.heap.size) wr W5 := ⟨hg5.os, hg5.tape, hg5.output, hg5.size, fun k hk hn => ⟨hg5.block k hk (fun e => hn (by injection e)), fun e => hn e⟩⟩
          have hnm : ∀ z, (Lit.int .i64 z).wf = true → (fun z => if z = (y : Int) then some (Value.int .i64 (j : Int)) else numM ys j z) z = numM ys (j + 1) z := fun z _ => by
            have hts := take_snoc ys j y HY.out
            simp only [numM]
            rw [hts]
            by_cases hz : z = (y : Int)
            · subst hz
              rw [if_pos rfl, if_pos ⟨by omega, by simp⟩, Int.toNat_natCast, hpos]
            · rw [if_neg hz]
              by_cases h0 : 0 ≤ z
              · have : (z.toNat ∈ ys.take j ++ [y]) ↔ z.toNat ∈ ys.take j := by
                  rw [List.mem_append]
                  simp
                  intro e; omega
                simp only [this]
              · simp [h0]
          have hm6 := hm5.congr hnm
          have hN0k : N0 < wr.heap.size := (Array.getElem?_eq_some_iff.1 hNk).1
          have hN5 : W5.heap[N0]? = some (.cells #[.int .i64 x0, .int .i64 x1, .string ⟨x2.toArray⟩, .int .i64 x3, .slice pc i cc] 37) := (hbut5.both N0 hN0k (by omega)).1.trans hNk
          have n0 := cell_of_row _ _ 0 _ _ _ hN5
          have n1 := cell_of_row _ _ 1 _ _ _ hN5
          have n2 := cell_of_row _ _ 2 _ _ _ hN5
          have n3 := cell_of_row _ _ 3 _ _ _ hN5
          have n4 := cell_of_row _ _ 4 _ _ _ hN5
          simp only [List.getElem?_toArray, List.getElem?_cons_succ, List.getElem?_cons_zero] at n0 n1 n2 n3 n4
          have hown : ∀ g, (Value.slice pc i cc).ownBlock = some g → N0 + 1 ≤ g := fun g e => (HRK.out.lt g e).1
          have hsd : wo.heap.size ≤ Wd.heap.size := HBD.out.size
          have hsk : Wd.heap.size ≤ wr.heap.size := HBK.out.size
          have hs5 : wr.heap.size ≤ W5.heap.size := hbut5.size
          have hso : WS.heap.size ≤ wo.heap.size := HBUT.out.size
          have hNo := HNO.out
          have hall : ∀ k, k < wo.heap.size → k ≠ w.heap.size → W5.heap[k]? = wo.heap[k]? := fun k hk hne => by
            rw [(hbut5.both k (by omega) hne).1, (HBK.out.both k (by omega) (fun e => by have := hown k e; omega)).1]
            exact HBD.out.block k (by omega)
          have HT5 : Hid (TRow WS.heap.size (.slice p3 j c3) P3 W5) := HT3.out.but (fun o => HMP.out.cell o) (by omega) (by omega) hall
          have hkr : KRow (.slice pc i cc) (ks.map (renK ys)) W5 := (own_krowI hrk).but (fun o => hmk.cell o) hs5 (fun k hk hne => (hbut5.both k hk hne).1)
          have HKX : Hid (KRowX (Value.slice p3 j c3).ownBlock (.slice pc i cc) (ks.map (renK ys)) W5) := ⟨hkr, fun _ g e e2 => by have h1 := hown g e; have h2 := (HT3.out.1.lt g e2).2; omega⟩
          have HL3 : Hid (P3.length = j) := (show _ = _ by
            have h1 := congrArg List.length HP3.out
            rw [List.length_map, List.length_take] at h1
            have h2 : (treeT t).length = ny := by unfold treeT; rw [List.length_map, ← hys, HNYE.out]
            omega)
          have HB5 : Hid (But (fun k => k = w.heap.size) WS W5) := (show But (fun k => k = w.heap.size) WS W5 from ⟨hbut5.os.trans (HBK.out.os.trans (HBD.out.os.trans HBUT.out.os)), hbut5.tape.trans (HBK.out.tape.trans (HBD.out.tape.trans HBUT.out.tape)), hbut5.output.trans (HBK.out.output.trans (HBD.out.output.trans HBUT.out.output)), by omega, fun k hk hn => ⟨(hall k (by omega) hn).trans (HBUT.out.both k hk hn).1, fun e => hn e⟩⟩)
          have HM6 := Lib.hid hm6
          have hb5 : WS.heap.size ≤ W5.heap.size := by omega
          have hN0w := hN0s
          clear hys hrk hyl hpos hm5 hg5 hbut5 hnm hm6 hN5 hown hsd hsk hs5 hso hNo hall hkr hmk hNk
          go_wp2_with (at_builtin; refine wpList_tapp3 rfl _ _ rfl WS.heap.size _ P3 W5 HT5.out hb5 [((x0, x1, x2, x3, ks.map (renK ys)), .slice pc i cc)] j 1 HL3.out rfl (by decide) _ (by simp [flatT, flatN]) rfl (by rfl) (by intro q hq; simp only [List.mem_cons, List.not_mem_nil, or_false] at hq; subst hq; exact HKX.out) (by omega) ?_; intro g6 c6 w6 HT6 HL6 HB6)
          have hv3 : ∀ g, (Value.slice p3 j c3).ownBlock = some g → WS.heap.size ≤ g := fun g e => (HT3.out.1.lt g e).1
          refine ⟨⟨j + 1, _, _, _, rfl, rfl, by omega, HM6.out.of_block (HB6.out.both w.heap.size (by omega) (fun e => by have := hv3 _ e; omega)).1, ⟨HB6.out.os.trans HB5.out.os, HB6.out.tape.trans HB5.out.tape, HB6.out.output.trans HB5.out.output, Nat.le_trans HB5.out.size HB6.out.size, fun k hk hn => ⟨(HB6.out.both k (by omega) (fun e => by have := hv3 k e; omega)).1.trans (HB5.out.both k hk hn).1, fun e => hn e⟩⟩, HT6, ?_⟩, by simp [intOf]; omega⟩
          show _ = _
          have hyb := HY.out
          rw [HYS.out] at hyb
          rw [List.map_append, HP3.out, treeT_take t hyb HX.out, ← HYS.out]
          rfl
    · obtain rfl : j = ny := by omega
      have hbr : Below w.heap.size w wr := HWS.out.trans (hbut.below (by omega) (fun k hk e => by omega))
      have htl : (treeT t).length = j := by unfold treeT; rw [List.length_map, ← HYS.out, HNYE.out]
      have HR : Hid (P3.map (·.1) = treeT t) := (show _ = _ by rw [HP3.out, List.take_of_length_le (by omega)])
      have HBR := Lib.hid hbr
      clear hmp hbut hbr htl
      go_wp2_with fail
      go_ret
      exact ⟨_, P3, rfl, ⟨HT3.out.1.mono (by omega), HT3.out.2⟩, HR.out, HBR.out⟩
end Go.Proofs.YtkmmcphiijolkaaDoor
