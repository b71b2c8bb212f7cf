/-
  Texts of the tree package put behind one another: TreeDD, TreeGG, TreeHH, TreeII, TreeJJ.
-/
import Derived.Test.YtkmmcphiijolkaaGreatDoorZe
import Derived.Deep.RegionHeld3
import Derived.Deep.Onto
set_option linter.unusedVariables false
set_option linter.unusedSimpArgs false
namespace Go.Proofs.YtkmmcphiijolkaaGreatDoor
open Go.RowKit Go.Shelf
open Tr

namespace Tr
/-- Where a number stands in a row first. -/
def posIn (k : Nat) : List Nat → Nat
  | [] => 0
  | y :: ys => if y = k then 0 else posIn k ys + 1
theorem posIn_get : ∀ (ys : List Nat) (j y : Nat), ys.Nodup → ys[j]? = some y → posIn y ys = j
  | [], j, y, _, h => by simp at h
  | x :: ys, 0, y, _, h => by
    simp at h
    simp [posIn, h]
  | x :: ys, j + 1, y, hn, h => by
    simp only [List.getElem?_cons_succ] at h
    have hx : x ≠ y := fun e => (List.nodup_cons.1 hn).1 (e ▸ List.mem_of_getElem? h)
    rw [posIn, if_neg hx, posIn_get ys j y (List.nodup_cons.1 hn).2 h]
/-- A node with its kids' new numbers. -/
def renN (ys : List Nat) (x : NodeD) : NodeD := (x.1, x.2.1, x.2.2.1, x.2.2.2.1, x.2.2.2.2.map fun k => ((posIn k.toNat ys : Nat) : Int))
/-- What is below the last node, in the order of numbers. -/
def belS (t : List NodeD) : List Nat := (List.range t.length).filter fun i => decide (i ∈ belowT t ((t.length : Int) - 1))
def treeT (t : List NodeD) : List NodeD := (belS t).map fun y : Nat => renN (belS t) (nodeAt t (y : Int))
theorem belS_of {t : List NodeD} {ys : List Nat} (hp : ys.Perm (belowT t ((t.length : Int) - 1))) (hs : ys.Pairwise (· ≤ ·)) : ys = belS t := by
  have hf := below_few t ((t.length : Int) - 1)
  refine List.Perm.eq_of_pairwise (le := (· ≤ ·)) (fun a b _ _ h1 h2 => Nat.le_antisymm h1 h2) hs ?_ ?_
  · exact (List.pairwise_le_range).filter _
  · refine hp.trans ?_
    unfold belS
    rw [List.perm_ext_iff_of_nodup hf.1 ((List.nodup_range).filter _)]
    intro a
    simp only [List.mem_filter, List.mem_range, decide_eq_true_eq]
    exact ⟨fun h => ⟨hf.2 a h, h⟩, fun h => h.2⟩
theorem belS_nodup (t : List NodeD) : (belS t).Nodup := (List.nodup_range).filter _
end Tr
/-- The new numbers of those that have been gone over. -/
def numM (ys : List Nat) (j : Nat) : Int → Option Value := fun x => if 0 ≤ x ∧ x.toNat ∈ ys.take j then some (.int .i64 ((posIn x.toNat ys : Nat) : Int)) else none

theorem Clone_krow (kv : Value) (ks : List Int) (w : World) (hk : KRow kv ks w) (hl : ks.length ≤ 1000000) :
    Calls Tryz.prog 44 #[kv] w fun e w' => ∃ v', e = .returned v' ∧ w'.ownsRow w.heap.size 3 1 v' ks.length (ks.map (Value.int .i64)) ∧ Below w.heap.size w w' := by
  obtain ⟨pk, ck, rfl, fk⟩ := hk
  cases pk with
  | none =>
    have hx : ks = [] := by
      cases ks with
      | nil => rfl
      | cons a l => obtain ⟨g, o, e, _⟩ := fk.1 0 a rfl; cases e
    subst hx
    exact (Tryz.slices_Clone_int_nil 0 ck w).mono fun e w' ⟨he, hw⟩ => ⟨_, he, World.ownsRow_nil _ _ _ _, by rw [hw]; exact Below.refl _ _⟩
  | some a =>
    cases ks with
    | nil => exact (Tryz.slices_Clone_int_zero a ck w).mono fun e w' ⟨v', he, ho, _, hb⟩ => ⟨v', he, ho, hb⟩
    | cons x l =>
      obtain ⟨g, o, e, _⟩ := fk.1 0 x rfl
      injection e with e
      subst e
      refine (Tryz.slices_Clone_int g o (x :: l).length ck (x :: l) w (Nat.le_refl _) (by omega) (fun j hj => ?_)).mono fun e w' ⟨v', he, ho, _, hb⟩ => ⟨v', he, by rw [List.take_length] at ho; exact ho, hb⟩
      have hjj : (x :: l)[j]? = some ((x :: l)[j]) := List.getElem?_eq_getElem hj
      obtain ⟨g', o', e, _, hc⟩ := fk.1 j _ hjj
      injection e with e
      injection e with e1 e2
      subst e1; subst e2
      rw [hc]
      simp [List.getD, hjj]

theorem frozen_of_block {w : World} {b : Nat} {cs : Array Value} {T : TypeId} (h : w.heap[b]? = some (.cells cs T (0, 0))) (o : Nat) : w.frozen? ⟨b, o, none⟩ = false := by simp [World.frozen?, h]
theorem own_formI {base n : Nat} {v : Value} {xs : List Value} {w : World} (h : w.ownsRow base 3 1 v n xs) : ∃ pr cr, v = .slice pr n cr := by
  rcases h.2 with ⟨rfl, hn⟩ | ⟨g, cap, cur, rfl, _⟩
  · exact ⟨none, 0, by rw [hn]⟩
  · exact ⟨_, cap, rfl⟩
theorem own_set {base n sz : Nat} {T : TypeId} {v : Value} {xs : List Value} {w : World} (h : w.ownsRow base T sz v n xs) {a : Addr} (u : Value) (ha : a.block < base) : (w.setCell a u).ownsRow base T sz v n xs := by
  refine ⟨h.1, ?_⟩
  rcases h.2 with h2 | ⟨g, cap, cur, e, hg, hgb, r⟩
  · exact Or.inl h2
  · exact Or.inr ⟨g, cap, cur, e, hg, (Below.heap_setCell w a u g (by omega)).trans hgb, r⟩
/-- A row of numbers of the call's own: its cell. -/
theorem own_cellI {base n : Nat} {pr : Option Addr} {cr : Nat} {l : List Int} {w : World} (h : w.ownsRow base 3 1 (.slice pr n cr) n (l.map (Value.int .i64))) {i : Nat} {k : Int} (hk : l[i]? = some k) :
    ∃ g, pr = some ⟨g, 0, none⟩ ∧ base ≤ g ∧ g < w.heap.size ∧ w.cell? ⟨g, i, none⟩ = some (.int .i64 k) ∧ w.frozen? ⟨g, i, none⟩ = false := by
  have hl : l.length = n := by have := h.1; rw [List.length_map] at this; omega
  have hi := (List.getElem?_eq_some_iff.1 hk).1
  rcases h.2 with ⟨e, hn⟩ | ⟨g, cap, cur, e, hg, hgb, r⟩
  · omega
  · injection e with e1 e2 e3
    subst e1
    subst e3
    refine ⟨g, rfl, hg, (Array.getElem?_eq_some_iff.1 hgb).1, ?_, frozen_of_block hgb i⟩
    rw [World.ownsRow.cellAt h i (by omega), List.getElem?_map, hk]
    rfl
theorem own_krowI {base n : Nat} {v : Value} {l : List Int} {w : World} (h : w.ownsRow base 3 1 v n (l.map (Value.int .i64))) : KRow v l w := by
  have hl : l.length = n := by have := h.1; rw [List.length_map] at this; omega
  obtain ⟨pr, cr, rfl⟩ := own_formI h
  refine ⟨pr, cr, by rw [hl], fun k c hk => ?_, ?_⟩
  · obtain ⟨g, e, _, hg, hc, _⟩ := own_cellI h hk
    exact ⟨g, 0, e, hg, by rw [Nat.zero_add]; exact hc⟩
  · rcases h.2 with ⟨e, hn⟩ | ⟨g, cap, cur, e, hg, hgb, hnc, _⟩
    · omega
    · injection e with e1 e2 e3
      omega
theorem KRow.but {v : Value} {l : List Int} {w w' : World} {bM : Nat} (h : KRow v l w) (hm : ∀ o, w.cell? ⟨bM, o, none⟩ = none) (hs : w.heap.size ≤ w'.heap.size) (hb : ∀ k, k < w.heap.size → k ≠ bM → w'.heap[k]? = w.heap[k]?) : KRow v l w' := by
  obtain ⟨pa, cap, e, hc⟩ := h
  refine ⟨pa, cap, e, fun k c hk => ?_, hc.2⟩
  obtain ⟨g, o, e2, hg, a0⟩ := hc.1 k c hk
  refine ⟨g, o, e2, Nat.lt_of_lt_of_le hg hs, ?_⟩
  rw [World.cell?_of_block (w := w) (hb g hg (fun e => by subst e; rw [hm] at a0; cases a0))]
  exact a0
theorem TRow.but {base : Nat} {v : Value} {P : List (NodeD × Value)} {w w' : World} {bM : Nat} (h : TRow base v P w) (hm : ∀ o, w.cell? ⟨bM, o, none⟩ = none) (hM : bM < base) (hs : w.heap.size ≤ w'.heap.size) (hb : ∀ k, k < w.heap.size → k ≠ bM → w'.heap[k]? = w.heap[k]?) : TRow base v P w' := by
  refine ⟨?_, fun p hp => ⟨(h.2 p hp).1.but hm hs hb, (h.2 p hp).2⟩⟩
  refine ⟨h.1.1, ?_⟩
  rcases h.1.2 with h2 | ⟨g, cap, cur, e, hg, hgb, r⟩
  · exact Or.inl h2
  · exact Or.inr ⟨g, cap, cur, e, hg, (hb g (Array.getElem?_eq_some_iff.1 hgb).1 (by omega)).trans hgb, r⟩
theorem MapI.cell {w : World} {b n : Nat} {f : Int → Option Value} (h : MapI w b n f) (o : Nat) : w.cell? ⟨b, o, none⟩ = none := by
  obtain ⟨D, ⟨es, ck, h1, h2⟩, r⟩ := h
  simp [World.cell?, h1]
/-- Kids that have been given their new numbers, as far as number i. -/
def midK (f : Int → Int) (ks : List Int) (i : Nat) : List Int := (ks.take i).map f ++ ks.drop i
theorem midK_set (f : Int → Int) : ∀ (ks : List Int) (i : Nat) (k : Int), ks[i]? = some k → (midK f ks i).set i (f k) = midK f ks (i + 1)
  | [], i, k, h => by simp at h
  | x :: xs, 0, k, h => by
    simp at h
    subst h
    simp [midK]
  | x :: xs, i + 1, k, h => by
    have := midK_set f xs i k (by simpa using h)
    simp only [midK] at this
    simp only [midK, List.take_succ_cons, List.drop_succ_cons, List.map_cons, List.cons_append, List.set_cons_succ]
    rw [this]
theorem midK_get (f : Int → Int) (ks : List Int) (i : Nat) (k : Int) (h : ks[i]? = some k) : (midK f ks i)[i]? = some k := by
  have hi := (List.getElem?_eq_some_iff.1 h).1
  unfold midK
  rw [List.getElem?_append_right (by rw [List.length_map, List.length_take]; omega)]
  rw [List.length_map, List.length_take, List.getElem?_drop]
  rw [show i + (i - min i ks.length) = i by omega]
  exact h
theorem midK_zero (f : Int → Int) (ks : List Int) : midK f ks 0 = ks := by simp [midK]
theorem midK_end (f : Int → Int) (ks : List Int) : midK f ks ks.length = ks.map f := by simp [midK]
def renK (ys : List Nat) (k : Int) : Int := ((posIn k.toNat ys : Nat) : Int)
theorem posIn_le : ∀ (ys : List Nat) (k : Nat), posIn k ys ≤ ys.length
  | [], k => Nat.le_refl _
  | y :: ys, k => by
    have := posIn_le ys k
    simp only [posIn]
    split <;> simp <;> omega
theorem mem_kidsOf (y : Nat) (k : Int) (h0 : 0 ≤ k) (h1 : k < (y : Int)) : ∀ l : List Int, k ∈ l → k.toNat ∈ kidsOf y l
  | [], h => by cases h
  | x :: xs, h => by
    simp only [kidsOf]
    rcases List.mem_cons.1 h with rfl | h
    · rw [if_pos ⟨h0, h1⟩]; exact List.mem_cons_self ..
    · have := mem_kidsOf y k h0 h1 xs h
      split
      · exact List.mem_cons_of_mem _ this
      · exact this
/-- Kids of a node that is below are below, ahead of it. -/
theorem kid_ahead (t : List NodeD) (hkid : KidsAt 0 t) {j y : Nat} {x : NodeD} (hy : (belS t)[j]? = some y) (hx : t[y]? = some x) : ∀ k ∈ x.2.2.2.2, 0 ≤ k ∧ k < (y : Int) ∧ k.toNat ∈ (belS t).take j := by
  intro k hk
  have h1 := hkid.get hx k hk
  rw [Nat.zero_add] at h1
  have hyb := List.mem_of_getElem? hy
  have hyb2 : y ∈ belowT t ((t.length : Int) - 1) := by
    unfold belS at hyb
    simpa using (List.mem_filter.1 hyb).2
  have hnx : nodeAt t (y : Int) = x := by unfold nodeAt; rw [Int.toNat_natCast, hx]; rfl
  have hkn : k.toNat ∈ kidN t y := by
    unfold kidN
    rw [hnx]
    exact mem_kidsOf y k h1.1 h1.2 _ hk
  have hkb := below_closed t _ y hyb2 _ hkn
  refine ⟨h1.1, h1.2, sorted_take ((List.pairwise_le_range).filter _) hy ?_ (by omega)⟩
  show _ ∈ belS t
  unfold belS
  rw [List.mem_filter]
  exact ⟨List.mem_range.2 (below_lt t _ _ hkb), by simpa using hkb⟩
theorem treeT_take (t : List NodeD) {j y : Nat} {x : NodeD} (hy : (belS t)[j]? = some y) (hx : t[y]? = some x) : (treeT t).take (j + 1) = (treeT t).take j ++ [renN (belS t) x] := by
  have hnx : nodeAt t (y : Int) = x := by unfold nodeAt; rw [Int.toNat_natCast, hx]; rfl
  refine take_snoc _ _ _ ?_
  unfold treeT
  rw [List.getElem?_map, hy]
  simp only [Option.map_some]
  rw [hnx]
theorem wpList_tapp3 {ops : Array Oper} {rest : List Oper} {o : Oper} {a : Act} {Q' : Exit → Act → World → Prop} (hgd : o.guard = none) (s x : Operand)
    (ho : o.op = .call { callee := .builtin .append, args := #[s, x], argTypes := #[23, 23] }) (base : Nat) (v : Value) (P : List (NodeD × Value)) (w : World) (hT : TRow base v P w) (hbase : base ≤ w.heap.size)
    (Q : List (NodeD × Value)) (n m : Nat) (hn : P.length = n) (hm : Q.length = m) (hQ : 0 < m) (cs : Array Value) (hcs : cs.toList = flatT Q) (hs : a.eval s = v) (hx : a.eval x = .slice (some ⟨w.heap.size, 0, none⟩) m m)
    (hq : ∀ q ∈ Q, KRowX v.ownBlock q.2 q.1.2.2.2.2 w) (hlen : n + m ≤ 1000000)
    (h : ∀ g c w', Hid (TRow base (.slice (some ⟨g, 0, none⟩) (n + m) c) (P ++ Q) w') → Hid ((P ++ Q).length = n + m) → Hid (But (fun k => v.ownBlock = some k) w w') → wpList Tryz.prog ops Q' rest (a.put o.dst (.slice (some ⟨g, 0, none⟩) (n + m) c)) w') :
    wpList Tryz.prog ops Q' (o :: rest) a (w.alloc (.cells cs 39)) := by
  subst hn
  subst hm
  obtain ⟨i0, hi, hz0, hz1, hz2⟩ := info_parts infoNode
  have hb2 : Below w.heap.size w (w.alloc (.cells cs 39)) := (Below.refl _ _).alloc (Nat.le_refl _) _
  have hown : (w.alloc (.cells cs 39)).ownsRow base 39 5 v P.length (flatT P) := (hT.below hb2).1
  refine wpList_append_own_at _ hgd s x 23 ho base 39 i0 _ 5 64 Tryz.underlying23 hi hz0 hz1 hz2 rfl (by decide) v P.length (flatT P) hs hown ⟨w.heap.size, 0, none⟩ Q.length Q.length (flatT Q) hx (flatT_length Q) (nodesL w Q cs hcs) ?_ (by unfold maxLen; omega) (by omega) (by simp; omega) ?_
  · intro u hu
    rcases flatT_one Q u hu with ⟨i, rfl⟩ | ⟨s, rfl⟩ | ⟨q, hqm, rfl⟩
    · rfl
    · rfl
    · obtain ⟨pa, cap, e, _⟩ := (hq q hqm).1
      rw [e]; rfl
  · intro v' w' hown' hgrow _ hloc
    have hT' := (hT.below hb2).grow hown' hgrow hloc (fun q hqm => ⟨(hq q hqm).1.below hb2, (hq q hqm).2⟩)
    obtain ⟨g, c, rfl⟩ := hT'.form (by rw [List.length_append]; omega)
    rw [List.length_append] at hT' ⊢
    exact h g c w' hT' (show _ = _ by rw [List.length_append]) (show But _ _ _ from ⟨hgrow.os, hgrow.tape, hgrow.output, Nat.le_trans hb2.size hgrow.size, fun k hk hn => ⟨(hgrow.block k (by have := hb2.size; omega) (fun e => hn e.symm)).trans (hb2.block k hk), fun e => hn e⟩⟩)
set_option maxHeartbeats 16000000 in
set_option maxRecDepth 100000 in
theorem Tree_any (base bB : Nat) (v : Value) (P : List (NodeD × Value)) (w : World) (hB : Bld base bB v P w) (hP : P.length ≤ 1000000) (hks : ∀ p ∈ P, p.1.2.2.2.2.length ≤ 1000000) (hkid : KidsAt 0 (P.map (·.1))) :
    Calls Tryz.prog 20 #[.pointer (some ⟨bB, 0, none⟩)] w fun e w' => ∃ v' P', e = .returned v' ∧ TRow w.heap.size v' P' w' ∧ P'.map (·.1) = treeT (P.map (·.1)) ∧ Below w.heap.size w w' := by
  obtain ⟨t, ht⟩ : ∃ t, t = P.map (·.1) := ⟨_, rfl⟩
  have hat : ArgT v t w := by rw [ht]; exact hB.row.argT
  have htl : t.length = P.length := by rw [ht, List.length_map]
  have hks2 : ∀ x ∈ t, x.2.2.2.2.length ≤ 1000000 := fun x hx => by
    rw [ht] at hx
    obtain ⟨p, hp, rfl⟩ := List.mem_map.1 hx
    exact hks p hp
  rw [← ht] at hkid ⊢
  have c0 := hB.cell
  have hbl := (Array.getElem?_eq_some_iff.1 hB.blk).1
  obtain ⟨pv, cv, rfl⟩ := hB.form
  obtain ⟨m, hm⟩ : ∃ m, m = t.length := ⟨_, rfl⟩
  rw [← htl, ← hm] at c0 hat hP
  have HM := Lib.hid hm
  have HC0 := Lib.hid c0
  have HAT := Lib.hid hat
  have HKID := Lib.hid hkid
  have HKS := Lib.hid hks2
  obtain ⟨W1, hW1⟩ : ∃ W1, W1 = w.alloc (.map #[] 0) := ⟨_, rfl⟩
  have hb1 : Below w.heap.size w W1 := by rw [hW1]; exact (Below.refl _ w).alloc (Nat.le_refl _) _
  have hs1 : W1.heap.size = w.heap.size + 1 := by rw [hW1]; simp
  have hm1 : MapI W1 w.heap.size 0 (fun _ => none) := by rw [hW1]; exact MapI.made w
  have c1 : W1.cell? ⟨bB, 0, none⟩ = some (.slice pv m cv) := (hb1.cell (p := ⟨bB, 0, none⟩) hbl).trans c0
  have hbel := fun W => callsIn_wide.1 (below_in Fence.wide 3 trivial rfl pv m cv ((m : Int) - 1) W)
  have hsort : ∀ W, Below W1.heap.size W1 W → Calls Tryz.prog 42 #[.func (.func 89) #[] #[.pointer (some ⟨W.heap.size, 0, none⟩), .pointer (some ⟨W.heap.size + 1, 0, none⟩)]] ((W.alloc (.cells #[.slice pv m cv] 23)).alloc (.cells #[.int .i64 ((m : Int) - 1)] 3)) fun e WS =>
      ∃ (pr : Option Addr) (cr ny : Nat), e = .returned (.slice pr ny cr) ∧ Hid (ny = (belS t).length) ∧ ny ≤ 1000000 ∧ Hid (WS.ownsRow W1.heap.size 3 1 (.slice pr ny cr) ny ((belS t).map fun x : Nat => .int .i64 (x : Int))) ∧ Hid (Below W1.heap.size W1 WS) ∧ WS.cell? ⟨bB, 0, none⟩ = some (.slice pv m cv) := fun W hW => by
    have hs := hW.size
    have hbW : Below W1.heap.size W1 ((W.alloc (.cells #[.slice pv m cv] 23)).alloc (.cells #[.int .i64 ((m : Int) - 1)] 3)) := (hW.alloc hs _).alloc (by simp; omega) _
    have q2 : ((W.alloc (.cells #[.slice pv m cv] 23)).alloc (.cells #[.int .i64 ((m : Int) - 1)] 3)).cell? ⟨W.heap.size, 0, none⟩ = some (.slice pv m cv) := by
      rw [World.cell?_alloc_past _ _ _ (by simp), World.cell?_alloc_at _ _ _ _ rfl]; rfl
    have q3 : ((W.alloc (.cells #[.slice pv m cv] 23)).alloc (.cells #[.int .i64 ((m : Int) - 1)] 3)).cell? ⟨W.heap.size + 1, 0, none⟩ = some (.int .i64 ((m : Int) - 1)) := by
      rw [World.cell?_alloc_at _ _ _ _ (by simp)]; rfl
    have hit := below_iter Fence.wide fen_wide w ((W.alloc (.cells #[.slice pv m cv] 23)).alloc (.cells #[.int .i64 ((m : Int) - 1)] 3)) (.slice pv m cv) t HAT.out (by rw [← HM.out]; exact hP) (fun x hx => by have := HKS.out x hx; unfold maxLen; omega) ((m : Int) - 1) W.heap.size (W.heap.size + 1) (hb1.trans (hbW.mono hb1.size)) (by simp; omega) (by simp) q2 q3
    refine (Sorted_any _ 89 _ (enters_of Tryz.func89 (by kernel_rfl) rfl) (Few t) (fun xs => xs = belowT t ((m : Int) - 1)) (fun q h => Nat.le_trans (few_length h) (by rw [← HM.out]; exact hP)) (fun q h => by rw [h]; exact Nat.le_trans (few_length (below_few t _)) (by rw [← HM.out]; exact hP)) hit).mono ?_
    rintro e WS ⟨v, xs, ys, rfl, hp, hpw, rfl, hown, hbs⟩
    rw [HM.out] at hp
    obtain rfl := belS_of hp hpw
    obtain ⟨pr, cr, rfl, _⟩ := own_form hown
    exact ⟨pr, cr, _, rfl, rfl, by rw [hp.length_eq]; exact Nat.le_trans (few_length (below_few t _)) (by rw [← HM.out]; exact hP), hown.mono hbW.size, hbW.trans (hbs.mono hbW.size), ((hbW.trans (hbs.mono hbW.size)).cell (p := ⟨bB, 0, none⟩) (Nat.lt_of_lt_of_le hbl hb1.size)).trans c1⟩
  have hsort2 := hsort W1.drew (Below.refl _ _).drew
  have hbel2 := hbel W1.drew
  have e0 : W1.drew.heap.size = W1.heap.size := rfl
  rw [e0] at hsort2 hbel2
  have HSORT := Lib.hid hsort2
  have HBEL := Lib.hid hbel2
  have hmm := @run_makeMap Tryz.prog
  have hmw : IntKind.i64.wrap ((m : Int) - 1) = (m : Int) - 1 := IntWalk.i64_in _ (by omega)
  have HB := Lib.hid hB
  have HS1 := Lib.hid hs1
  have HB1 := Lib.hid hb1
  have HM1 := Lib.hid hm1
  clear hs1 hb1 hm1 hB hat hkid hks2 hks ht htl hm hsort hbel hsort2 hbel2 e0 c0
  go_enter Tryz.func20, Tryz.ntmps20
  go_upto_region 5 with fail
  rw [← hW1]
  have HW1 := Lib.hid hW1
  clear hW1 hmm
  go_region_held3 (fun w' => w'.cell? ⟨bB, 0, none⟩ = some (.slice pv m cv)) (go_keep)
    ((first | (go_at_call 43; refine HBEL.out.mono ?_; rintro e w5 ⟨rfl, rfl⟩) | (go_at_call 42; refine HSORT.out.mono ?_; rintro e WS ⟨pr, cr, ny, rfl, HNY, hny, HROW, HBS, cS⟩)))
  obtain ⟨ys, hys⟩ : ∃ ys, ys = belS t := ⟨_, rfl⟩
  have hny2 := HNY.out
  have hrow := HROW.out
  rw [← hys] at hny2 hrow
  have frow : ∀ (j y : Nat), ys[j]? = some y → ∃ g, pr = some ⟨g, 0, none⟩ ∧ W1.heap.size ≤ g ∧ g < WS.heap.size ∧ WS.cell? ⟨g, j, none⟩ = some (.int .i64 (y : Int)) := by
    rw [hny2] at hrow
    obtain ⟨pr', cr', e, h⟩ := own_form hrow
    injection e with e1 e2 e3
    subst e1
    exact h
  have hwS : Below w.heap.size w WS := HB1.out.trans (HBS.out.mono HB1.out.size)
  have hszS : w.heap.size + 1 ≤ WS.heap.size := by rw [← HS1.out]; exact HBS.out.size
  have hmS : MapI WS w.heap.size 0 (numM ys 0) := (HM1.out.below HBS.out (by rw [HS1.out]; omega)).congr (fun z _ => by simp [numM])
  have HYS := Lib.hid hys
  have HNYE := Lib.hid hny2
  have HFROW := Lib.hid frow
  have HWS := Lib.hid hwS
  have hs1 := HS1.out
  have hW1s : w.heap.size < W1.heap.size := by omega
  clear hs1 hrow frow hwS hys hny2 c1 HSORT HBEL HROW HNY HW1 HM1 HS1
  go_wp2_with fail
  go_loopw [3, 26] (fun v3 v26 wr => ∃ (j : Nat) (p3 : Option Addr) (c3 : Nat) (P3 : List (NodeD × Value)), v26 = .int .i64 (j : Int) ∧ v3 = .slice p3 j c3 ∧ j ≤ ny ∧ MapI wr w.heap.size j (numM ys j) ∧ But (fun k => k = w.heap.size) WS wr ∧ Hid (TRow WS.heap.size (.slice p3 j c3) P3 wr) ∧ Hid (P3.map (·.1) = (treeT t).take j)) (fun _ v26 _ => ny - (intOf v26).toNat)
  case atStart => exact ⟨0, none, 0, [], rfl, rfl, Nat.zero_le _, hmS, Chg.refl _ _, ⟨World.ownsRow_nil _ _ _ _, fun p h => by simp at h⟩, by show _ = _; simp⟩
  case round =>
    obtain ⟨j, p3, c3, P3, rfl, rfl, hj, hmp, hbut, HT3, HP3⟩ := hrel
    clear hmS cS
    by_cases hjn : j < ny
    · obtain ⟨y, hy⟩ : ∃ y, ys[j]? = some y := ⟨_, List.getElem?_eq_getElem (by rw [← HNYE.out]; exact hjn)⟩
      obtain ⟨g, rfl, hg1, hg2, hgc⟩ := HFROW.out j y hy
      have hyb : y ∈ belS t := by rw [← HYS.out]; exact List.mem_of_getElem? hy
      have hyt : y < t.length := by
        unfold belS at hyb
        exact List.mem_range.1 (List.mem_filter.1 hyb).1
      have hyc : wr.cell? ⟨g, j, none⟩ = some (.int .i64 (y : Int)) := (World.cell?_of_block (a := ⟨g, j, none⟩) (hbut.both g hg2 (by omega)).1).trans hgc
      obtain ⟨x, hx⟩ : ∃ x, t[y]? = some x := ⟨_, List.getElem?_eq_getElem hyt⟩
      obtain ⟨pa, cap, ea, hcs⟩ := HAT.out
      injection ea with e1 e2 e3
      subst e1
      obtain ⟨ga, oa, vk, rfl, hga, a0, a1, a2, a3, a4, hkv⟩ := hcs y x hx
      have hold : ∀ o, wr.cell? ⟨ga, o, none⟩ = w.cell? ⟨ga, o, none⟩ := fun o => (World.cell?_of_block (a := ⟨ga, o, none⟩) (hbut.both ga (Nat.lt_of_lt_of_le hga HWS.out.size) (by omega)).1).trans (HWS.out.cell (p := ⟨ga, o, none⟩) hga)
      rw [← hold] at a0 a1 a2 a3 a4
      have hbw : Below w.heap.size w wr := HWS.out.trans (hbut.below (by omega) (fun k hk e => by omega))
      have cB : wr.cell? ⟨bB, 0, none⟩ = some (.slice (some ⟨ga, oa, none⟩) m cv) := (hbw.cell (p := ⟨bB, 0, none⟩) hbl).trans HC0.out
      have hym : y < m := by rw [HM.out]; exact hyt
      have hym2 : (y : Int) < (m : Int) := by omega
      obtain ⟨x0, x1, x2, x3, ks⟩ := x
      simp only at a0 a1 a2 a3 a4 hkv
      have HKV := Lib.hid hkv
      obtain ⟨pk, ck, rfl, fk⟩ := hkv
      obtain ⟨q, hq⟩ : ∃ q, q = ks.length := ⟨_, rfl⟩
      have hqm : q ≤ 1000000 := by rw [hq]; exact HKS.out (x0, x1, x2, x3, ks) (List.mem_of_getElem? hx)
      have HQ := Lib.hid hq
      rw [← hq] at a4 HKV
      obtain ⟨sx, hsx⟩ : ∃ sx : ByteArray, sx = ⟨x2.toArray⟩ := ⟨_, rfl⟩
      rw [← hsx] at a2
      have HSX := Lib.hid hsx
      obtain ⟨W2, hW2⟩ : ∃ W2, W2 = wr.alloc (.cells #[.int .i64 x0, .int .i64 x1, .string sx, .int .i64 x3, .slice pk q ck] 39) := ⟨_, rfl⟩
      have hb2 : Below wr.heap.size wr W2 := by rw [hW2]; exact (Below.refl _ _).alloc (Nat.le_refl _) _
      have hs2 : W2.heap.size = wr.heap.size + 1 := by rw [hW2]; simp
      have hN2 : W2.heap[wr.heap.size]? = some (.cells #[.int .i64 x0, .int .i64 x1, .string sx, .int .i64 x3, .slice pk q ck] 39) := by rw [hW2]; show (wr.heap.push _)[_]? = _; simp
      have hcl := (Clone_krow (.slice pk q ck) ks W2 (HKV.out.below (hbw.trans (hb2.mono hbw.size))) (by rw [← hq]; exact hqm)).mono (R' := fun e WC => ∃ (pc : Option Addr) (cc : Nat), e = .returned (.slice pc q cc) ∧ Hid (WC.ownsRow (wr.heap.size + 1) 3 1 (.slice pc q cc) q (ks.map (Value.int .i64))) ∧ Hid (Below (wr.heap.size + 1) W2 WC) ∧ WC.heap[wr.heap.size]? = some (.cells #[.int .i64 x0, .int .i64 x1, .string sx, .int .i64 x3, .slice pk q ck] 39)) (by
        rintro e WC ⟨v', rfl, hown, hbc⟩
        rw [hs2] at hown hbc
        obtain ⟨pc, cc, rfl⟩ := own_formI hown
        exact ⟨pc, cc, by rw [hq], by rw [hq]; exact hown, hbc, (hbc.block _ (by omega)).trans hN2⟩)
      have HCL := Lib.hid hcl
      rw [hW2] at hcl
      have HX := Lib.hid hx
      have HY := Lib.hid hy
      have HBW := Lib.hid hbw
      have HBUT := Lib.hid hbut
      have HMP := Lib.hid hmp
      have HB2 := Lib.hid hb2
      have HN2 := Lib.hid hN2
      have HW2 := Lib.hid hW2
      have HS2 := Lib.hid hs2
      clear fk hx hy hold hbw hbut hmp hgc hyb hcs e2 e3 HCL hq hsx hb2 hN2 hW2 hs2
      go_wp2_with (go_at_call 44; refine hcl.mono ?_; clear hcl; rintro e WC ⟨pc, cc, rfl, HROWC, HBC, hNC⟩; have n4 := cell_of_row _ _ 4 _ _ _ hNC; simp only [List.getElem?_toArray, List.getElem?_cons_succ, List.getElem?_cons_zero] at n4; have nf := frozen_of_block hNC (4); have HNC := Lib.hid hNC; clear hNC)
      obtain ⟨N0, hN0⟩ : ∃ N0, N0 = wr.heap.size := ⟨_, rfl⟩
      rw [← hN0] at n4 nf HNC HBC HROWC
      rw [← hN0]
      obtain ⟨Wd, hWd⟩ : ∃ Wd, Wd = WC.setCell ⟨N0, 4, none⟩ (.slice pc q cc) := ⟨_, rfl⟩
      have hNd : Wd.heap[N0]? = some (.cells #[.int .i64 x0, .int .i64 x1, .string sx, .int .i64 x3, .slice pc q cc] 39) := by
        rw [hWd, heap_setCell_same _ _ _ _ _ _ HNC.out]
        rfl
      have hrd : Wd.ownsRow (N0 + 1) 3 1 (.slice pc q cc) q ((midK (renK ys) ks 0).map (Value.int .i64)) := by
        rw [midK_zero, hWd]
        exact own_set HROWC.out _ (by simp)
      have hN0s : w.heap.size < N0 := by rw [hN0]; exact Nat.lt_of_lt_of_le (by omega) HBUT.out.size
      have hbd : Below N0 wr Wd := by
        have hb0 : Below N0 wr W2 := by rw [hN0]; exact HB2.out
        have hbc := HBC.out
        rw [← HW2.out] at hbc
        have hb1 : Below N0 W2 WC := hbc.mono (Nat.le_succ _)
        have hb01 := hb0.trans hb1
        rw [hWd]
        exact hb01.setCell (p := ⟨N0, 4, none⟩) (Nat.le_refl _) _
      have hmd : MapI Wd w.heap.size j (numM ys j) := HMP.out.below hbd hN0s
      have HBD := Lib.hid hbd
      rw [← hWd]
      have HWd := Lib.hid hWd
      have HNO := Lib.hid hN0
      have HKA := Lib.hid (kid_ahead t HKID.out (j := j) (y := y) (x := (x0, x1, x2, x3, ks)) (by rw [← HYS.out]; exact HY.out) HX.out)
      clear hWd hbd n4 nf hN0
      obtain ⟨wo, hwo⟩ : ∃ wo, wo = wr := ⟨_, rfl⟩
      subst hwo
      go_loopw [44] (fun v44 wk => ∃ i : Nat, v44 = .int .i64 (i : Int) ∧ i ≤ q ∧ MapI wk w.heap.size j (numM ys j) ∧ wk.heap[N0]? = some (.cells #[.int .i64 x0, .int .i64 x1, .string sx, .int .i64 x3, .slice pc q cc] 39) ∧ Hid (wk.ownsRow (N0 + 1) 3 1 (.slice pc q cc) q ((midK (renK ys) ks i).map (Value.int .i64))) ∧ Hid (But (fun k => (Value.slice pc q cc).ownBlock = some k) Wd wk)) (fun v44 _ => q - (intOf v44).toNat)
      case atStart => exact ⟨0, rfl, Nat.zero_le _, hmd, hNd, hrd, Chg.refl _ _⟩
      case round =>
        obtain ⟨i, rfl, hi, hmk, hNk, HRK, HBK⟩ := hrel
        clear hmd hNd hrd
        by_cases hiq : i < q
        · obtain ⟨k, hk⟩ : ∃ k, ks[i]? = some k := ⟨_, List.getElem?_eq_getElem (by rw [← HQ.out]; exact hiq)⟩
          obtain ⟨gc, rfl, hgc1, hgc2, kc, kf⟩ := own_cellI HRK.out (midK_get _ _ _ _ hk)
          have hka := HKA.out k (List.mem_of_getElem? hk)
          have hwfk : (Lit.int .i64 k).wf = true := by
            have := wf_node (i := k.toNat) (n := m) (by omega) hP
            rwa [show ((k.toNat : Nat) : Int) = k by omega] at this
          have hlk := hmk.get 83 3 Tryz.underlying83 (zero_int wr) k hwfk
          have hnum : numM ys j k = some (.int .i64 (renK ys k)) := by unfold numM; rw [if_pos ⟨hka.1, by rw [HYS.out]; exact hka.2.2⟩]; rfl
          rw [hnum] at hlk
          simp only [Option.getD_some] at hlk
          have n4 := cell_of_row _ _ 4 _ _ _ hNk
          simp only [List.getElem?_toArray, List.getElem?_cons_succ, List.getElem?_cons_zero] at n4
          obtain ⟨rk, hrk⟩ := hid_ex (renK ys k)
          rw [hrk.out] at hlk
          have HMK := Lib.hid hmk
          have HNK := Lib.hid hNk
          have HK := Lib.hid hk
          clear hka hwfk hnum hmk hNk hk
          go_wp2_with fail
          refine ⟨⟨i + 1, rfl, by omega, HMK.out.of_block (Below.heap_setCell wr ⟨gc, i, none⟩ _ w.heap.size (by show w.heap.size ≠ gc; omega)), (Below.heap_setCell wr ⟨gc, i, none⟩ _ N0 (by show N0 ≠ gc; omega)).trans HNK.out, ?_, HBK.out.setCell (x := ⟨gc, i, none⟩) (fun _ => rfl) _⟩, by simp [intOf]; omega⟩
          have e : ((midK (renK ys) ks i).map (Value.int .i64)).set i (.int .i64 rk) = (midK (renK ys) ks (i + 1)).map (Value.int .i64) := by rw [← hrk.out, ← midK_set _ _ _ _ HK.out, List.map_set]
          rw [← e]
          exact (World.ownsRow.stored HRK.out i (.int .i64 rk)).1
        · obtain rfl : i = q := by omega
          have hys := HYS.out
          have hrk := HRK.out
          rw [HQ.out, midK_end] at hrk
          rw [← HQ.out] at hrk
          have hsx := HSX.out
          subst hsx
          have hyl := (List.getElem?_eq_some_iff.1 HY.out).1
          have hpos : posIn y ys = j := posIn_get ys j y (by rw [hys]; exact belS_nodup t) HY.out
          obtain ⟨W5, hup, hm5, hg5⟩ := hmk.put (by omega) 83 3 Tryz.underlying83 (y : Int) (wf_node hym hP) (.int .i64 (j : Int))
          have hbut5 : But (fun k => k = w.heap.size) wr W5 := ⟨hg5.os, hg5.tape, hg5.output, hg5.size, fun k hk hn => ⟨hg5.block k hk (fun e => hn (by injection e)), fun e => hn e⟩⟩
          have hnm : ∀ z, (Lit.int .i64 z).wf = true → (fun z => if z = (y : Int) then some (Value.int .i64 (j : Int)) else numM ys j z) z = numM ys (j + 1) z := fun z _ => by
            have hts := take_snoc ys j y HY.out
            simp only [numM]
            rw [hts]
            by_cases hz : z = (y : Int)
            · subst hz
              rw [if_pos rfl, if_pos ⟨by omega, by simp⟩, Int.toNat_natCast, hpos]
            · rw [if_neg hz]
              by_cases h0 : 0 ≤ z
              · have : (z.toNat ∈ ys.take j ++ [y]) ↔ z.toNat ∈ ys.take j := by
                  rw [List.mem_append]
                  simp
                  intro e; omega
                simp only [this]
              · simp [h0]
          have hm6 := hm5.congr hnm
          have hN0k : N0 < wr.heap.size := (Array.getElem?_eq_some_iff.1 hNk).1
          have hN5 : W5.heap[N0]? = some (.cells #[.int .i64 x0, .int .i64 x1, .string ⟨x2.toArray⟩, .int .i64 x3, .slice pc i cc] 39) := (hbut5.both N0 hN0k (by omega)).1.trans hNk
          have n0 := cell_of_row _ _ 0 _ _ _ hN5
          have n1 := cell_of_row _ _ 1 _ _ _ hN5
          have n2 := cell_of_row _ _ 2 _ _ _ hN5
          have n3 := cell_of_row _ _ 3 _ _ _ hN5
          have n4 := cell_of_row _ _ 4 _ _ _ hN5
          simp only [List.getElem?_toArray, List.getElem?_cons_succ, List.getElem?_cons_zero] at n0 n1 n2 n3 n4
          have hown : ∀ g, (Value.slice pc i cc).ownBlock = some g → N0 + 1 ≤ g := fun g e => (HRK.out.lt g e).1
          have hsd : wo.heap.size ≤ Wd.heap.size := HBD.out.size
          have hsk : Wd.heap.size ≤ wr.heap.size := HBK.out.size
          have hs5 : wr.heap.size ≤ W5.heap.size := hbut5.size
          have hso : WS.heap.size ≤ wo.heap.size := HBUT.out.size
          have hNo := HNO.out
          have hall : ∀ k, k < wo.heap.size → k ≠ w.heap.size → W5.heap[k]? = wo.heap[k]? := fun k hk hne => by
            rw [(hbut5.both k (by omega) hne).1, (HBK.out.both k (by omega) (fun e => by have := hown k e; omega)).1]
            exact HBD.out.block k (by omega)
          have HT5 : Hid (TRow WS.heap.size (.slice p3 j c3) P3 W5) := HT3.out.but (fun o => HMP.out.cell o) (by omega) (by omega) hall
          have hkr : KRow (.slice pc i cc) (ks.map (renK ys)) W5 := (own_krowI hrk).but (fun o => hmk.cell o) hs5 (fun k hk hne => (hbut5.both k hk hne).1)
          have HKX : Hid (KRowX (Value.slice p3 j c3).ownBlock (.slice pc i cc) (ks.map (renK ys)) W5) := ⟨hkr, fun _ g e e2 => by have h1 := hown g e; have h2 := (HT3.out.1.lt g e2).2; omega⟩
          have HL3 : Hid (P3.length = j) := (show _ = _ by
            have h1 := congrArg List.length HP3.out
            rw [List.length_map, List.length_take] at h1
            have h2 : (treeT t).length = ny := by unfold treeT; rw [List.length_map, ← hys, HNYE.out]
            omega)
          have HB5 : Hid (But (fun k => k = w.heap.size) WS W5) := (show But (fun k => k = w.heap.size) WS W5 from ⟨hbut5.os.trans (HBK.out.os.trans (HBD.out.os.trans HBUT.out.os)), hbut5.tape.trans (HBK.out.tape.trans (HBD.out.tape.trans HBUT.out.tape)), hbut5.output.trans (HBK.out.output.trans (HBD.out.output.trans HBUT.out.output)), by omega, fun k hk hn => ⟨(hall k (by omega) hn).trans (HBUT.out.both k hk hn).1, fun e => hn e⟩⟩)
          have HM6 := Lib.hid hm6
          have hb5 : WS.heap.size ≤ W5.heap.size := by omega
          have hN0w := hN0s
          clear hys hrk hyl hpos hm5 hg5 hbut5 hnm hm6 hN5 hown hsd hsk hs5 hso hNo hall hkr hmk hNk
          go_wp2_with (at_builtin; refine wpList_tapp3 rfl _ _ rfl WS.heap.size _ P3 W5 HT5.out hb5 [((x0, x1, x2, x3, ks.map (renK ys)), .slice pc i cc)] j 1 HL3.out rfl (by decide) _ (by simp [flatT, flatN]) rfl (by rfl) (by intro q hq; simp only [List.mem_cons, List.not_mem_nil, or_false] at hq; subst hq; exact HKX.out) (by omega) ?_; intro g6 c6 w6 HT6 HL6 HB6)
          have hv3 : ∀ g, (Value.slice p3 j c3).ownBlock = some g → WS.heap.size ≤ g := fun g e => (HT3.out.1.lt g e).1
          refine ⟨⟨j + 1, _, _, _, rfl, rfl, by omega, HM6.out.of_block (HB6.out.both w.heap.size (by omega) (fun e => by have := hv3 _ e; omega)).1, ⟨HB6.out.os.trans HB5.out.os, HB6.out.tape.trans HB5.out.tape, HB6.out.output.trans HB5.out.output, Nat.le_trans HB5.out.size HB6.out.size, fun k hk hn => ⟨(HB6.out.both k (by omega) (fun e => by have := hv3 k e; omega)).1.trans (HB5.out.both k hk hn).1, fun e => hn e⟩⟩, HT6, ?_⟩, by simp [intOf]; omega⟩
          show _ = _
          have hyb := HY.out
          rw [HYS.out] at hyb
          rw [List.map_append, HP3.out, treeT_take t hyb HX.out, ← HYS.out]
          rfl
    · obtain rfl : j = ny := by omega
      have hbr : Below w.heap.size w wr := HWS.out.trans (hbut.below (by omega) (fun k hk e => by omega))
      have htl : (treeT t).length = j := by unfold treeT; rw [List.length_map, ← HYS.out, HNYE.out]
      have HR : Hid (P3.map (·.1) = treeT t) := (show _ = _ by rw [HP3.out, List.take_of_length_le (by omega)])
      have HBR := Lib.hid hbr
      clear hmp hbut hbr htl
      go_wp2_with fail
      go_ret
      exact ⟨_, P3, rfl, ⟨HT3.out.1.mono (by omega), HT3.out.2⟩, HR.out, HBR.out⟩
end Go.Proofs.YtkmmcphiijolkaaGreatDoor

set_option linter.unusedVariables false
set_option linter.unusedSimpArgs false
namespace Go.Proofs.YtkmmcphiijolkaaGreatDoor
open Go.RowKit Go.Shelf
open Tr

/-- A number is appended to a row of the call's own. -/
theorem wpList_iapp {ops : Array Oper} {rest : List Oper} {o : Oper} {a : Act} {Q' : Exit → Act → World → Prop} (hgd : o.guard = none) (s x : Operand)
    (ho : o.op = .call { callee := .builtin .append, args := #[s, x], argTypes := #[24, 24] }) (base n : Nat) (v : Value) (l : List Int) (w : World) (hown : w.ownsRow base 3 1 v n (l.map (Value.int .i64))) (hbase : base ≤ w.heap.size) (k : Int)
    (hs : a.eval s = v) (hx : a.eval x = .slice (some ⟨w.heap.size, 0, none⟩) 1 1) (hlen : n + 1 ≤ 1000000)
    (h : ∀ g c w', Hid (w'.ownsRow base 3 1 (.slice (some ⟨g, 0, none⟩) (n + 1) c) (n + 1) ((l ++ [k]).map (Value.int .i64))) → Hid (But (fun b => v.ownBlock = some b) w w') → Hid (base ≤ g ∧ (some g = v.ownBlock ∨ w.heap.size ≤ g)) → wpList Tryz.prog ops Q' rest (a.put o.dst (.slice (some ⟨g, 0, none⟩) (n + 1) c)) w') :
    wpList Tryz.prog ops Q' (o :: rest) a (w.alloc (.cells #[.int .i64 k] 3)) := by
  obtain ⟨i0, hi, hz0, hz1, hz2⟩ := info_parts infoInt
  have hb2 : Below w.heap.size w (w.alloc (.cells #[.int .i64 k] 3)) := (Below.refl _ _).alloc (Nat.le_refl _) _
  refine wpList_append_own_at _ hgd s x 24 ho base 3 i0 _ 1 8 Tryz.underlying24 hi hz0 hz1 hz2 rfl (by decide) v n _ hs (hown.alloc _) ⟨w.heap.size, 0, none⟩ 1 1 [.int .i64 k] hx rfl ?_ ?_ (by unfold maxLen; omega) (by omega) (by simp; omega) ?_
  · intro j u hu
    cases j with
    | zero =>
      simp at hu
      subst hu
      simp [Addr.add]
    | succ j => simp at hu
  · intro u hu
    simp at hu
    subst hu
    rfl
  · intro v' w' hown' hgrow hz hloc
    have hown2 := hown'
    rcases hown'.2 with ⟨e, hn⟩ | ⟨g, cap, cur, rfl, hg, _⟩
    · omega
    · refine h g cap w' (show World.ownsRow _ _ _ _ _ _ _ by rw [List.map_append]; exact hown2) (show But _ _ _ from ⟨hgrow.os, hgrow.tape, hgrow.output, Nat.le_trans hb2.size hgrow.size, fun k hk hn => ⟨(hgrow.block k (by have := hb2.size; omega) (fun e => hn e.symm)).trans (hb2.block k hk), fun e => hn e⟩⟩) (show _ ∧ _ from ⟨hg, ?_⟩)
      rcases hloc with e | e
      · exact Or.inl e
      · simp only [Value.ownBlock, Option.some.injEq, World.alloc, Array.size_push] at e
        exact Or.inr (by omega)

set_option maxHeartbeats 8000000 in
set_option maxRecDepth 100000 in
theorem Kids_any (tv : Value) (t : List NodeD) (w : World) (ha : ArgT tv t w) (hl : t.length ≤ 1000000) (hks : ∀ x ∈ t, x.2.2.2.2.length ≤ 900000) (i : Nat) (hi : i < t.length) :
    Calls Tryz.prog 30 #[tv, .int .i64 (i : Int)] w fun e w' => ∃ (pr : Option Addr) (n c : Nat), e = .returned (.slice pr n c) ∧ w'.ownsRow w.heap.size 3 1 (.slice pr n c) n ((castL (kidN t i)).map (Value.int .i64)) ∧ Below w.heap.size w w' := by
  obtain ⟨x, hx⟩ : ∃ x, t[i]? = some x := ⟨_, List.getElem?_eq_getElem hi⟩
  have hnx : kidN t i = kidsOf i x.2.2.2.2 := by unfold kidN nodeAt; rw [Int.toNat_natCast, hx]; rfl
  have hkl := hks x (List.mem_of_getElem? hx)
  rw [hnx]
  obtain ⟨pa, cap, rfl, hc⟩ := ha
  obtain ⟨ga, oa, vk, rfl, hga, a0, a1, a2, a3, a4, hkv⟩ := hc i x hx
  obtain ⟨x0, x1, x2, x3, ks⟩ := x
  simp only at a4 hkv hkl ⊢
  obtain ⟨pk, ck, rfl, fk⟩ := hkv
  obtain ⟨m, hm⟩ : ∃ m, m = t.length := ⟨_, rfl⟩
  rw [← hm] at hi hl ⊢
  obtain ⟨q, hq⟩ : ∃ q, q = ks.length := ⟨_, rfl⟩
  rw [← hq] at a4 hkl
  have HQ := Lib.hid hq
  have HFK := Lib.hid fk
  have him : (i : Int) < (m : Int) := by omega
  clear a0 a1 a2 a3 hc hks hx hnx hq hm fk
  go_enter Tryz.func30, Tryz.ntmps30
  go_wp2_with fail
  have e1 : decide (m ≤ i) = false := decide_eq_false (by omega)
  have e2 : decide ((i : Int) < 0) = false := decide_eq_false (by omega)
  simp only [e1, e2, Bool.or_false]
  go_loopw [5, 6] (fun v5 v6 wr => ∃ (j n : Nat) (pr : Option Addr) (c : Nat), v6 = .int .i64 (j : Int) ∧ v5 = .slice pr n c ∧ j ≤ q ∧ n ≤ j ∧ Hid (wr.ownsRow w.heap.size 3 1 (.slice pr n c) n ((castL (kidsOf i (ks.take j))).map (Value.int .i64))) ∧ Below w.heap.size w wr) (fun _ v6 _ => q - (intOf v6).toNat)
  case atStart => exact ⟨0, 0, none, 0, rfl, rfl, Nat.zero_le _, Nat.le_refl _, by show World.ownsRow _ _ _ _ _ _ _; exact World.ownsRow_nil _ _ _ _, Below.refl _ _⟩
  case round =>
    obtain ⟨j, n, pr, c, rfl, rfl, hj, hnj, HR, hbel⟩ := hrel
    have b4 := (hbel.cell (p := ⟨ga, oa + i * 5 + 4, none⟩) hga).trans a4
    by_cases hjq : j < q
    · obtain ⟨k, hk⟩ : ∃ k, ks[j]? = some k := ⟨_, List.getElem?_eq_getElem (by rw [← HQ.out]; exact hjq)⟩
      obtain ⟨gk, ok, rfl, hgk, kc⟩ := HFK.out.1 j k hk
      have kc2 := (hbel.cell (p := ⟨gk, ok + j, none⟩) hgk).trans kc
      have htk := kidsOf_take i ks j k hk
      clear kc a4
      by_cases hin : 0 ≤ k ∧ k < (i : Int)
      · have h0 := hin.1
        have h1 := hin.2
        rw [if_pos hin] at htk
        have HTK : Hid (castL (kidsOf i (ks.take (j + 1))) = castL (kidsOf i (ks.take j)) ++ [k]) := (show _ = _ by
          rw [htk]
          simp only [castL, List.map_append, List.map_cons, List.map_nil]
          congr 2
          omega)
        have hs := hbel.size
        have HBEL := Lib.hid hbel
        clear htk hk hin hbel
        go_wp2_with (at_builtin; refine wpList_iapp rfl _ _ rfl w.heap.size _ _ _ _ HR.out hs k rfl (by rfl) (by omega) ?_; intro g5 c5 w5 HO HB HG)
        have HB2 : Hid (Below w.heap.size w w5) := (show Below _ _ _ from HBEL.out.trans (HB.out.below hs (fun b hb e => by have := (HR.out.lt b e).1; omega)))
        have HO2 : Hid (w5.ownsRow w.heap.size 3 1 (.slice (some ⟨g5, 0, none⟩) (n + 1) c5) (n + 1) ((castL (kidsOf i (ks.take (j + 1)))).map (Value.int .i64))) := (show World.ownsRow _ _ _ _ _ _ _ by rw [HTK.out]; exact HO.out)
        go_roundw
        case rel => exact ⟨j + 1, n + 1, some ⟨g5, 0, none⟩, c5, rfl, rfl, by omega, by omega, HO2, HB2.out⟩
        case measure => simp [intOf]; omega
      · rw [if_neg hin, List.append_nil] at htk
        have HO2 : Hid (wr.ownsRow w.heap.size 3 1 (.slice pr n c) n ((castL (kidsOf i (ks.take (j + 1)))).map (Value.int .i64))) := (show World.ownsRow _ _ _ _ _ _ _ by rw [htk]; exact HR.out)
        have HBEL := Lib.hid hbel
        clear htk hbel
        by_cases h0 : 0 ≤ k
        · have h1 : ¬ k < (i : Int) := fun h => hin ⟨h0, h⟩
          clear hin hk
          go_wp2_with fail
          go_roundw
          case rel => exact ⟨j + 1, n, pr, c, rfl, rfl, by omega, by omega, HO2, HBEL.out⟩
          case measure => simp [intOf]; omega
        · clear hin hk
          go_wp2_with fail
          go_roundw
          case rel => exact ⟨j + 1, n, pr, c, rfl, rfl, by omega, by omega, HO2, HBEL.out⟩
          case measure => simp [intOf]; omega
    · obtain rfl : j = q := by omega
      have HR2 : Hid (wr.ownsRow w.heap.size 3 1 (.slice pr n c) n ((castL (kidsOf i ks)).map (Value.int .i64))) := (show World.ownsRow _ _ _ _ _ _ _ by
        have := HR.out
        rwa [HQ.out, List.take_length] at this)
      have HBEL := Lib.hid hbel
      clear HR hbel
      go_wp2_with fail
      go_ret
      exact ⟨pr, n, c, rfl, HR2.out, HBEL.out⟩
end Go.Proofs.YtkmmcphiijolkaaGreatDoor

set_option linter.unusedVariables false
set_option linter.unusedSimpArgs false
namespace Go.Proofs.YtkmmcphiijolkaaGreatDoor
open Go.RowKit Go.Shelf
open Tr

/-- A walker: what it has been at, and in which order. -/
structure OvSt (bW bD base n : Nat) (pre : List Nat) (vout : Value) (W : World) : Prop where
  blk : W.heap[bW]? = some (.cells #[.slice (some ⟨bD, 0, none⟩) n n, vout] 81 (0, 0))
  there : W.rowIs bD 4 n (fun j => .bool (decide (j ∈ pre)))
  out : W.ownsRow base 3 1 vout pre.length ((castL pre).map (Value.int .i64))
  ne : bW < base ∧ bD < base ∧ bW ≠ bD ∧ base ≤ W.heap.size
abbrev OvR (bW bD : Nat) (v : Value) (k : Nat) : Prop := k = bW ∨ k = bD ∨ v.ownBlock = some k
theorem OvSt.below {bW bD base n : Nat} {pre : List Nat} {vout : Value} {W W' : World} (h : OvSt bW bD base n pre vout W) (hb : Below W.heap.size W W') : OvSt bW bD base n pre vout W' := by
  have h1 := h.ne
  have h2 := (Array.getElem?_eq_some_iff.1 h.blk).1
  refine ⟨(hb.block bW h2).trans h.blk, h.there.of_block (hb.block bD h.there.lt), ⟨h.out.1, ?_⟩, h1.1, h1.2.1, h1.2.2.1, Nat.le_trans h1.2.2.2 hb.size⟩
  rcases h.out.2 with e | ⟨g, cap, cur, e, hg, hgb, r⟩
  · exact Or.inl e
  · exact Or.inr ⟨g, cap, cur, e, hg, (hb.block g (Array.getElem?_eq_some_iff.1 hgb).1).trans hgb, r⟩

theorem few_fold {t : List NodeD} (f : Nat) : ∀ (ks q : List Nat), Few t q → (∀ k ∈ ks, k < t.length) → Few t (ks.foldl (goT t f) q)
  | [], q, h, _ => h
  | k :: ks, q, h, hk => few_fold f ks _ (goT_few f q k h (hk k (List.mem_cons_self ..))) (fun y hy => hk y (List.mem_cons_of_mem _ hy))
theorem castL_snoc (l : List Nat) (i : Nat) : castL (l ++ [i]) = castL l ++ [(i : Int)] := by simp [castL]
set_option maxHeartbeats 8000000 in
set_option maxRecDepth 100000 in
theorem over_any (tv : Value) (t : List NodeD) (w0 : World) (ha : ArgT tv t w0) (hl : t.length ≤ 1000000 - 1) (hks : ∀ x ∈ t, x.2.2.2.2.length ≤ 900000) (bW bD base : Nat) (h0W : w0.heap.size ≤ bW) (h0D : w0.heap.size ≤ bD) (h0B : w0.heap.size ≤ base) :
    ∀ (f i : Nat) (pre : List Nat) (vout : Value) (W : World), i < f → i < t.length → OvSt bW bD base t.length pre vout W → Below w0.heap.size w0 W → Few t pre →
    Calls Tryz.prog 41 #[.pointer (some ⟨bW, 0, none⟩), tv, .int .i64 (i : Int)] W fun e W' => e = .returned (.tuple #[]) ∧ ∃ vout', OvSt bW bD base t.length (goT t f pre i) vout' W' ∧ But (OvR bW bD vout) W W' ∧ (vout'.ownBlock = vout.ownBlock ∨ ∃ g, vout'.ownBlock = some g ∧ W.heap.size ≤ g)
  | 0, i, _, _, _, h, _, _, _, _ => absurd h (Nat.not_lt_zero _)
  | f + 1, i, pre, vout, W, hif, hit, hO, hW, hfew => by
    have ih := over_any tv t w0 ha hl hks bW bD base h0W h0D h0B f
    have IH := Lib.hid ih
    have HO := Lib.hid hO
    have HA := Lib.hid ha
    have HKS := Lib.hid hks
    have HL := Lib.hid hl
    have HW := Lib.hid hW
    have HF := Lib.hid hfew
    obtain ⟨pr, c, rfl⟩ := own_formI hO.out
    obtain ⟨pv, cv, rfl, _⟩ := ha
    have hne := hO.ne
    have k0 := cell_of_row _ _ 0 _ _ _ hO.blk
    have k1 := cell_of_row _ _ 1 _ _ _ hO.blk
    simp only [List.getElem?_toArray, List.getElem?_cons_succ, List.getElem?_cons_zero] at k0 k1
    have d0 := hO.there.cell hit
    have df := hO.there.frozen i
    obtain ⟨n, hn⟩ : ∃ n, n = t.length := ⟨_, rfl⟩
    have hpl : pre.length ≤ n := by rw [hn]; exact few_length hfew
    rw [← hn] at hit k0 HO HL hl ⊢
    have HN := Lib.hid hn
    obtain ⟨p, hp⟩ : ∃ p, p = pre.length := ⟨_, rfl⟩
    rw [← hp] at k1 hpl ⊢
    have HP := Lib.hid hp
    have hitI : (i : Int) < (n : Int) := by omega
    by_cases hin : i ∈ pre
    · have HG : Hid (goT t (f + 1) pre i = pre) := (show _ = _ by unfold goT; rw [if_pos hin])
      rw [show decide (i ∈ pre) = true by simpa using hin] at d0
      clear ih hO hW hfew hks hn hp hin
      go_enter Tryz.func41, Tryz.ntmps41
      go_wp2_with fail
      refine bodyPost_ret (results_none rfl _ _ _) rfl ?_
      refine ⟨rfl, .slice pr p c, ?_, Chg.refl _ _, Or.inl rfl⟩
      rw [HG.out, HP.out]
      exact HO.out
    · have HG : Hid (goT t (f + 1) pre i = (kidN t i).foldl (goT t f) (pre ++ [i])) := (show _ = _ by unfold kidN; rw [goT, if_neg hin])
      rw [show decide (i ∈ pre) = false by simpa using hin] at d0
      have HIN := Lib.hid hin
      clear ih hO hW hfew hks hn hp hin
      go_enter Tryz.func41, Tryz.ntmps41
      go_upto_region 2 with fail
      obtain ⟨W1, hW1⟩ : ∃ W1, W1 = W.setCell ⟨bD, i, none⟩ (.bool true) := ⟨_, rfl⟩
      have hblk1 : W1.heap[bW]? = some (.cells #[.slice (some ⟨bD, 0, none⟩) n n, .slice pr p c] 81 (0, 0)) := by
        rw [hW1, heap_setCell_other _ _ _ _ (by exact hne.2.2.1)]
        have := HO.out.blk
        rw [← HP.out] at this
        exact this
      have hr1 : W1.rowIs bD 4 n (fun j => .bool (decide (j ∈ pre ++ [i]))) := by
        rw [hW1]
        refine (HO.out.there.set i (.bool true)).congr (fun j _ => ?_)
        by_cases h : j = i <;> simp [h]
      have ho1 : W1.ownsRow base 3 1 (.slice pr p c) p ((castL pre).map (Value.int .i64)) := by
        have := HO.out.out
        rw [← HP.out] at this
        rw [hW1]
        exact own_set this _ hne.2.1
      have hs1 : W1.heap.size = W.heap.size := by rw [hW1]; simp [World.setCell]
      have hb1 : base ≤ W1.heap.size := by rw [hs1]; exact hne.2.2.2
      have m1 := cell_of_row _ _ 1 _ _ _ hblk1
      simp only [List.getElem?_toArray, List.getElem?_cons_succ, List.getElem?_cons_zero] at m1
      have hown : ∀ g, (Value.slice pr p c).ownBlock = some g → base ≤ g ∧ g < W1.heap.size := fun g e => ho1.lt g e
      have HCF : Hid (∀ w5, But (fun b => (Value.slice pr p c).ownBlock = some b) W1 w5 → w5.heap[bW]? = some (.cells #[.slice (some ⟨bD, 0, none⟩) n n, .slice pr p c] 81 (0, 0)) ∧ w5.rowIs bD 4 n (fun j => .bool (decide (j ∈ pre ++ [i])))) := fun w5 h5 =>
        ⟨(h5.both bW (by omega) (fun e => by have := (hown bW e).1; omega)).1.trans hblk1, hr1.of_block (h5.both bD hr1.lt (fun e => by have := (hown bD e).1; omega)).1⟩
      rw [← hW1]
      have HW1 := Lib.hid hW1
      have HO1 := Lib.hid ho1
      have HS1 := Lib.hid hs1
      clear hW1 ho1 hs1 hown hblk1 hr1 k0 k1 d0 df
      go_upto_region 3 with (at_builtin; refine wpList_iapp rfl _ _ rfl base _ _ _ W1 HO1.out hb1 (i : Int) rfl (by rfl) (by omega) ?_; intro g5 c5 w5 HO5 HB5 HG5; have f5 := frozen_of_block (HCF.out w5 HB5.out).1 1; have m5 := cell_of_row _ _ 1 _ _ _ (HCF.out w5 HB5.out).1; simp only [List.getElem?_toArray, List.getElem?_cons_succ, List.getElem?_cons_zero] at m5)
      obtain ⟨W2, hW2⟩ : ∃ W2, W2 = w5.setCell ⟨bW, 1, none⟩ (.slice (some ⟨g5, 0, none⟩) (p + 1) c5) := ⟨_, rfl⟩
      rw [← hW2]
      have hs2 : W2.heap.size = w5.heap.size := by rw [hW2]; simp [World.setCell]
      have hO2 : OvSt bW bD base n (pre ++ [i]) (.slice (some ⟨g5, 0, none⟩) (p + 1) c5) W2 := by
        refine ⟨?_, ?_, ?_, hne.1, hne.2.1, hne.2.2.1, ?_⟩
        · rw [hW2, heap_setCell_same _ _ _ _ _ _ (HCF.out w5 HB5.out).1]
          rfl
        · rw [hW2]
          exact (HCF.out w5 HB5.out).2.setOther (fun e => hne.2.2.1 e.symm) _
        · rw [castL_snoc, List.length_append, ← HP.out, hW2]
          exact own_set HO5.out _ hne.1
        · rw [hs2]
          exact Nat.le_trans hb1 HB5.out.size
      have hbut2 : But (OvR bW bD (.slice pr p c)) W W2 := by
        have h1 := HB5.out
        have hs := HS1.out
        refine ⟨?_, ?_, ?_, ?_, fun k hk hn => ⟨?_, fun e => hn e⟩⟩
        · rw [hW2]; show w5.os = _; rw [h1.os, HW1.out]; rfl
        · rw [hW2]; show w5.tape = _; rw [h1.tape, HW1.out]; rfl
        · rw [hW2]; show w5.output = _; rw [h1.output, HW1.out]; rfl
        · rw [hs2, ← hs]; exact h1.size
        · rw [hW2, heap_setCell_other _ _ _ _ (fun e => hn (Or.inl e)), (h1.both k (by omega) (fun e => hn (Or.inr (Or.inr e)))).1, HW1.out, heap_setCell_other _ _ _ _ (fun e => hn (Or.inr (Or.inl e)))]
      have hnew : ∀ k, OvR bW bD (Value.slice pr p c) k → w0.heap.size ≤ k := fun k e => by
        rcases e with e | e | e
        · omega
        · omega
        · have := (HO1.out.lt k e).1
          omega
      have hw2 : Below w0.heap.size w0 W2 := HW.out.trans (hbut2.below HW.out.size (fun k hk e => by have := hnew k e; omega))
      have hkids := Kids_any (.slice pv t.length cv) t W2 (HA.out.below hw2) (by rw [← HN.out]; omega) HKS.out i (by rw [← HN.out]; exact hit)
      have HWW := Lib.hid hw2
      clear hnew hw2
      rw [← HN.out] at hkids
      have HO2 := Lib.hid hO2
      have HBUT2 := Lib.hid hbut2
      have hg5 : g5 < W2.heap.size := (hO2.out.lt g5 rfl).2
      have hb2 : base ≤ W2.heap.size := hO2.ne.2.2.2
      have HW2 := Lib.hid hW2
      have HS2 := Lib.hid hs2
      clear hW2 hs2 hO2 hbut2 f5 m5 m1
      go_wp2_with (go_at_call 30; refine hkids.mono ?_; clear hkids; rintro e WK ⟨pk, nk, ck, rfl, HK, HBK⟩)
      have hOK := HO2.out.below HBK
      have hsK := HBK.size
      have hlen : (kidN t i).length = nk := by have := HK.1; simp only [castL, List.length_map, Nat.mul_one] at this; exact this
      have hnk : nk ≤ 900000 := by
        obtain ⟨x, hx⟩ : ∃ x, t[i]? = some x := ⟨_, List.getElem?_eq_getElem (by rw [← HN.out]; exact hit)⟩
        have h1 : kidN t i = kidsOf i x.2.2.2.2 := by unfold kidN nodeAt; rw [Int.toNat_natCast, hx]; rfl
        rw [← hlen, h1]
        exact Nat.le_trans (kidsOf_length i _) (HKS.out x (List.mem_of_getElem? hx))
      have HLEN := Lib.hid hlen
      have HKD := Lib.hid HK
      have HBKD := Lib.hid HBK
      clear HK HBK hlen
      go_loopw [7] (fun v7 wr => ∃ (j : Nat) (vj : Value), v7 = .int .i64 (j : Int) ∧ j ≤ nk ∧ Hid (OvSt bW bD base n (((kidN t i).take j).foldl (goT t f) (pre ++ [i])) vj wr) ∧ Hid (But (fun k => k = bW ∨ k = bD ∨ k = g5) WK wr) ∧ Hid (vj.ownBlock = some g5 ∨ ∃ g, vj.ownBlock = some g ∧ WK.heap.size ≤ g)) (fun v7 _ => nk - (intOf v7).toNat)
      case atStart => exact ⟨0, _, rfl, Nat.zero_le _, hOK, Chg.refl _ _, Or.inl rfl⟩
      case round =>
        obtain ⟨j, vj, rfl, hj, HOJ, HBJ, HVJ⟩ := hrel
        clear hOK
        by_cases hjn : j < nk
        · obtain ⟨y, hy⟩ : ∃ y, (kidN t i)[j]? = some y := ⟨_, List.getElem?_eq_getElem (by rw [HLEN.out]; exact hjn)⟩
          have hyi := kidN_lt t i y (List.mem_of_getElem? hy)
          obtain ⟨gk, rfl, hgk1, hgk2, kc, _⟩ := own_cellI HKD.out (i := j) (k := (y : Int)) (by rw [castL, List.getElem?_map, hy]; rfl)
          have kc2 : wr.cell? ⟨gk, j, none⟩ = some (.int .i64 (y : Int)) := (World.cell?_of_block (a := ⟨gk, j, none⟩) (HBJ.out.both gk hgk2 (by omega)).1).trans kc
          have hfj : Few t (((kidN t i).take j).foldl (goT t f) (pre ++ [i])) := few_fold f _ _ (few_snoc HF.out (by rw [← HN.out]; exact hit) HIN.out) (fun k hk => by have := kidN_lt t i k (List.mem_of_mem_take hk); rw [← HN.out]; omega)
          have hWr : Below w0.heap.size w0 wr := by
            have h1 := HWW.out
            have h2 : Below w0.heap.size w0 WK := h1.trans (HBKD.out.mono (by omega))
            exact h2.trans (HBJ.out.below (by omega) (fun k hk e => by have := (HO2.out.out.lt g5 rfl).1; omega))
          have hrec := IH.out y _ vj wr (by omega) (by rw [← HN.out]; omega) (by rw [← HN.out]; exact HOJ.out) hWr hfj
          rw [← HN.out] at hrec
          have HTK : Hid (((kidN t i).take (j + 1)).foldl (goT t f) (pre ++ [i]) = goT t f (((kidN t i).take j).foldl (goT t f) (pre ++ [i])) y) := (show _ = _ by rw [take_snoc _ _ _ hy, List.foldl_append]; rfl)
          clear kc hfj hWr hy hyi
          go_wp2_with (go_at_call 41; refine hrec.mono ?_; clear hrec; rintro e wr2 ⟨rfl, vj2, HOJ2, HBJ2, HVJ2⟩; have HOJ3 := Lib.hid HOJ2; have HBJ3 := Lib.hid HBJ2; have HVJ3 := Lib.hid HVJ2; clear HOJ2 HBJ2 HVJ2)
          refine ⟨⟨j + 1, vj2, rfl, by omega, ?_, ⟨HBJ3.out.os.trans HBJ.out.os, HBJ3.out.tape.trans HBJ.out.tape, HBJ3.out.output.trans HBJ.out.output, Nat.le_trans HBJ.out.size HBJ3.out.size, fun k hk hn => ⟨?_, fun e => hn e⟩⟩, ?_⟩, by simp [intOf]; omega⟩
          · show OvSt _ _ _ _ _ _ _
            rw [HTK.out]
            exact HOJ3.out
          · refine (HBJ3.out.both k (Nat.lt_of_lt_of_le hk HBJ.out.size) (fun e => ?_)).1.trans (HBJ.out.both k hk hn).1
            rcases e with e | e | e
            · exact hn (Or.inl e)
            · exact hn (Or.inr (Or.inl e))
            · rcases HVJ.out with h | ⟨g, h, hg⟩
              · rw [h] at e
                injection e with e
                exact hn (Or.inr (Or.inr e.symm))
              · rw [h] at e
                injection e with e
                omega
          · show _ ∨ _
            have hs := HBJ.out.size
            rcases HVJ3.out with h | ⟨g, h, hg⟩
            · rw [h]
              exact HVJ.out
            · exact Or.inr ⟨g, h, by omega⟩
        · obtain rfl : j = nk := by omega
          have HOE : Hid (OvSt bW bD base n (goT t (f + 1) pre i) vj wr) := (show OvSt _ _ _ _ _ _ _ by
            have := HOJ.out
            rw [← HLEN.out, List.take_length] at this
            rw [HG.out]
            exact this)
          clear HOJ
          go_wp2_with fail
          refine bodyPost_end (results_none rfl _ _ _) rfl ?_
          have hs2 := HBUT2.out.size
          have hs1 := HS1.out
          have hsj := HBJ.out.size
          refine ⟨rfl, vj, HOE.out, ⟨HBJ.out.os.trans (HBKD.out.os.trans HBUT2.out.os), HBJ.out.tape.trans (HBKD.out.tape.trans HBUT2.out.tape), HBJ.out.output.trans (HBKD.out.output.trans HBUT2.out.output), by omega, fun k hk hn => ⟨?_, fun e => hn e⟩⟩, ?_⟩
          · refine (HBJ.out.both k (by omega) (fun e => ?_)).1.trans ((HBKD.out.block k (by omega)).trans (HBUT2.out.both k hk hn).1)
            rcases e with e | e | e
            · exact hn (Or.inl e)
            · exact hn (Or.inr (Or.inl e))
            · rcases HG5.out.2 with h | h
              · exact hn (Or.inr (Or.inr (by rw [e]; exact h.symm)))
              · omega
          · rcases HVJ.out with h | ⟨g, h, hg⟩
            · rcases HG5.out.2 with h2 | h2
              · exact Or.inl (h.trans h2)
              · exact Or.inr ⟨g5, h, by omega⟩
            · exact Or.inr ⟨g, h, by omega⟩
end Go.Proofs.YtkmmcphiijolkaaGreatDoor

set_option linter.unusedVariables false
set_option linter.unusedSimpArgs false
namespace Go.Proofs.YtkmmcphiijolkaaGreatDoor
open Go.RowKit Go.Shelf
open Tr

set_option maxHeartbeats 8000000 in
set_option maxRecDepth 100000 in
theorem refAll_any (tv : Value) (t : List NodeD) (w : World) (ha : ArgT tv t w) (hl : t.length ≤ 1000000 - 1) (hks : ∀ x ∈ t, x.2.2.2.2.length ≤ 900000) (node : Int) :
    Calls Tryz.prog 19 #[tv, .int .i64 node] w fun e w' => ∃ v, e = .returned v ∧ w'.ownsRow w.heap.size 3 1 v (belowT t node).length ((castL (belowT t node)).map (Value.int .i64)) ∧ Below w.heap.size w w' := by
  have HA := Lib.hid ha
  obtain ⟨pv, cv, rfl, _⟩ := ha
  obtain ⟨n, hn⟩ : ∃ n, n = t.length := ⟨_, rfl⟩
  have HL := Lib.hid hl
  have HKS := Lib.hid hks
  rw [← hn] at hl ⊢
  have HN := Lib.hid hn
  by_cases hin : 0 ≤ node ∧ node < (n : Int)
  · obtain ⟨i, rfl⟩ : ∃ i : Nat, node = (i : Int) := ⟨node.toNat, by omega⟩
    have hii : i < n := by omega
    have hi2 : (i : Int) < (n : Int) := hin.2
    have HBT : Hid (belowT t (i : Int) = goT t n [] i) := (show _ = _ by unfold belowT; rw [if_pos (by rw [← hn]; exact hin), ← hn, Int.toNat_natCast])
    have hmk := make_bools n (by omega)
    have hO : OvSt (w.heap.size + 1) w.heap.size (w.heap.size + 2) n [] (.slice none 0 0) ((w.alloc (.cells (madeCells #[.bool false] n) 4)).alloc (.cells #[.slice (some ⟨w.heap.size, 0, none⟩) n n, .slice none 0 0] 81)) := by
      refine ⟨?_, ?_, World.ownsRow_nil _ _ _ _, by omega, by omega, by omega, by simp⟩
      · have := heap_alloc_new (w.alloc (.cells (madeCells #[.bool false] n) 4)) (.cells #[.slice (some ⟨w.heap.size, 0, none⟩) n n, .slice none 0 0] 81)
        simpa using this
      · exact ((World.rowIs_made w (.bool false) n 4).alloc _).congr (fun j _ => by simp)
    have hb1 : Below w.heap.size w ((w.alloc (.cells (madeCells #[.bool false] n) 4)).alloc (.cells #[.slice (some ⟨w.heap.size, 0, none⟩) n n, .slice none 0 0] 81)) := ((Below.refl _ _).alloc (Nat.le_refl _) _).alloc (by simp) _
    have hov := over_any (.slice pv t.length cv) t w HA.out (by rw [← hn]; omega) hks (w.heap.size + 1) w.heap.size (w.heap.size + 2) (by omega) (by omega) (by omega) n i [] (.slice none 0 0) _ hii (by rw [← hn]; exact hii) (by rw [← hn]; exact hO) hb1 ⟨List.nodup_nil, fun y hy => by cases hy⟩
    rw [← hn] at hov
    have HB1 := Lib.hid hb1
    clear hO hb1 hin hks hn HKS
    go_enter Tryz.func19, Tryz.ntmps19
    go_wp2_with (go_at_call 41; refine hov.mono ?_; clear hov; rintro e w2 ⟨rfl, vo, HO2, HB2, _⟩; have HOD := Lib.hid HO2; have HBD := Lib.hid HB2; obtain ⟨po, co, rfl⟩ := own_formI HO2.out; have k1 := cell_of_row _ _ 1 _ _ _ HO2.blk; simp only [List.getElem?_toArray, List.getElem?_cons_succ, List.getElem?_cons_zero] at k1; clear HO2 HB2)
    go_ret
    refine ⟨_, rfl, ?_, HB1.out.trans (HBD.out.below (by simp; omega) (fun k hk e => ?_))⟩
    · rw [HBT.out]
      exact HOD.out.out.mono (by omega)
    · rcases e with e | e | e
      · omega
      · omega
      · simp [Value.ownBlock] at e
  · have hb : belowT t node = [] := by unfold belowT; rw [if_neg (by rw [← hn]; exact hin)]
    rw [hb]
    clear hb hks hn
    by_cases h0 : node < 0
    · go_enter Tryz.func19, Tryz.ntmps19
      go_wp2_with fail
      go_ret
      exact ⟨_, rfl, World.ownsRow_nil _ _ _ _, Below.refl _ _⟩
    · have h1 : ¬ node < (n : Int) := fun h => hin ⟨by omega, h⟩
      have h2 : 0 ≤ node := by omega
      go_enter Tryz.func19, Tryz.ntmps19
      go_wp2_with fail
      go_ret
      exact ⟨_, rfl, World.ownsRow_nil _ _ _ _, Below.refl _ _⟩
end Go.Proofs.YtkmmcphiijolkaaGreatDoor

set_option linter.unusedVariables false
set_option linter.unusedSimpArgs false
namespace Go.Proofs.YtkmmcphiijolkaaGreatDoor
open Go.RowKit Go.Shelf
open Tr

namespace Tr
/-- How many numbers below i are among those that are below the last node. -/
def cntB (t : List NodeD) (i : Nat) : Nat := ((List.range i).filter fun i => decide (i ∈ belowT t ((t.length : Int) - 1))).length
theorem cntB_succ (t : List NodeD) (i : Nat) : cntB t (i + 1) = cntB t i + (if i ∈ belowT t ((t.length : Int) - 1) then 1 else 0) := by
  unfold cntB
  rw [List.range_succ, List.filter_append, List.length_append]
  by_cases h : i ∈ belowT t ((t.length : Int) - 1) <;> simp [h]
theorem cntB_le (t : List NodeD) (i : Nat) : cntB t i ≤ i := by
  unfold cntB
  exact Nat.le_trans (List.length_filter_le _ _) (by simp)
theorem filter_at (p : Nat → Bool) : ∀ (N i : Nat), i < N → p i = true → ((List.range N).filter p)[((List.range i).filter p).length]? = some i
  | 0, i, h, _ => absurd h (Nat.not_lt_zero _)
  | N + 1, i, h, hp => by
    rw [List.range_succ, List.filter_append]
    by_cases e : i = N
    · subst e
      rw [List.getElem?_append_right (Nat.le_refl _)]
      simp [hp]
    · have := filter_at p N i (by omega) hp
      rw [List.getElem?_append_left (List.getElem?_eq_some_iff.1 this).1]
      exact this
theorem belS_at (t : List NodeD) {i : Nat} (hi : i < t.length) (h : i ∈ belowT t ((t.length : Int) - 1)) : (belS t)[cntB t i]? = some i := by
  unfold belS cntB
  exact filter_at _ _ _ hi (by simpa using h)
theorem posIn_cnt (t : List NodeD) {i : Nat} (hi : i < t.length) (h : i ∈ belowT t ((t.length : Int) - 1)) : posIn i (belS t) = cntB t i := posIn_get _ _ _ (belS_nodup t) (belS_at t hi h)
theorem treeT_at (t : List NodeD) {i : Nat} {x : NodeD} (hx : t[i]? = some x) (h : i ∈ belowT t ((t.length : Int) - 1)) : (treeT t)[cntB t i]? = some (renN (belS t) x) := by
  have hi := (List.getElem?_eq_some_iff.1 hx).1
  have hnx : nodeAt t (i : Int) = x := by unfold nodeAt; rw [Int.toNat_natCast, hx]; rfl
  unfold treeT
  rw [List.getElem?_map, belS_at t hi h]
  simp only [Option.map_some]
  rw [hnx]
theorem treeT_length (t : List NodeD) : (treeT t).length = cntB t t.length := by
  unfold treeT
  rw [List.length_map]
  rfl
/-- The new numbers of all nodes. -/
def numR (t : List NodeD) (i : Nat) : List Int := (List.range i).map fun k => ((cntB t k : Nat) : Int)
theorem numR_succ (t : List NodeD) (i : Nat) : numR t (i + 1) = numR t i ++ [((cntB t i : Nat) : Int)] := by simp [numR, List.range_succ]
theorem numR_length (t : List NodeD) (i : Nat) : (numR t i).length = i := by simp [numR]
theorem numR_get (t : List NodeD) {i k : Nat} (h : k < i) : (numR t i)[k]? = some ((cntB t k : Nat) : Int) := by
  unfold numR
  rw [List.getElem?_map, List.getElem?_range h]
  rfl
/-- A kid's new number is that which was told. -/
theorem kid_number (t : List NodeD) (hkid : KidsAt 0 t) {i : Nat} {x : NodeD} (hx : t[i]? = some x) (h : i ∈ belowT t ((t.length : Int) - 1)) : ∀ (j : Nat) (k : Int), x.2.2.2.2[j]? = some k → 0 ≤ k ∧ k < (i : Int) ∧ (renN (belS t) x).2.2.2.2[j]? = some ((cntB t k.toNat : Nat) : Int) := by
  intro j k hk
  have hi := (List.getElem?_eq_some_iff.1 hx).1
  have h1 := kid_ahead t hkid (belS_at t hi h) hx k (List.mem_of_getElem? hk)
  have hkb : k.toNat ∈ belowT t ((t.length : Int) - 1) := by
    have := List.mem_of_mem_take h1.2.2
    unfold belS at this
    simpa using (List.mem_filter.1 this).2
  refine ⟨h1.1, h1.2.1, ?_⟩
  show (x.2.2.2.2.map fun k => ((posIn k.toNat (belS t) : Nat) : Int))[j]? = _
  rw [List.getElem?_map, hk]
  simp only [Option.map_some]
  rw [posIn_cnt t (by omega) hkb]
end Tr
end Go.Proofs.YtkmmcphiijolkaaGreatDoor
