/-
  What is below a node is closed; depths, plain; what an iterator tells, sorted, at this program.
-/
import Derived.Test.YtkmmcphiijolkaaDoorTreeK
import Derived.Test.YtkmmcphiijolkaaDoorShelfS
import Derived.Sort.OwnSortedInts
set_option linter.unusedVariables false
set_option linter.unusedSimpArgs false
namespace Go.Proofs.YtkmmcphiijolkaaDoor
open Go.RowKit Go.Shelf
open Tr

namespace Tr
/-- The numbers of the kids of node y. -/
def kidN (t : List NodeD) (y : Nat) : List Nat := kidsOf y (nodeAt t (y : Int)).2.2.2.2
theorem kidN_lt (t : List NodeD) (y : Nat) : ∀ k ∈ kidN t y, k < y := kidsOf_lt y _
theorem fold_closed (t : List NodeD) (f : Nat) (ih : ∀ (pre : List Nat) (i : Nat), i < f → (∀ y ∈ pre, y ∈ goT t f pre i) ∧ i ∈ goT t f pre i ∧ ∀ y ∈ goT t f pre i, y ∉ pre → ∀ k ∈ kidN t y, k ∈ goT t f pre i) :
    ∀ (ks q : List Nat), (∀ k ∈ ks, k < f) → (∀ y ∈ q, y ∈ ks.foldl (goT t f) q) ∧ (∀ k ∈ ks, k ∈ ks.foldl (goT t f) q) ∧ ∀ y ∈ ks.foldl (goT t f) q, y ∉ q → ∀ k ∈ kidN t y, k ∈ ks.foldl (goT t f) q
  | [], q, _ => ⟨fun y hy => hy, (fun k hk => by cases hk), fun y hy hn => absurd hy hn⟩
  | k :: ks, q, hk => by
    obtain ⟨a1, a2, a3⟩ := ih q k (hk k (by simp))
    obtain ⟨b1, b2, b3⟩ := fold_closed t f ih ks (goT t f q k) (fun x hx => hk x (by simp [hx]))
    simp only [List.foldl_cons]
    refine ⟨fun y hy => b1 y (a1 y hy), fun x hx => ?_, fun y hy hn x hx => ?_⟩
    · rcases List.mem_cons.1 hx with rfl | hx
      · exact b1 _ a2
      · exact b2 x hx
    · by_cases hq : y ∈ goT t f q k
      · exact b1 _ (a3 y hq hn x hx)
      · exact b3 y hy hq x hx
theorem goT_closed (t : List NodeD) : ∀ (f : Nat) (pre : List Nat) (i : Nat), i < f → (∀ y ∈ pre, y ∈ goT t f pre i) ∧ i ∈ goT t f pre i ∧ ∀ y ∈ goT t f pre i, y ∉ pre → ∀ k ∈ kidN t y, k ∈ goT t f pre i
  | 0, pre, i, h => absurd h (by omega)
  | f + 1, pre, i, h => by
    rw [goT]
    by_cases hp : i ∈ pre
    · rw [if_pos hp]
      exact ⟨fun y hy => hy, hp, fun y hy hn => absurd hy hn⟩
    · rw [if_neg hp]
      obtain ⟨b1, b2, b3⟩ := fold_closed t f (goT_closed t f) (kidsOf i (nodeAt t (i : Int)).2.2.2.2) (pre ++ [i]) (fun k hk => by have := kidsOf_lt i _ k hk; omega)
      refine ⟨fun y hy => b1 y (by simp [hy]), b1 i (by simp), fun y hy hn x hx => ?_⟩
      by_cases hy2 : y = i
      · subst hy2
        exact b2 x hx
      · exact b3 y hy (by simp [hn, hy2]) x hx
theorem below_closed (t : List NodeD) (node : Int) : ∀ y ∈ belowT t node, ∀ k ∈ kidN t y, k ∈ belowT t node := by
  unfold belowT
  split
  · intro y hy
    exact (goT_closed t t.length [] node.toNat (by omega)).2.2 y hy (by simp)
  · intro y hy; cases hy
theorem below_self (t : List NodeD) (node : Int) (h : 0 ≤ node ∧ node < (t.length : Int)) : node.toNat ∈ belowT t node := by
  unfold belowT
  rw [if_pos h]
  exact (goT_closed t t.length [] node.toNat (by omega)).2.1
theorem below_lt (t : List NodeD) (node : Int) : ∀ y ∈ belowT t node, y < t.length := by
  unfold belowT
  split
  · rename_i h
    exact (goT_few t.length [] node.toNat ⟨List.nodup_nil, fun y hy => by cases hy⟩ (by omega)).2
  · intro y hy; cases hy
theorem below_few (t : List NodeD) (node : Int) : Few t (belowT t node) := by
  unfold belowT
  split
  · rename_i h
    exact goT_few t.length [] node.toNat ⟨List.nodup_nil, fun y hy => by cases hy⟩ (by omega)
  · exact ⟨List.nodup_nil, fun y hy => by cases hy⟩
/-- How deep a node is. -/
def depN (t : List NodeD) : Nat → Nat → Nat
  | 0, _ => 0
  | f + 1, i => (kidN t i).foldl (fun a k => max a (depN t f k)) 0 + 1
def depF (t : List NodeD) (i : Nat) : Nat := depN t (i + 1) i
theorem foldl_congr_mem {α : Type} (g h : α → Nat → α) : ∀ (l : List Nat) (a : α), (∀ a, ∀ k ∈ l, g a k = h a k) → l.foldl g a = l.foldl h a
  | [], a, _ => rfl
  | k :: l, a, hh => by
    simp only [List.foldl_cons]
    rw [hh a k (by simp)]
    exact foldl_congr_mem g h l _ (fun a x hx => hh a x (by simp [hx]))
theorem depN_any (t : List NodeD) : ∀ (f g i : Nat), i < f → i < g → depN t f i = depN t g i
  | 0, g, i, h, _ => absurd h (by omega)
  | f + 1, 0, i, _, h => absurd h (by omega)
  | f + 1, g + 1, i, hf, hg => by
    rw [depN, depN]
    congr 1
    exact foldl_congr_mem _ _ _ _ (fun a k hk => by
      have := kidN_lt t i k hk
      have h1 : k < f := by omega
      have h2 : k < g := by omega
      rw [depN_any t f g k h1 h2])
theorem depF_eq (t : List NodeD) (i : Nat) : depF t i = (kidN t i).foldl (fun a k => max a (depF t k)) 0 + 1 := by
  show depN t (i + 1) i = _
  rw [depN]
  congr 1
  exact foldl_congr_mem _ _ _ _ (fun a k hk => by
    have := kidN_lt t i k hk
    unfold depF
    rw [depN_any t i (k + 1) k this (by omega)])
theorem fold_max_le (f : Nat → Nat) (b : Nat) : ∀ (l : List Nat) (a : Nat), a ≤ b → (∀ k ∈ l, f k ≤ b) → l.foldl (fun a k => max a (f k)) a ≤ b
  | [], a, h, _ => h
  | k :: l, a, h, hl => fold_max_le f b l _ (by have := hl k (by simp); show max a (f k) ≤ b; omega) (fun x hx => hl x (by simp [hx]))
theorem depF_le (t : List NodeD) (i : Nat) : depF t i ≤ i + 1 := by
  induction i using Nat.strongRecOn with
  | _ i ih =>
    rw [depF_eq]
    have := fold_max_le (depF t) i (kidN t i) 0 (Nat.zero_le _) (fun k hk => by
      have h1 := kidN_lt t i k hk
      have h2 := ih k h1
      omega)
    omega
def depthT (t : List NodeD) (node : Int) : Nat := if 0 ≤ node ∧ node < (t.length : Int) then depF t node.toNat else 0
end Tr

theorem sorted_nats (xs : List Nat) : ∃ ys : List Nat, ((xs.map fun x : Nat => (x : Int)).mergeSort fun x y => decide (x ≤ y)) = ys.map (fun x : Nat => (x : Int)) ∧ ys.Perm xs ∧ ys.Pairwise (· ≤ ·) := by
  obtain ⟨zs, hzs⟩ : ∃ zs, zs = ((xs.map fun x : Nat => (x : Int)).mergeSort fun x y => decide (x ≤ y)) := ⟨_, rfl⟩
  have hp : zs.Perm (xs.map fun x : Nat => (x : Int)) := by rw [hzs]; exact List.mergeSort_perm _ _
  have hs : zs.Pairwise (fun x y => (decide (x ≤ y)) = true) := by
    rw [hzs]
    exact List.pairwise_mergeSort (fun a b c h1 h2 => by simp at h1 h2 ⊢; omega) (fun a b => by simp; omega) _
  have hn : ∀ z ∈ zs, 0 ≤ z := fun z hz => by
    have := hp.subset hz
    simp at this
    obtain ⟨a, _, rfl⟩ := this
    omega
  have he : zs = (zs.map Int.toNat).map (fun x : Nat => (x : Int)) := by
    rw [List.map_map]
    conv => lhs; rw [← List.map_id zs]
    exact List.map_congr_left (fun z hz => by have := hn z hz; simp; omega)
  refine ⟨zs.map Int.toNat, by rw [← hzs]; exact he, ?_, ?_⟩
  · have := hp.map Int.toNat
    rw [List.map_map] at this
    have e : (Int.toNat ∘ fun x : Nat => (x : Int)) = id := by funext x; simp
    rwa [e, List.map_id] at this
  · rw [List.pairwise_map]
    exact hs.imp (fun h => by simp at h; omega)

theorem Sort_own (base : Nat) (v : Value) (xs : List Nat) (w : World) (h : w.ownsRow base 3 1 v xs.length (xs.map fun x : Nat => .int .i64 (x : Int))) (hl : xs.length ≤ 1000000) (hb : base ≤ w.heap.size) :
    Calls Tryd.prog 63 #[v] w fun e w' => e = .returned (.tuple #[]) ∧ ∃ ys : List Nat, ys.Perm xs ∧ ys.Pairwise (· ≤ ·) ∧ w'.ownsRow base 3 1 v ys.length (ys.map fun x : Nat => .int .i64 (x : Int)) ∧ Below base w w' := by
  have h0 := h
  rcases h.2 with ⟨rfl, hn⟩ | ⟨g, cap, cur, rfl, hg, hgb, hnc, hcm, hcs, htk⟩
  · have hx : xs = [] := by cases xs with
      | nil => rfl
      | cons a l => simp at hn
    subst hx
    exact (Tryd.slices_Sort_int_none none 0 w).mono fun e w' ⟨he, hw⟩ => ⟨he, [], List.Perm.refl _, List.Pairwise.nil, by rw [hw]; exact h0, by rw [hw]; exact Below.refl _ _⟩
  · obtain ⟨ys, hys, hp, hpw⟩ := sorted_nats xs
    have htk2 : cur.toList.take (xs.map fun x : Nat => (x : Int)).length = (xs.map fun x : Nat => (x : Int)).map (Value.int .i64) := by
      rw [List.length_map, List.map_map]
      rw [Nat.mul_one] at htk
      exact htk
    have hS := Tryd.slices_Sort_int g 0 cap (xs.map fun x : Nat => (x : Int)) w (holds_of_blockI hgb htk2) (Array.getElem?_eq_some_iff.1 hgb).1 (by rw [List.length_map]; omega)
    rw [List.length_map] at hS
    refine hS.mono fun e w' ⟨he, n, os, hw⟩ => ⟨he, ys, hp, hpw, ?_, ?_⟩
    · rw [hw, hys]
      have := ownsRow_sortedI (w := w) (base := base) (g := g) (cap := cap) (n := n) (e := 3) (os := os) (cur := cur) (ss := xs.map fun x : Nat => (x : Int)) (ts := ys.map fun x : Nat => (x : Int)) (by simp [hp.length_eq]) hg hgb (by simpa using hnc) hcm hcs
      rw [List.length_map, List.map_map] at this
      rw [hp.length_eq]
      exact this
    · rw [hw]
      exact (Below.refl base w).grown (grownBy_sortedI _) hb (fun k e => by cases e; exact hg)

set_option maxHeartbeats 2000000 in
theorem Sorted_any (w : World) (gf : Nat) (lb : Array Value) (eg : ∀ args w, (callFunc gf args).run Tryd.prog w = .ok (.enter gf args) w) (S Sd : List Nat → Prop) (hS : ∀ q, S q → q.length ≤ 1000000) (hSd : ∀ q, Sd q → q.length ≤ 1000000) (hit : IterR Fence.wide gf lb S Sd w) :
    Calls Tryd.prog 26 #[.func (.func gf) #[] lb] w fun e w' => ∃ (v : Value) (xs ys : List Nat), Sd xs ∧ ys.Perm xs ∧ ys.Pairwise (· ≤ ·) ∧ e = .returned v ∧ w'.ownsRow w.heap.size 3 1 v ys.length (ys.map fun x : Nat => .int .i64 (x : Int)) ∧ Below w.heap.size w w' := by
  have hcol := callsIn_wide.1 (Collect_in Fence.wide fen_wide 3 w gf lb trivial eg S Sd hS hit)
  clear hit hS
  have HSD := Lib.hid hSd
  clear hSd
  go_enter Tryd.func26, Tryd.ntmps26
  go_wp2_with (first | (go_at_call 18; refine hcol.mono ?_; clear hcol; rintro e w1 ⟨v, xs, hx, rfl, hown, hb1⟩; have hsort := Sort_own w.heap.size v xs w1 hown (HSD.out xs hx) hb1.size; have HX := Lib.hid hx; have HB := Lib.hid hb1; clear hown hx hb1) | (go_at_call 63; refine hsort.mono ?_; clear hsort; rintro e w2 ⟨rfl, ys, hp, hpw, hr, hb2⟩))
  go_ret
  exact ⟨_, xs, ys, HX.out, hp, hpw, rfl, hr, HB.out.trans hb2⟩
end Go.Proofs.YtkmmcphiijolkaaDoor
