/-
  What was told of a builder's tree: plain.
-/
import Derived.Test.YtkmmcphiijolkaaDoorTreeII
set_option linter.unusedVariables false
set_option linter.unusedSimpArgs false
namespace Go.Proofs.YtkmmcphiijolkaaDoor
open Go.RowKit Go.Shelf
open Tr

namespace Tr
/-- How many numbers below i are among those that are below the last node. -/
def cntB (t : List NodeD) (i : Nat) : Nat := ((List.range i).filter fun i => decide (i ∈ belowT t ((t.length : Int) - 1))).length
theorem cntB_succ (t : List NodeD) (i : Nat) : cntB t (i + 1) = cntB t i + (if i ∈ belowT t ((t.length : Int) - 1) then 1 else 0) := by
  unfold cntB
  rw [List.range_succ, List.filter_append, List.length_append]
  by_cases h : i ∈ belowT t ((t.length : Int) - 1) <;> simp [h]
theorem cntB_le (t : List NodeD) (i : Nat) : cntB t i ≤ i := by
  unfold cntB
  exact Nat.le_trans (List.length_filter_le _ _) (by simp)
theorem filter_at (p : Nat → Bool) : ∀ (N i : Nat), i < N → p i = true → ((List.range N).filter p)[((List.range i).filter p).length]? = some i
  | 0, i, h, _ => absurd h (Nat.not_lt_zero _)
  | N + 1, i, h, hp => by
    rw [List.range_succ, List.filter_append]
    by_cases e : i = N
    · subst e
      rw [List.getElem?_append_right (Nat.le_refl _)]
      simp [hp]
    · have := filter_at p N i (by omega) hp
      rw [List.getElem?_append_left (List.getElem?_eq_some_iff.1 this).1]
      exact this
theorem belS_at (t : List NodeD) {i : Nat} (hi : i < t.length) (h : i ∈ belowT t ((t.length : Int) - 1)) : (belS t)[cntB t i]? = some i := by
  unfold belS cntB
  exact filter_at _ _ _ hi (by simpa using h)
theorem posIn_cnt (t : List NodeD) {i : Nat} (hi : i < t.length) (h : i ∈ belowT t ((t.length : Int) - 1)) : posIn i (belS t) = cntB t i := posIn_get _ _ _ (belS_nodup t) (belS_at t hi h)
theorem treeT_at (t : List NodeD) {i : Nat} {x : NodeD} (hx : t[i]? = some x) (h : i ∈ belowT t ((t.length : Int) - 1)) : (treeT t)[cntB t i]? = some (renN (belS t) x) := by
  have hi := (List.getElem?_eq_some_iff.1 hx).1
  have hnx : nodeAt t (i : Int) = x := by unfold nodeAt; rw [Int.toNat_natCast, hx]; rfl
  unfold treeT
  rw [List.getElem?_map, belS_at t hi h]
  simp only [Option.map_some]
  rw [hnx]
theorem treeT_length (t : List NodeD) : (treeT t).length = cntB t t.length := by
  unfold treeT
  rw [List.length_map]
  rfl
/-- The new numbers of all nodes. -/
def numR (t : List NodeD) (i : Nat) : List Int := (List.range i).map fun k => ((cntB t k : Nat) : Int)
theorem numR_succ (t : List NodeD) (i : Nat) : numR t (i + 1) = numR t i ++ [((cntB t i : Nat) : Int)] := by simp [numR, List.range_succ]
theorem numR_length (t : List NodeD) (i : Nat) : (numR t i).length = i := by simp [numR]
theorem numR_get (t : List NodeD) {i k : Nat} (h : k < i) : (numR t i)[k]? = some ((cntB t k : Nat) : Int) := by
  unfold numR
  rw [List.getElem?_map, List.getElem?_range h]
  rfl
/-- A kid's new number is that which was told. -/
theorem kid_number (t : List NodeD) (hkid : KidsAt 0 t) {i : Nat} {x : NodeD} (hx : t[i]? = some x) (h : i ∈ belowT t ((t.length : Int) - 1)) : ∀ (j : Nat) (k : Int), x.2.2.2.2[j]? = some k → 0 ≤ k ∧ k < (i : Int) ∧ (renN (belS t) x).2.2.2.2[j]? = some ((cntB t k.toNat : Nat) : Int) := by
  intro j k hk
  have hi := (List.getElem?_eq_some_iff.1 hx).1
  have h1 := kid_ahead t hkid (belS_at t hi h) hx k (List.mem_of_getElem? hk)
  have hkb : k.toNat ∈ belowT t ((t.length : Int) - 1) := by
    have := List.mem_of_mem_take h1.2.2
    unfold belS at this
    simpa using (List.mem_filter.1 this).2
  refine ⟨h1.1, h1.2.1, ?_⟩
  show (x.2.2.2.2.map fun k => ((posIn k.toNat (belS t) : Nat) : Int))[j]? = _
  rw [List.getElem?_map, hk]
  simp only [Option.map_some]
  rw [posIn_cnt t (by omega) hkb]
end Tr
end Go.Proofs.YtkmmcphiijolkaaDoor
