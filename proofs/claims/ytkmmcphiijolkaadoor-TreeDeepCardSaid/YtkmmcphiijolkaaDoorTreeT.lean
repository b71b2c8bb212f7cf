/-
  Trees that are deep, plain.
-/
import Derived.Test.YtkmmcphiijolkaaDoorTreeN
set_option linter.unusedVariables false
set_option linter.unusedSimpArgs false
namespace Go.Proofs.YtkmmcphiijolkaaDoor
open Go.RowKit Go.Shelf
open Tr

def negsT : Nat → List NodeD
  | 0 => [(6, 0, [97], 0, [])]
  | i + 1 => negsT i ++ [(10, 0, [], 0, [(i : Int)])]
def deepA (n : Nat) : List NodeD := negsT (n - 1) ++ [(42, 0, [], 0, [((n - 1 : Nat) : Int)]), (40, 0, [], 0, [(n : Int)])]
def whT : Nat → List NodeD
  | 0 => [(50, 0, [], 0, [])]
  | i + 1 => whT i ++ [(41, 0, [], 0, [((3 * i : Nat) : Int)]), (2, 0, [], 0, []), (46, 0, [], 0, [((3 * i : Nat) : Int) + 2, ((3 * i : Nat) : Int) + 1])]
def deepB (n : Nat) : List NodeD := whT n ++ [(40, 0, [], 0, [((3 * n : Nat) : Int)])]
theorem negsT_length : ∀ i, (negsT i).length = i + 1
  | 0 => rfl
  | i + 1 => by rw [negsT, List.length_append, negsT_length i]; rfl
theorem whT_length : ∀ i, (whT i).length = 3 * i + 1
  | 0 => rfl
  | i + 1 => by rw [whT, List.length_append, whT_length i]; simp only [List.length_cons, List.length_nil]; omega
theorem deepA_depth : ((List.range 8).all fun r => depthT (deepA (36 + r)) ((35 + r : Nat) : Int) == 36 + r) = true := by decide +kernel
theorem deepA_right : ((List.range 8).all fun r => rightT sNames (deepA (36 + r)) == decide (36 + r ≤ 40)) = true := by decide +kernel
theorem deepB_right : ((List.range 8).all fun r => rightT sNames (deepB (36 + r)) == decide (36 + r ≤ 40)) = true := by decide +kernel
def okN (x : NodeD) : Prop := x.2.2.1.length ≤ 1 ∧ x.2.2.2.2.length ≤ 2 ∧ 0 ≤ x.1 ∧ x.1 ≤ 62
theorem negsT_ok : ∀ i, ∀ x ∈ negsT i, okN x
  | 0, x, h => by simp [negsT] at h; subst h; simp [okN]
  | i + 1, x, h => by
    rw [negsT, List.mem_append] at h
    rcases h with h | h
    · exact negsT_ok i x h
    · simp at h; subst h; simp [okN]
theorem whT_ok : ∀ i, ∀ x ∈ whT i, okN x
  | 0, x, h => by simp [whT] at h; subst h; simp [okN]
  | i + 1, x, h => by
    rw [whT, List.mem_append] at h
    rcases h with h | h
    · exact whT_ok i x h
    · simp at h; rcases h with rfl | rfl | rfl <;> simp [okN]
theorem deepA_ok (n : Nat) : ∀ x ∈ deepA n, okN x := by
  intro x h
  rw [deepA, List.mem_append] at h
  rcases h with h | h
  · exact negsT_ok _ x h
  · simp at h; rcases h with rfl | rfl <;> simp [okN]
theorem deepB_ok (n : Nat) : ∀ x ∈ deepB n, okN x := by
  intro x h
  rw [deepB, List.mem_append] at h
  rcases h with h | h
  · exact whT_ok _ x h
  · simp at h; subst h; simp [okN]
theorem okN_in {t : List NodeD} (h : ∀ x ∈ t, okN x) : (∀ x ∈ t, x.2.2.1.length ≤ 1000000 ∧ x.2.2.2.2.length ≤ maxLen) ∧ ∀ x ∈ t, (Lit.int .i64 x.1).wf = true :=
  ⟨fun x hx => by
    obtain ⟨h1, h2, _⟩ := h x hx
    unfold maxLen
    omega, fun x hx => by
    obtain ⟨_, _, h3, h4⟩ := h x hx
    obtain ⟨k, hk⟩ : ∃ k : Nat, x.1 = (k : Int) := ⟨x.1.toNat, by omega⟩
    rw [hk]
    exact wf_node (n := 100) (by omega) (by omega)⟩
end Go.Proofs.YtkmmcphiijolkaaDoor
