/-
  What is below a node, gone over, at this program.
-/
import Derived.Test.YtkmmcphiijolkaaDoorTreeI
import Derived.Test.YtkmmcphiijolkaaDoorTreeM
import Derived.Test.YtkmmcphiijolkaaDoorTreeP
set_option linter.unusedVariables false
set_option linter.unusedSimpArgs false
namespace Go.Proofs.YtkmmcphiijolkaaDoor
open Go.RowKit Go.Shelf
open Tr
attribute [local go_sem] Oper.semAt_some

namespace Tr
/-- What is told behind 'pre' when node i is told with what is below it. -/
def goT (t : List NodeD) : Nat → List Nat → Nat → List Nat
  | 0, pre, _ => pre
  | f + 1, pre, i => if i ∈ pre then pre else (kidsOf i (nodeAt t (i : Int)).2.2.2.2).foldl (goT t f) (pre ++ [i])
def belowT (t : List NodeD) (node : Int) : List Nat := if 0 ≤ node ∧ node < (t.length : Int) then goT t t.length [] node.toNat else []
/-- Numbers of nodes, each once. -/
def Few (t : List NodeD) (pre : List Nat) : Prop := pre.Nodup ∧ ∀ y ∈ pre, y < t.length
end Tr
theorem kidsOf_lt (i : Nat) : ∀ (l : List Int), ∀ k ∈ kidsOf i l, k < i
  | [], k, h => by simp [kidsOf] at h
  | x :: l, k, h => by
    simp only [kidsOf] at h
    split at h
    · rcases List.mem_cons.1 h with rfl | h
      · omega
      · exact kidsOf_lt i l k h
    · exact kidsOf_lt i l k h
theorem few_snoc {t : List NodeD} {pre : List Nat} (h : Few t pre) {i : Nat} (hi : i < t.length) (hn : i ∉ pre) : Few t (pre ++ [i]) := by
  refine ⟨List.nodup_append.2 ⟨h.1, by simp, ?_⟩, fun y hy => ?_⟩
  · intro a ha b hb e
    simp at hb
    subst hb; subst e
    exact hn ha
  · rcases List.mem_append.1 hy with h1 | h1
    · exact h.2 y h1
    · simp at h1; omega
theorem goT_few {t : List NodeD} : ∀ (f : Nat) (pre : List Nat) (i : Nat), Few t pre → i < t.length → Few t (goT t f pre i)
  | 0, pre, i, h, hi => h
  | f + 1, pre, i, h, hi => by
    unfold goT
    split
    · exact h
    · rename_i hn
      have h2 := few_snoc h hi hn
      have hk := kidsOf_lt i (nodeAt t (i : Int)).2.2.2.2
      generalize kidsOf i (nodeAt t (i : Int)).2.2.2.2 = ks at hk
      generalize pre ++ [i] = q at h2
      induction ks generalizing q with
      | nil => exact h2
      | cons k ks ih => exact ih (fun x hx => hk x (by simp [hx])) _ (goT_few f q k h2 (by have := hk k (by simp); omega))
theorem nodup_length : ∀ (n : Nat) (l : List Nat), l.Nodup → (∀ y ∈ l, y < n) → l.length ≤ n
  | 0, l, h, hl => by
    cases l with
    | nil => simp
    | cons a r => have := hl a (by simp); omega
  | n + 1, l, h, hl => by
    have h1 := nodup_length n (l.erase n) (h.erase n) (fun y hy => by
      have h2 := hl y (List.mem_of_mem_erase hy)
      have h3 : y ≠ n := ((List.Nodup.mem_erase_iff h).1 hy).1
      omega)
    have := List.length_erase (a := n) (l := l)
    split at this <;> omega
theorem few_length {t : List NodeD} {pre : List Nat} (h : Few t pre) : pre.length ≤ t.length := nodup_length _ _ h.1 h.2

set_option maxHeartbeats 2000000 in
theorem ahead_in (F : Fence) (n : Nat) (hF : F.fn 39) (hro : F.round = none) (v : Value) (i : Int) (w : World) (pk : Option Addr) (m ck : Nat) (hv : v = .slice pk m ck) :
    CallsIn F n Tryd.prog 39 #[v, .int .i64 i] w fun e w' => e = .returned (.func (.func 68) #[] #[.pointer (some ⟨w.heap.size, 0, none⟩), .pointer (some ⟨w.heap.size + 1, 0, none⟩)]) ∧ w' = (w.alloc (.cells #[v] 22)).alloc (.cells #[.int .i64 i] 3) := by
  subst hv
  refine callsIn_of_wp Tryd.func39 rfl hF ?_ hro
  simp only [Tryd.ntmps39, List.size_toArray, List.length_cons, List.length_nil, Nat.reduceAdd, Nat.reduceSub, Array.replicate_succ, Array.replicate_zero, List.push_toArray, List.append_toArray, List.nil_append, List.cons_append]
  gi_wp2
  go_ret
  exact ⟨rfl, rfl⟩
theorem kids_in (F : Fence) (hd : F.depth = none) (n : Nat) (hF : F.fn 27) (hF2 : F.fn 39) (hro : F.round = none) (tv : Value) (t : List NodeD) (w0 w : World) (ha : ArgT tv t w0) (hb0 : Below w0.heap.size w0 w) (i : Nat) (x : NodeD) (hx : t[i]? = some x) (hl : t.length ≤ 1000000) :
    CallsIn F n Tryd.prog 27 #[tv, .int .i64 (i : Int)] w fun e w' => ∃ v, KRow v x.2.2.2.2 w0 ∧ e = .returned (.func (.func 68) #[] #[.pointer (some ⟨w.heap.size, 0, none⟩), .pointer (some ⟨w.heap.size + 1, 0, none⟩)]) ∧ w' = (w.alloc (.cells #[v] 22)).alloc (.cells #[.int .i64 (i : Int)] 3) := by
  obtain ⟨pa, ca, rfl, fa⟩ := ha
  obtain ⟨g, o, vk, rfl, hg, a0, a1, a2, a3, b4, a5⟩ := fa i x hx
  have a4 := (hb0.cell (p := ⟨g, o + i * 5 + 4, none⟩) hg).trans b4
  clear b4 hb0
  have A5 := Lib.hid a5
  obtain ⟨pk, ck, rfl, fk⟩ := a5
  have hi : i < t.length := (List.getElem?_eq_some_iff.1 hx).1
  obtain ⟨m, hm⟩ : ∃ m, m = t.length := ⟨_, rfl⟩
  obtain ⟨q, hq⟩ : ∃ q, q = x.2.2.2.2.length := ⟨_, rfl⟩
  rw [← hm] at hi hl ⊢
  rw [← hq] at a4 A5
  clear fa fk hm hq hx a0 a1 a2 a3
  refine callsIn_of_wp Tryd.func27 rfl hF ?_ hro
  simp only [Tryd.ntmps27, List.size_toArray, List.length_cons, List.length_nil, Nat.reduceAdd, Nat.reduceSub, Array.replicate_succ, Array.replicate_zero, List.push_toArray, List.append_toArray, List.nil_append, List.cons_append]
  gi_wp2_with ((try refine ⟨depthless hd _, ?_⟩); gi_at_call 39; refine (ahead_in F _ hF2 hro _ _ _ _ _ _ rfl).mono ?_; rintro e w' ⟨rfl, rfl⟩)
  go_ret
  exact ⟨_, A5.out, rfl, rfl⟩
end Go.Proofs.YtkmmcphiijolkaaDoor
