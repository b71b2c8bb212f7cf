/-
  How many nodes are below one, at this program.
-/
import Derived.Test.YtkmmcphiijolkaaDoorTreeH
set_option linter.unusedVariables false
set_option linter.unusedSimpArgs false
namespace Go.Proofs.YtkmmcphiijolkaaDoor
open Go.RowKit Go.Shelf
open Tr
attribute [local go_sem] Oper.semAt_some

/-- All functions that going over a tree needs, in a fence without depth. -/
structure Fen (F : Fence) : Prop where
  d : F.depth = none
  r : F.round = none
  b1 : F.fn 36
  b2 : F.fn 37
  k : F.fn 27
  a : F.fn 39
  a1 : F.fn 68
  b : F.fn 19
  s : F.fn 10
  dp : F.fn 13
  ap : F.fn 35
  co : F.fn 18
  so : F.fn 26
theorem fen_wide : Fen Fence.wide := ⟨rfl, rfl, trivial, trivial, trivial, trivial, trivial, trivial, trivial, trivial, trivial, trivial, trivial⟩

set_option maxHeartbeats 2000000 in
theorem below_in (F : Fence) (n : Nat) (hF : F.fn 19) (hro : F.round = none) (pa : Option Addr) (m ca : Nat) (node : Int) (w : World) :
    CallsIn F n Tryd.prog 19 #[.slice pa m ca, .int .i64 node] w fun e w' => e = .returned (.func (.func 36) #[] #[.pointer (some ⟨w.heap.size, 0, none⟩), .pointer (some ⟨w.heap.size + 1, 0, none⟩)]) ∧ w' = (w.alloc (.cells #[.slice pa m ca] 25)).alloc (.cells #[.int .i64 node] 3) := by
  refine callsIn_of_wp Tryd.func19 rfl hF ?_ hro
  simp only [Tryd.ntmps19, List.size_toArray, List.length_cons, List.length_nil, Nat.reduceAdd, Nat.reduceSub, Array.replicate_succ, Array.replicate_zero, List.push_toArray, List.append_toArray, List.nil_append, List.cons_append]
  gi_wp2
  go_ret
  exact ⟨rfl, rfl⟩

set_option maxHeartbeats 8000000 in
theorem Size_in (F : Fence) (hf : Fen F) (n : Nat) (w : World) (tv : Value) (t : List NodeD) (ha : ArgT tv t w) (hl : t.length ≤ 1000000) (hks : ∀ x ∈ t, x.2.2.2.2.length ≤ maxLen) (node : Int) :
    CallsIn F n Tryd.prog 10 #[tv, .int .i64 node] w fun e w' => e = .returned (.int .i64 ((belowT t node).length : Int)) ∧ Below w.heap.size w w' := by
  have HA := Lib.hid ha
  obtain ⟨pa, ca, rfl, fa⟩ := ha
  obtain ⟨m, hm⟩ : ∃ m, m = t.length := ⟨_, rfl⟩
  have HM := Lib.hid hm
  rw [← hm] at HA ⊢
  clear fa hm
  have hd := hf.d
  have hro := hf.r
  have hfb := hf.b
  refine callsIn_of_wp_marks Tryd.func10 rfl hf.s ?_ hro
  simp only [Tryd.ntmps10, List.size_toArray, List.length_cons, List.length_nil, Nat.reduceAdd, Nat.reduceSub, Array.replicate_succ, Array.replicate_zero, List.push_toArray, List.append_toArray, List.nil_append, List.cons_append]
  gi_wp2_with ((try refine ⟨depthless hd _, ?_⟩); gi_at_call 19; refine (below_in F _ hf.b hro pa m ca node _).mono ?_; rintro e w' ⟨rfl, rfl⟩)
  obtain ⟨W, hW⟩ : ∃ W, W = ((w.alloc (.cells #[.int .i64 0] 3)).alloc (.cells #[.slice pa m ca] 25)).alloc (.cells #[.int .i64 node] 3) := ⟨_, rfl⟩
  have hbW : Below w.heap.size w W := by rw [hW]; exact (((Below.refl _ w).alloc (Nat.le_refl _) _).alloc (by simp) _).alloc (by simp; omega) _
  have hsW : W.heap.size = w.heap.size + 3 := by rw [hW]; simp
  have q0 : W.cell? ⟨w.heap.size, 0, none⟩ = some (.int .i64 0) := by
    rw [hW, World.cell?_alloc_past _ _ _ (by simp; omega), World.cell?_alloc_past _ _ _ (by simp), World.cell?_alloc_at _ _ _ _ rfl]; rfl
  have q0f : W.frozen? ⟨w.heap.size, 0, none⟩ = false := by rw [hW]; simp [go_sem]
  have q1 : W.cell? ⟨w.heap.size + 1, 0, none⟩ = some (.slice pa m ca) := by
    rw [hW, World.cell?_alloc_past _ _ _ (by simp), World.cell?_alloc_at _ _ _ _ (by simp)]; rfl
  have q2 : W.cell? ⟨w.heap.size + 1 + 1, 0, none⟩ = some (.int .i64 node) := by
    rw [hW, World.cell?_alloc_at _ _ _ _ (by simp)]; rfl
  rw [← hW]
  have hg := below_gives F hd hro (n - 1) hf.b1 hf.b2 hf.k hf.a hf.a1 w (.slice pa m ca) t HA.out hl hks node (w.heap.size + 1) (w.heap.size + 1 + 1) (fun _ k => k = w.heap.size) W (Dyn.const _ _) hbW (fun _ k e => by omega) (by omega) (by omega) (by omega) q1 q2
  clear hW HA
  gi_wp2
  refine wpIn_rangeFunc_R hro (depthless hd _) (gf := 36) (lb := #[.pointer (some ⟨w.heap.size + 1, 0, none⟩), .pointer (some ⟨w.heap.size + 1 + 1, 0, none⟩)]) rfl hf.b1 (enters_of Tryd.func36 (by kernel_rfl) rfl)
    (R := fun _ k => k = w.heap.size) (Dyn.const _ _) hg (fun _ => rfl)
    (fun q A => A.cell? ⟨w.heap.size, 0, none⟩ = some (.int .i64 (q.length : Int)) ∧ A.frozen? ⟨w.heap.size, 0, none⟩ = false)
    (fun c q A => False) (fun q A _ hs k e => by omega)
    (fun q A B ⟨u1, u2⟩ hST hs => have hB := hST.b
      ⟨(hB.cell (p := ⟨w.heap.size, 0, none⟩) (by show w.heap.size < _; omega)).trans u1, (hB.frozen (p := ⟨w.heap.size, 0, none⟩) (by show w.heap.size < _; omega)).trans u2⟩)
    (fun c q A B h _ _ => h) ⟨q0, q0f⟩
    (fun x => { tmps := #[.slice pa m ca, .int .i64 node, undef, undef, .int .i64 0, .pointer (some ⟨w.heap.size, 0, none⟩), .slice pa m ca, .int .i64 node, .func (.func 36) #[] #[.pointer (some ⟨w.heap.size + 1, 0, none⟩), .pointer (some ⟨w.heap.size + 1 + 1, 0, none⟩)], .int .i64 (x : Int), undef, undef, undef], defers := [] })
    ?assign ?body ?done ?stop
  case assign =>
    intro l x W K hK
    gi_wp2
    simpa using hK
  case body =>
    rintro l2 q k A ⟨u1, u2⟩ hS hsz
    have hlen := few_length hS
    rw [List.length_append, List.length_singleton] at hlen
    obtain ⟨c, hc⟩ : ∃ c, c = q.length := ⟨_, rfl⟩
    rw [← hc] at u1 hlen
    have HC := Lib.hid hc
    clear hc hg hS
    have hw : IntKind.i64.wrap ((c : Int) + 1) = (c : Int) + 1 := IntWalk.i64_in _ (by omega)
    gi_wp2
    refine ⟨(Chg.refl (fun _ k => k = w.heap.size) A).setCell (Dyn.const _ 0) (p := ⟨w.heap.size, 0, none⟩) (Nat.zero_le _) (Nat.zero_le _) (fun _ => rfl) _, ?_, by rw [World.frozen?_setCell]; exact u2⟩
    rw [List.length_append, List.length_singleton, ← HC.out]
    exact World.cell?_setCell_same' _ _ _ (by rw [u1]; rfl)
  case done =>
    rintro q A rfl ⟨u1, u2⟩ hcA hK _
    have hbA : Below w.heap.size w A := hbW.trans (hcA.below (by omega) (fun k hk e => by omega))
    clear hg
    gi_wp2
    refine ⟨by simp, .inl ⟨_, _, rfl, run_takeDeferred hK, ?_⟩⟩
    exact ⟨_, results_tmp rfl _ _ _, rfl, hbA.trans ⟨rfl, rfl, rfl, by rw [World.putObj_size]; exact Nat.le_refl _, fun k hk => World.putObj_heap_other (by omega)⟩⟩
  case stop =>
    rintro c q A h
    exact h.elim
theorem Size_any (w : World) (tv : Value) (t : List NodeD) (ha : ArgT tv t w) (hl : t.length ≤ 1000000) (hks : ∀ x ∈ t, x.2.2.2.2.length ≤ maxLen) (node : Int) :
    Calls Tryd.prog 10 #[tv, .int .i64 node] w fun e w' => e = .returned (.int .i64 ((belowT t node).length : Int)) ∧ Below w.heap.size w w' :=
  (callsIn_wide (n := 3)).1 (Size_in Fence.wide fen_wide 3 w tv t ha hl hks node)
end Go.Proofs.YtkmmcphiijolkaaDoor
