/-
  What is caught at the face, at this program: the deferred function, entered where a panic goes through, and where none does.
-/
import Derived.Test.YtbdjccmcdifjcaaGreatDoorRound
import Derived.Test.YtbdjccmcdifjcaaGreatDoorLain
import Derived.RegionIn
import Derived.RecoverIn
import Derived.TacticsInMore
import Derived.OwnWalkIn
import Derived.LoopNIn
import Derived.Laws.Pointers
import Derived.WalkKit
set_option linter.unusedVariables false
set_option linter.unusedSimpArgs false
namespace Go.Proofs.YtbdjccmcdifjcaaGreatDoor
open Go.RowKit Go.Shelf

theorem catch_idle (p1 p2 p3 : Addr) (n : Nat) (w : World) :
    CallsDIn Fence.wide n Tryz.prog 22 #[.pointer (some p1), .pointer (some p2), .pointer (some p3)] .returning w fun e u' w' => e = .returned (.tuple #[]) ∧ u' = .returning ∧ w' = w := by
  refine callsDIn_of_wpSIn Tryz.func22 rfl trivial fun c₀ cs hu => ?_
  apply wpSIn_seq
  apply wpSIn_region
  simp [wpOpsSIn, go_sem, recoverD, hu, Tryz.ntmps22, Exit.thenS]
  refine wpSIn_of_wpIn rfl ?_
  gi_wp2
  cases c₀
  simp_all [bodyPostS, results, Tryz.results22]

theorem assert_wrong (x : Value) (w : World) : (Instr.typeAssert (.iface 49 x) 20 49 true).run Tryz.prog w = .ok (.tuple #[x, .bool true]) w := by
  simp [Instr.typeAssert, run_underlying Tryz.underlying49, go_sem, Result.andThen]

set_option maxHeartbeats 2000000 in
set_option maxRecDepth 100000 in
theorem catch_wrong (B h1 h2 h3 : Nat) (n : Nat) (p e : Int) (v1 : Value) (x2 x3 : Int) (w : World) (hB1 : B ≤ h1) (hB2 : h1 < h2) (hB3 : h2 < h3) (hB : h3 < w.heap.size) (c1 : w.cell? ⟨h1, 0, none⟩ = some v1) (c2 : w.cell? ⟨h2, 0, none⟩ = some (.int .i64 x2)) (c3 : w.cell? ⟨h3, 0, none⟩ = some (.int .i64 x3)) (f1 : w.frozen? ⟨h1, 0, none⟩ = false) (f2 : w.frozen? ⟨h2, 0, none⟩ = false) (f3 : w.frozen? ⟨h3, 0, none⟩ = false) :
    CallsDIn Fence.wide n Tryz.prog 22 #[.pointer (some ⟨h1, 0, none⟩), .pointer (some ⟨h2, 0, none⟩), .pointer (some ⟨h3, 0, none⟩)] (.panicking [{ v := .iface 49 (.agg #[.int .i64 p, .int .i64 e]), recovered := false }]) w fun e' u' w' =>
      e' = .returned (.tuple #[]) ∧ u' = .panicking [{ v := .iface 49 (.agg #[.int .i64 p, .int .i64 e]), recovered := true }] ∧ Below B w w' ∧ w'.cell? ⟨h1, 0, none⟩ = some (.slice none 0 0) ∧ w'.cell? ⟨h2, 0, none⟩ = some (.int .i64 p) ∧ w'.cell? ⟨h3, 0, none⟩ = some (.int .i64 e) := by
  have hta := assert_wrong (.agg #[.int .i64 p, .int .i64 e])
  have n12 : ¬ h1 = h2 := by omega
  have n13 : ¬ h1 = h3 := by omega
  have n23 : ¬ h2 = h3 := by omega
  have b1 : ∀ o, (w.alloc o).cell? ⟨h1, 0, none⟩ = some v1 := fun o => by rw [World.cell?_alloc_lt _ _ _ (by simp <;> omega)]; exact c1
  have b2 : ∀ o, (w.alloc o).cell? ⟨h2, 0, none⟩ = some (.int .i64 x2) := fun o => by rw [World.cell?_alloc_lt _ _ _ (by simp <;> omega)]; exact c2
  have b3 : ∀ o, (w.alloc o).cell? ⟨h3, 0, none⟩ = some (.int .i64 x3) := fun o => by rw [World.cell?_alloc_lt _ _ _ hB]; exact c3
  have g1 : ∀ o, (w.alloc o).frozen? ⟨h1, 0, none⟩ = false := fun o => (World.frozen?_of_block (a := ⟨h1, 0, none⟩) (Below.heap_alloc w o h1 (by omega))).trans f1
  have g2 : ∀ o, (w.alloc o).frozen? ⟨h2, 0, none⟩ = false := fun o => (World.frozen?_of_block (a := ⟨h2, 0, none⟩) (Below.heap_alloc w o h2 (by omega))).trans f2
  have g3 : ∀ o, (w.alloc o).frozen? ⟨h3, 0, none⟩ = false := fun o => (World.frozen?_of_block (a := ⟨h3, 0, none⟩) (Below.heap_alloc w o h3 (by omega))).trans f3
  have fin : ∀ o, Below B w ((((w.alloc o).setCell ⟨h1, 0, none⟩ (.slice none 0 0)).setCell ⟨h2, 0, none⟩ (.int .i64 p)).setCell ⟨h3, 0, none⟩ (.int .i64 e)).drew ∧
      ((((w.alloc o).setCell ⟨h1, 0, none⟩ (.slice none 0 0)).setCell ⟨h2, 0, none⟩ (.int .i64 p)).setCell ⟨h3, 0, none⟩ (.int .i64 e)).drew.cell? ⟨h1, 0, none⟩ = some (.slice none 0 0) ∧
      ((((w.alloc o).setCell ⟨h1, 0, none⟩ (.slice none 0 0)).setCell ⟨h2, 0, none⟩ (.int .i64 p)).setCell ⟨h3, 0, none⟩ (.int .i64 e)).drew.cell? ⟨h2, 0, none⟩ = some (.int .i64 p) ∧
      ((((w.alloc o).setCell ⟨h1, 0, none⟩ (.slice none 0 0)).setCell ⟨h2, 0, none⟩ (.int .i64 p)).setCell ⟨h3, 0, none⟩ (.int .i64 e)).drew.cell? ⟨h3, 0, none⟩ = some (.int .i64 e) := by
    intro o
    refine ⟨(((((Below.refl B w).alloc (by omega) o).setCell (p := ⟨h1, 0, none⟩) hB1 _).setCell (p := ⟨h2, 0, none⟩) (by simp <;> omega) _).setCell (p := ⟨h3, 0, none⟩) (by simp <;> omega) _).drew, ?_, ?_, ?_⟩
    · rw [World.cell?_drew, World.cell?_setCell_other _ _ _ _ (by simp <;> omega), World.cell?_setCell_other _ _ _ _ (by simp <;> omega)]
      exact World.cell?_setCell_same _ _ _ (b1 o)
    · rw [World.cell?_drew, World.cell?_setCell_other _ _ _ _ (by simp <;> omega)]
      refine World.cell?_setCell_same _ _ _ (u := .int .i64 x2) ?_
      rw [World.cell?_setCell_other _ _ _ _ (by simp <;> omega)]
      exact b2 o
    · rw [World.cell?_drew]
      refine World.cell?_setCell_same _ _ _ (u := .int .i64 x3) ?_
      rw [World.cell?_setCell_other _ _ _ _ (by simp <;> omega), World.cell?_setCell_other _ _ _ _ (by simp <;> omega)]
      exact b3 o
  have FIN := Lib.hid fin
  clear fin
  refine callsDIn_of_wpSIn Tryz.func22 rfl trivial fun c₀ cs hu => ?_
  simp only [Tryz.ntmps22, List.size_toArray, List.length_cons, List.length_nil, Nat.reduceAdd, Nat.reduceSub, Array.replicate_succ, Array.replicate_zero, List.push_toArray, List.append_toArray, List.nil_append, List.cons_append]
  apply wpSIn_seq
  apply wpSIn_region
  simp [wpOpsSIn, go_sem, recoverD, hu, Exit.thenS]
  refine wpSIn_of_wpIn rfl ?_
  gi_wp2_with (fail)
  gi_region
  all_goals
    obtain ⟨e1, e2, e3, e4⟩ := FIN.out (.cells #[.int .i64 p, .int .i64 e] 49)
    exact ⟨rfl, _, rfl, .tuple #[], by simp [results, Tryz.results22, go_sem], rfl, rfl, e1, e2, e3, e4⟩
end Go.Proofs.YtbdjccmcdifjcaaGreatDoor
