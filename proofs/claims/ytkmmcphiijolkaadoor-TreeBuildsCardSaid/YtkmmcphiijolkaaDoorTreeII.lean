/-
  What the reference goes over: All, at this program.
-/
import Derived.Test.YtkmmcphiijolkaaDoorTreeHH
set_option linter.unusedVariables false
set_option linter.unusedSimpArgs false
namespace Go.Proofs.YtkmmcphiijolkaaDoor
open Go.RowKit Go.Shelf
open Tr

set_option maxHeartbeats 8000000 in
set_option maxRecDepth 100000 in
theorem refAll_any (tv : Value) (t : List NodeD) (w : World) (ha : ArgT tv t w) (hl : t.length ≤ 1000000 - 1) (hks : ∀ x ∈ t, x.2.2.2.2.length ≤ 900000) (node : Int) :
    Calls Tryd.prog 40 #[tv, .int .i64 node] w fun e w' => ∃ v, e = .returned v ∧ w'.ownsRow w.heap.size 3 1 v (belowT t node).length ((castL (belowT t node)).map (Value.int .i64)) ∧ Below w.heap.size w w' := by
  have HA := Lib.hid ha
  obtain ⟨pv, cv, rfl, _⟩ := ha
  obtain ⟨n, hn⟩ : ∃ n, n = t.length := ⟨_, rfl⟩
  have HL := Lib.hid hl
  have HKS := Lib.hid hks
  rw [← hn] at hl ⊢
  have HN := Lib.hid hn
  by_cases hin : 0 ≤ node ∧ node < (n : Int)
  · obtain ⟨i, rfl⟩ : ∃ i : Nat, node = (i : Int) := ⟨node.toNat, by omega⟩
    have hii : i < n := by omega
    have hi2 : (i : Int) < (n : Int) := hin.2
    have HBT : Hid (belowT t (i : Int) = goT t n [] i) := (show _ = _ by unfold belowT; rw [if_pos (by rw [← hn]; exact hin), ← hn, Int.toNat_natCast])
    have hmk := make_bools n (by omega)
    have hO : OvSt (w.heap.size + 1) w.heap.size (w.heap.size + 2) n [] (.slice none 0 0) ((w.alloc (.cells (madeCells #[.bool false] n) 4)).alloc (.cells #[.slice (some ⟨w.heap.size, 0, none⟩) n n, .slice none 0 0] 86)) := by
      refine ⟨?_, ?_, World.ownsRow_nil _ _ _ _, by omega, by omega, by omega, by simp⟩
      · have := heap_alloc_new (w.alloc (.cells (madeCells #[.bool false] n) 4)) (.cells #[.slice (some ⟨w.heap.size, 0, none⟩) n n, .slice none 0 0] 86)
        simpa using this
      · exact ((World.rowIs_made w (.bool false) n 4).alloc _).congr (fun j _ => by simp)
    have hb1 : Below w.heap.size w ((w.alloc (.cells (madeCells #[.bool false] n) 4)).alloc (.cells #[.slice (some ⟨w.heap.size, 0, none⟩) n n, .slice none 0 0] 86)) := ((Below.refl _ _).alloc (Nat.le_refl _) _).alloc (by simp) _
    have hov := over_any (.slice pv t.length cv) t w HA.out (by rw [← hn]; omega) hks (w.heap.size + 1) w.heap.size (w.heap.size + 2) (by omega) (by omega) (by omega) n i [] (.slice none 0 0) _ hii (by rw [← hn]; exact hii) (by rw [← hn]; exact hO) hb1 ⟨List.nodup_nil, fun y hy => by cases hy⟩
    rw [← hn] at hov
    have HB1 := Lib.hid hb1
    clear hO hb1 hin hks hn HKS
    go_enter Tryd.func40, Tryd.ntmps40
    go_wp2_with (go_at_call 69; refine hov.mono ?_; clear hov; rintro e w2 ⟨rfl, vo, HO2, HB2, _⟩; have HOD := Lib.hid HO2; have HBD := Lib.hid HB2; obtain ⟨po, co, rfl⟩ := own_formI HO2.out; have k1 := cell_of_row _ _ 1 _ _ _ HO2.blk; simp only [List.getElem?_toArray, List.getElem?_cons_succ, List.getElem?_cons_zero] at k1; clear HO2 HB2)
    go_ret
    refine ⟨_, rfl, ?_, HB1.out.trans (HBD.out.below (by simp; omega) (fun k hk e => ?_))⟩
    · rw [HBT.out]
      exact HOD.out.out.mono (by omega)
    · rcases e with e | e | e
      · omega
      · omega
      · simp [Value.ownBlock] at e
  · have hb : belowT t node = [] := by unfold belowT; rw [if_neg (by rw [← hn]; exact hin)]
    rw [hb]
    clear hb hks hn
    by_cases h0 : node < 0
    · go_enter Tryd.func40, Tryd.ntmps40
      go_wp2_with fail
      go_ret
      exact ⟨_, rfl, World.ownsRow_nil _ _ _ _, Below.refl _ _⟩
    · have h1 : ¬ node < (n : Int) := fun h => hin ⟨by omega, h⟩
      have h2 : 0 ≤ node := by omega
      go_enter Tryd.func40, Tryd.ntmps40
      go_wp2_with fail
      go_ret
      exact ⟨_, rfl, World.ownsRow_nil _ _ _ _, Below.refl _ _⟩
end Go.Proofs.YtkmmcphiijolkaaDoor
