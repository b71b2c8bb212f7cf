/-
  The program's dict: Get, Put, at this program.
-/
import Derived.Test.YtaghkidelbepnaaDcT
import Derived.Test.YtaghkidelbepnaaDcK
set_option linter.unusedVariables false
set_option linter.unusedSimpArgs false
namespace Go.Proofs.Ytaghkidelbepnaa
open Go.RowKit
open Di

theorem fE_set : ∀ (l : List Ent) (i : Nat) (k y x : V), l[i]? = some ((k, y), false) → (((l.flatMap cE).set (i * 7 + 3) (.int .i64 x.1)).set (i * 7 + 4) (.int .i64 x.2.1)).set (i * 7 + 5) (.string x.2.2) = (l.set i ((k, x), false)).flatMap cE
  | [], i, k, y, x, h => by simp at h
  | p :: l, 0, k, y, x, h => by
    simp only [List.getElem?_cons_zero, Option.some.injEq] at h
    subst h
    rfl
  | p :: l, i + 1, k, y, x, h => by
    have ih := fE_set l i k y x (by simpa using h)
    rw [List.flatMap_cons, List.set_cons_succ, List.flatMap_cons, ← ih]
    have e3 : (i + 1) * 7 + 3 = i * 7 + 3 + 1 + 1 + 1 + 1 + 1 + 1 + 1 := by omega
    have e4 : (i + 1) * 7 + 4 = i * 7 + 4 + 1 + 1 + 1 + 1 + 1 + 1 + 1 := by omega
    have e5 : (i + 1) * 7 + 5 = i * 7 + 5 + 1 + 1 + 1 + 1 + 1 + 1 + 1 := by omega
    rw [e3, e4, e5]
    simp only [cE, List.cons_append, List.nil_append, List.set_cons_succ]
theorem DS.ent {w : World} {a mb n : Nat} {v : Value} {es : List Ent} {f : V → Option Nat} (h : DS w a v mb es f n) {i : Nat} {p : Ent} (hi : es[i]? = some p) : ∃ g cap, v = .slice (some ⟨g, 0, none⟩) es.length cap ∧ g < w.heap.size ∧ ∀ j u, (cE p)[j]? = some u → w.cell? ⟨g, i * 7 + j, none⟩ = some u := by
  obtain ⟨pa, cap, rfl, hr⟩ := own_form cE_len h.row
  obtain ⟨g, rfl, hg, _, hc⟩ := hr i p hi
  exact ⟨g, cap, rfl, hg, hc⟩
theorem DS.frz {w : World} {a mb n m g cap : Nat} {es : List Ent} {f : V → Option Nat} (h : DS w a (.slice (some ⟨g, 0, none⟩) m cap) mb es f n) (j : Nat) : w.frozen? ⟨g, j, none⟩ = false := by
  rcases h.row.2 with ⟨hv, _⟩ | ⟨g', cap', cur, hv, _, hgb, _⟩
  · simp at hv
  · simp only [Value.slice.injEq, Option.some.injEq, Addr.mk.injEq, and_true, true_and] at hv
    obtain ⟨rfl, _⟩ := hv
    exact V_frozen hgb j
theorem DS.set3 {w : World} {a mb n g cap : Nat} {es : List Ent} {f : V → Option Nat} (h : DS w a (.slice (some ⟨g, 0, none⟩) es.length cap) mb es f n) {i : Nat} {k y : V} (x : V) (hi : es[i]? = some ((k, y), false)) :
    DS (((w.setCell ⟨g, i * 7 + 3, none⟩ (.int .i64 x.1)).setCell ⟨g, i * 7 + 4, none⟩ (.int .i64 x.2.1)).setCell ⟨g, i * 7 + 5, none⟩ (.string x.2.2)) a (.slice (some ⟨g, 0, none⟩) es.length cap) mb (es.set i ((k, x), false)) f n := by
  have hh := h.head
  have hm := h.own_mb
  obtain ⟨hlen, hr⟩ := h.row
  have hlt := (List.getElem?_eq_some_iff.1 hi).1
  have hne : g ≠ a := fun e => h.own_ne (by rw [e]; rfl)
  have hnm : g ≠ mb := fun e => hm (by rw [e]; rfl)
  rcases hr with ⟨hv, hn⟩ | ⟨g', cap', cur, hv, _, hg, hnc, hcm, hcs, htk⟩
  · simp at hv
  · simp only [Value.slice.injEq, Option.some.injEq, Addr.mk.injEq, and_true, true_and] at hv
    obtain ⟨rfl, rfl⟩ := hv
    have hW : (((w.setCell ⟨g, i * 7 + 3, none⟩ (.int .i64 x.1)).setCell ⟨g, i * 7 + 4, none⟩ (.int .i64 x.2.1)).setCell ⟨g, i * 7 + 5, none⟩ (.string x.2.2)).heap[g]? = some (.cells (((cur.set! (i * 7 + 3) (.int .i64 x.1)).set! (i * 7 + 4) (.int .i64 x.2.1)).set! (i * 7 + 5) (.string x.2.2)) 75) := by
      unfold World.setCell
      simp only [Array.getElem?_modify, if_true, hg, Option.map_some]
      rfl
    refine ⟨?_, ⟨by rw [fl_len cE_len], .inr ⟨g, _, _, by rw [List.length_set], Nat.zero_le _, hW, by rw [List.length_set]; exact hnc, hcm, by simp [hcs], ?_⟩⟩, h.map.of_block ?_⟩
    · rw [Below.heap_setCell _ _ _ _ (Ne.symm hne), Below.heap_setCell _ _ _ _ (Ne.symm hne), Below.heap_setCell _ _ _ _ (Ne.symm hne)]
      exact hh
    · rw [List.length_set, ← fE_set es i k y x hi, ← htk]
      simp only [Array.set!_eq_setIfInBounds, Array.toList_setIfInBounds, List.take_set]
    · rw [Below.heap_setCell _ _ _ _ (Ne.symm hnm), Below.heap_setCell _ _ _ _ (Ne.symm hnm), Below.heap_setCell _ _ _ _ (Ne.symm hnm)]
set_option maxHeartbeats 4000000 in
theorem dGet_is {w : World} {a mb m : Nat} {v : Value} {es : List Ent} {f : V → Option Nat} {k x : V} {ok : Bool} (hk : Vok k) (hr : Hid (Di.get (live es) k = (x, ok))) (hrel : Hid (Rel es f)) (H : Hid (DS w a v mb es f m)) (hl : es.length ≤ 50000) :
    Calls Try.prog 22 #[ptrV a, vV k] w fun e w' => e = .returned (.tuple #[.agg #[.int .i64 x.1, .int .i64 x.2.1, .string x.2.2], .bool ok]) ∧ Below w.heap.size w w' := by
  obtain ⟨W, hW⟩ : ∃ W, W = (w.alloc (.cells #[.int .i64 k.1, .int .i64 k.2.1, .string k.2.2] 32)).alloc (.cells #[.int .i64 0, .int .i64 0, .string ⟨#[]⟩] 32) := ⟨_, rfl⟩
  have HB : Hid (Below w.heap.size w W) := (show Below _ _ _ by rw [hW]; exact two_below _ _ _)
  have hbx : W.heap[w.heap.size]? = some (.cells #[.int .i64 k.1, .int .i64 k.2.1, .string k.2.2] 32) := by
    rw [hW]; exact (Below.heap_alloc _ _ _ (by rw [World.size_alloc]; omega)).trans (heap_alloc_new w _)
  have hby : W.heap[w.heap.size + 1]? = some (.cells #[.int .i64 zeroV.1, .int .i64 zeroV.2.1, .string zeroV.2.2] 32) := by rw [hW]; exact two_heap _ _ _
  have hD := H.out.below HB.out
  obtain ⟨bx, hbxx⟩ : ∃ bx, w.heap.size = bx := ⟨_, rfl⟩
  rw [hbxx] at hbx hby
  obtain ⟨c0, c1, c2⟩ := V_cells hbx
  obtain ⟨y0, y1, y2⟩ := V_cells hby
  have f0 := V_frozen hby 0
  have f1 := V_frozen hby 1
  have f2 := V_frozen hby 2
  have a1 := hD.cell1
  have a0 := hD.cell0
  have HW := Lib.hid hW
  have HBX := Lib.hid hbxx
  have HBY := Lib.hid hby
  cases hi : f k with
  | none =>
    have hlk : ∀ q, (Instr.lookup 71 (.map (some mb)) (.agg #[.int .i64 k.1, .int .i64 k.2.1, .string k.2.2]) true).run Try.prog (W.drewN q) = .ok (.tuple #[.int .i64 0, .bool false]) (W.drewN q) := fun q => by
      have := (hD.map.of_block (w' := W.drewN q) rfl).get hk
      rw [hi] at this
      exact this
    have HE : Hid ((x, ok) = (zeroV, false)) := (show _ = _ by rw [← hr.out]; unfold Di.get; rw [(hrel.out.idx_none).1 hi])
    clear hbx hby hD hW hbxx hi hr
    go_enter Try.func22, Try.ntmps22
    go_upto_region 1 with (fail)
    rw [← HW.out, HBX.out]
    go_quiet (fail)
    go_wp2_with fail
    refine ret_VB rfl _ _ (bx + 1) zeroV _ _ rfl (V_store (w := W) HBY.out) rfl ?_
    have h := HE.out
    cases h
    exact ⟨rfl, below_dr (set3_below HB.out (by have := HBX.out; omega) _ _ _) _⟩
  | some i =>
    have hlk : ∀ q, (Instr.lookup 71 (.map (some mb)) (.agg #[.int .i64 k.1, .int .i64 k.2.1, .string k.2.2]) true).run Try.prog (W.drewN q) = .ok (.tuple #[.int .i64 (i : Int), .bool true]) (W.drewN q) := fun q => by
      have := (hD.map.of_block (w' := W.drewN q) rfl).get hk
      rw [hi] at this
      exact this
    obtain ⟨x', hx', hg'⟩ := hrel.out.get_there hi
    have HE : Hid ((x, ok) = (x', true)) := (show _ = _ by rw [← hr.out, hg'])
    have hlt := hrel.out.lt hi
    obtain ⟨g, cap, hv, hgl, hcs⟩ := hD.ent hx'
    have e3 := hcs 3 _ rfl
    have e4 := hcs 4 _ rfl
    have e5 := hcs 5 _ rfl
    subst hv
    obtain ⟨n, hn⟩ : ∃ n, es.length = n := ⟨_, rfl⟩
    rw [hn] at hlt a0 hl
    clear hbx hby hD hW hbxx hi hr hx' hg' hn hcs
    go_enter Try.func22, Try.ntmps22
    go_upto_region 1 with (fail)
    rw [← HW.out, HBX.out]
    go_quiet (fail)
    go_wp2_with fail
    refine ret_VB rfl _ _ (bx + 1) x' _ _ rfl (V_store (w := W) HBY.out) rfl ?_
    have h := HE.out
    cases h
    exact ⟨rfl, below_dr (set3_below HB.out (by have := HBX.out; omega) _ _ _) _⟩
end Go.Proofs.Ytaghkidelbepnaa
