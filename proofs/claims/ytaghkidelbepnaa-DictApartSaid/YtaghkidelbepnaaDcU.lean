/-
  The program's dict: Put, at this program.
-/
import Derived.Test.YtaghkidelbepnaaDcG
set_option linter.unusedVariables false
set_option linter.unusedSimpArgs false
namespace Go.Proofs.Ytaghkidelbepnaa
open Go.RowKit
open Di

/-- What is put, told. -/
def DEnd (w : World) (a : Nat) (v : Value) (mb : Nat) (es' : List Ent) (f' : V → Option Nat) (m' : Nat) (ok : Bool) (e : Ending) (w' : World) : Prop :=
  ∃ v', e = .returned (.bool ok) ∧ Hid (DS w' a v' mb es' f' m') ∧ Hid (But (BK a v mb) w w') ∧ Hid (∀ j, v'.ownBlock = some j → v.ownBlock = some j ∨ w.heap.size ≤ j)
set_option maxHeartbeats 4000000 in
theorem dPut_there {w : World} {a mb m : Nat} {v : Value} {es : List Ent} {f : V → Option Nat} {k x : V} {i : Nat} (hk : Vok k) (hi : f k = some i) (hrel : Hid (Rel es f)) (H : Hid (DS w a v mb es f m)) (hl : es.length ≤ 50000) :
    Calls Try.prog 20 #[ptrV a, vV k, vV x] w (DEnd w a v mb (es.set i ((k, x), false)) f m true) := by
  obtain ⟨W, hW⟩ : ∃ W, W = (w.alloc (.cells #[.int .i64 k.1, .int .i64 k.2.1, .string k.2.2] 32)).alloc (.cells #[.int .i64 x.1, .int .i64 x.2.1, .string x.2.2] 32) := ⟨_, rfl⟩
  have HB : Hid (Below w.heap.size w W) := (show Below _ _ _ by rw [hW]; exact two_below _ _ _)
  have hbx : W.heap[w.heap.size]? = some (.cells #[.int .i64 k.1, .int .i64 k.2.1, .string k.2.2] 32) := by
    rw [hW]; exact (Below.heap_alloc _ _ _ (by rw [World.size_alloc]; omega)).trans (heap_alloc_new w _)
  have hby : W.heap[w.heap.size + 1]? = some (.cells #[.int .i64 x.1, .int .i64 x.2.1, .string x.2.2] 32) := by rw [hW]; exact two_heap _ _ _
  have hD := H.out.below HB.out
  obtain ⟨bx, hbxx⟩ : ∃ bx, w.heap.size = bx := ⟨_, rfl⟩
  rw [hbxx] at hbx hby
  obtain ⟨c0, c1, c2⟩ := V_cells hbx
  obtain ⟨d0, d1, d2⟩ := V_cells hby
  have a1 := hD.cell1
  have a0 := hD.cell0
  have HW := Lib.hid hW
  have HBX := Lib.hid hbxx
  have hlk : ∀ q, (Instr.lookup 71 (.map (some mb)) (.agg #[.int .i64 k.1, .int .i64 k.2.1, .string k.2.2]) true).run Try.prog (W.drewN q) = .ok (.tuple #[.int .i64 (i : Int), .bool true]) (W.drewN q) := fun q => by
    have := (hD.map.of_block (w' := W.drewN q) rfl).get hk
    rw [hi] at this
    exact this
  obtain ⟨y, hy⟩ := (hrel.out k i).1 hi
  have hlt := hrel.out.lt hi
  obtain ⟨g, cap, hv, hgl, hcs⟩ := hD.ent hy
  have e3 := hcs 3 _ rfl
  have e4 := hcs 4 _ rfl
  have e5 := hcs 5 _ rfl
  subst hv
  have f3 := hD.frz (i * 7 + 3)
  have f4 := hD.frz (i * 7 + 4)
  have f5 := hD.frz (i * 7 + 5)
  have HF := Lib.hid (hD.set3 x hy)
  obtain ⟨n, hn⟩ : ∃ n, es.length = n := ⟨_, rfl⟩
  have HY := Lib.hid hy
  rw [hn] at hlt a0 hl HF ⊢
  clear hbx hby hD hW hbxx hi hn hcs hy
  go_enter Try.func20, Try.ntmps20
  go_upto_region 1 with (fail)
  rw [← HW.out, HBX.out]
  go_quiet (fail)
  go_wp2_with fail
  go_region
  go_wp2_with fail
  go_ret
  refine ⟨.slice (some ⟨g, 0, none⟩) n cap, rfl, (show DS _ _ _ _ _ _ _ from ⟨HF.out.head, HF.out.row, HF.out.map⟩), (show But _ _ _ from ?_), (show ∀ j, _ from fun j hj => Or.inl hj)⟩
  exact setX_but ((But.of_below HB.out).drewN _) (P := BK a (.slice (some ⟨g, 0, none⟩) n cap) mb) (g := g) (Or.inr (Or.inl rfl)) _ _ _ _ _ _
set_option maxHeartbeats 4000000 in
theorem dPut_not {w : World} {a mb m : Nat} {v : Value} {es : List Ent} {f : V → Option Nat} {k x : V} {b : Bool} (hk : Vok k) (hi : f k = none) (H : Hid (DS w a v mb es f m)) (hl : es.length ≤ 50000) (hm : m ≤ 50000) (hb : Hid (keyOk k = b)) (hno : b = false ∨ 4096 ≤ m) :
    Calls Try.prog 20 #[ptrV a, vV k, vV x] w (DEnd w a v mb es f m false) := by
  obtain ⟨W, hW⟩ : ∃ W, W = (w.alloc (.cells #[.int .i64 k.1, .int .i64 k.2.1, .string k.2.2] 32)).alloc (.cells #[.int .i64 x.1, .int .i64 x.2.1, .string x.2.2] 32) := ⟨_, rfl⟩
  have HB : Hid (Below w.heap.size w W) := (show Below _ _ _ by rw [hW]; exact two_below _ _ _)
  have hbx : W.heap[w.heap.size]? = some (.cells #[.int .i64 k.1, .int .i64 k.2.1, .string k.2.2] 32) := by
    rw [hW]; exact (Below.heap_alloc _ _ _ (by rw [World.size_alloc]; omega)).trans (heap_alloc_new w _)
  have hD := H.out.below HB.out
  obtain ⟨bx, hbxx⟩ : ∃ bx, w.heap.size = bx := ⟨_, rfl⟩
  rw [hbxx] at hbx
  obtain ⟨c0, c1, c2⟩ := V_cells hbx
  have a1 := hD.cell1
  have HD := Lib.hid hD
  have HW := Lib.hid hW
  have HBX := Lib.hid hbxx
  have hlk : ∀ q, (Instr.lookup 71 (.map (some mb)) (.agg #[.int .i64 k.1, .int .i64 k.2.1, .string k.2.2]) true).run Try.prog (W.drewN q) = .ok (.tuple #[.int .i64 0, .bool false]) (W.drewN q) := fun q => by
    have := (hD.map.of_block (w' := W.drewN q) rfl).get hk
    rw [hi] at this
    exact this
  clear hbx hD hW hbxx hi
  cases b with
  | false =>
    clear hno
    go_enter Try.func20, Try.ntmps20
    go_upto_region 1 with (fail)
    rw [← HW.out, HBX.out]
    go_quiet (fail)
    go_wp2_with (go_at_call 19; refine (dKey_is hb _).mono ?_; rintro e w2 ⟨rfl, HB2⟩)
    go_ret
    have hb2 : Below W.heap.size W w2 := (below_dr (Below.refl _ W) _).trans HB2
    exact ⟨v, rfl, HD.out.below hb2, But.of_below (HB.out.trans (hb2.mono HB.out.size)), (show ∀ j, _ from fun j hj => Or.inl hj)⟩
  | true =>
    have hge : (4096 : Int) ≤ (m : Int) := by rcases hno with h | h; cases h; omega
    clear hno
    go_enter Try.func20, Try.ntmps20
    go_upto_region 1 with (fail)
    rw [← HW.out, HBX.out]
    go_quiet (fail)
    go_wp2_with (first
      | (go_at_call 25; refine (dLen_is HD2).mono ?_; rintro e w3 ⟨rfl, rfl⟩)
      | (go_at_call 19; refine (dKey_is hb _).mono ?_; rintro e w2 ⟨rfl, HB2⟩; have hb2 : Below W.heap.size W w2 := (below_dr (Below.refl _ W) _).trans HB2; have HD2 := Lib.hid (HD.out.below hb2)))
    go_ret
    exact ⟨v, rfl, HD2.out, But.of_below (HB.out.trans (hb2.mono HB.out.size)), (show ∀ j, _ from fun j hj => Or.inl hj)⟩
set_option maxHeartbeats 4000000 in
set_option maxRecDepth 100000 in
theorem dPut_app {w : World} {a mb m : Nat} {v : Value} {es : List Ent} {f : V → Option Nat} {k x : V} (hk : Vok k) (hi : f k = none) (H : Hid (DS w a v mb es f m)) (hl : es.length ≤ 50000) (hm : m < 4096) (hb : Hid (keyOk k = true)) :
    Calls Try.prog 20 #[ptrV a, vV k, vV x] w (DEnd w a v mb (es ++ [((k, x), false)]) (fun y => if y = k then some es.length else f y) (m + 1) true) := by
  obtain ⟨W, hW⟩ : ∃ W, W = (w.alloc (.cells #[.int .i64 k.1, .int .i64 k.2.1, .string k.2.2] 32)).alloc (.cells #[.int .i64 x.1, .int .i64 x.2.1, .string x.2.2] 32) := ⟨_, rfl⟩
  have HB : Hid (Below w.heap.size w W) := (show Below _ _ _ by rw [hW]; exact two_below _ _ _)
  have hbx : W.heap[w.heap.size]? = some (.cells #[.int .i64 k.1, .int .i64 k.2.1, .string k.2.2] 32) := by
    rw [hW]; exact (Below.heap_alloc _ _ _ (by rw [World.size_alloc]; omega)).trans (heap_alloc_new w _)
  have hby : W.heap[w.heap.size + 1]? = some (.cells #[.int .i64 x.1, .int .i64 x.2.1, .string x.2.2] 32) := by rw [hW]; exact two_heap _ _ _
  have hD := H.out.below HB.out
  obtain ⟨bx, hbxx⟩ : ∃ bx, w.heap.size = bx := ⟨_, rfl⟩
  rw [hbxx] at hbx hby
  obtain ⟨c0, c1, c2⟩ := V_cells hbx
  have a1 := hD.cell1
  have HD := Lib.hid hD
  have HW := Lib.hid hW
  have HBX := Lib.hid hbxx
  have HXX := Lib.hid hbx
  have HBY := Lib.hid hby
  have HLT : Hid (bx + 1 < W.heap.size) := (show _ < _ from (Array.getElem?_eq_some_iff.1 hby).1)
  have hlk : ∀ q, (Instr.lookup 71 (.map (some mb)) (.agg #[.int .i64 k.1, .int .i64 k.2.1, .string k.2.2]) true).run Try.prog (W.drewN q) = .ok (.tuple #[.int .i64 0, .bool false]) (W.drewN q) := fun q => by
    have := (hD.map.of_block (w' := W.drewN q) rfl).get hk
    rw [hi] at this
    exact this
  have HI : Hid (f k = none) := hi
  have hge : ¬ (4096 : Int) ≤ (m : Int) := by omega
  clear hbx hby hD hW hbxx hi
  go_enter Try.func20, Try.ntmps20
  go_upto_region 1 with (fail)
  rw [← HW.out, HBX.out]
  go_quiet (fail)
  go_wp2_with (first
    | (go_at_call 37; refine (dadd_is hk HD2 HI.out hl (by omega)).mono ?_; rintro e w4 ⟨v', rfl, HD4, HB4, HF4⟩)
    | (go_at_call 25; refine (dLen_is HD2).mono ?_; rintro e w3 ⟨rfl, rfl⟩)
    | (go_at_call 19; refine (dKey_is hb _).mono ?_; rintro e w2 ⟨rfl, HB2⟩; have hb2 : Below W.heap.size W w2 := (below_dr (Below.refl _ W) _).trans HB2; have HD2 := Lib.hid (HD.out.below hb2); have HB22 := Lib.hid hb2; obtain ⟨k0, k1, k2⟩ := V_cells ((hb2.block _ (Nat.lt_of_succ_lt HLT.out)).trans HXX.out); obtain ⟨d0, d1, d2⟩ := V_cells ((hb2.block _ HLT.out).trans HBY.out); clear hb2 HB2))
  go_ret
  refine ⟨v', rfl, HD4.out, (show But _ _ _ from (But.of_below (HB.out.trans (HB22.out.mono HB.out.size))).trans HB4.out), (show ∀ j, _ from fun j hj => ?_)⟩
  have h1 := HB.out.size
  have h2 := HB22.out.size
  rcases HF4.out j hj with h | h
  · exact Or.inl h
  · exact Or.inr (by omega)
end Go.Proofs.Ytaghkidelbepnaa
