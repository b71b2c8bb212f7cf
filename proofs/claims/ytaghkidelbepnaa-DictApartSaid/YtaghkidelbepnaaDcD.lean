/-
  The program's dict: Del, at this program.
-/
import Derived.Test.YtaghkidelbepnaaDcC
set_option linter.unusedVariables false
set_option linter.unusedSimpArgs false
namespace Go.Proofs.Ytaghkidelbepnaa
open Go.RowKit
open Di

theorem fE_gap : ∀ (l : List Ent) (i : Nat), i < l.length → (((((((l.flatMap cE).set (i * 7) (.int .i64 0)).set (i * 7 + 1) (.int .i64 0)).set (i * 7 + 2) (.string ⟨#[]⟩)).set (i * 7 + 3) (.int .i64 0)).set (i * 7 + 4) (.int .i64 0)).set (i * 7 + 5) (.string ⟨#[]⟩)).set (i * 7 + 6) (.bool true) = (l.set i gap).flatMap cE
  | [], i, h => by simp at h
  | p :: l, 0, h => rfl
  | p :: l, i + 1, h => by
    have ih := fE_gap l i (by simpa using h)
    rw [List.flatMap_cons, List.set_cons_succ, List.flatMap_cons, ← ih]
    have e0 : (i + 1) * 7 = i * 7 + 1 + 1 + 1 + 1 + 1 + 1 + 1 := by omega
    have e1 : (i + 1) * 7 + 1 = i * 7 + 1 + 1 + 1 + 1 + 1 + 1 + 1 + 1 := by omega
    have e2 : (i + 1) * 7 + 2 = i * 7 + 2 + 1 + 1 + 1 + 1 + 1 + 1 + 1 := by omega
    have e3 : (i + 1) * 7 + 3 = i * 7 + 3 + 1 + 1 + 1 + 1 + 1 + 1 + 1 := by omega
    have e4 : (i + 1) * 7 + 4 = i * 7 + 4 + 1 + 1 + 1 + 1 + 1 + 1 + 1 := by omega
    have e5 : (i + 1) * 7 + 5 = i * 7 + 5 + 1 + 1 + 1 + 1 + 1 + 1 + 1 := by omega
    have e6 : (i + 1) * 7 + 6 = i * 7 + 6 + 1 + 1 + 1 + 1 + 1 + 1 + 1 := by omega
    rw [e1, e2, e3, e4, e5, e6, e0]
    simp only [cE, List.cons_append, List.nil_append, List.set_cons_succ]
/-- A gap in the place of a pair. -/
abbrev gapW (w : World) (g i : Nat) : World := ((((((w.setCell ⟨g, i * 7, none⟩ (.int .i64 0)).setCell ⟨g, i * 7 + 1, none⟩ (.int .i64 0)).setCell ⟨g, i * 7 + 2, none⟩ (.string ⟨#[]⟩)).setCell ⟨g, i * 7 + 3, none⟩ (.int .i64 0)).setCell ⟨g, i * 7 + 4, none⟩ (.int .i64 0)).setCell ⟨g, i * 7 + 5, none⟩ (.string ⟨#[]⟩)).setCell ⟨g, i * 7 + 6, none⟩ (.bool true)
theorem gapW_other (w : World) (g i k : Nat) (h : k ≠ g) : (gapW w g i).heap[k]? = w.heap[k]? := by
  unfold gapW
  rw [Below.heap_setCell _ _ _ _ h, Below.heap_setCell _ _ _ _ h, Below.heap_setCell _ _ _ _ h, Below.heap_setCell _ _ _ _ h, Below.heap_setCell _ _ _ _ h, Below.heap_setCell _ _ _ _ h, Below.heap_setCell _ _ _ _ h]
theorem gapW_but {a w : World} {P : Nat → Prop} (h : But P a w) {g : Nat} (hg : P g) (i : Nat) : But P a (gapW w g i) :=
  ((((((h.setCell (p := ⟨g, i * 7, none⟩) (fun _ => hg) _).setCell (p := ⟨g, i * 7 + 1, none⟩) (fun _ => hg) _).setCell (p := ⟨g, i * 7 + 2, none⟩) (fun _ => hg) _).setCell (p := ⟨g, i * 7 + 3, none⟩) (fun _ => hg) _).setCell (p := ⟨g, i * 7 + 4, none⟩) (fun _ => hg) _).setCell (p := ⟨g, i * 7 + 5, none⟩) (fun _ => hg) _).setCell (p := ⟨g, i * 7 + 6, none⟩) (fun _ => hg) _
theorem heap_set {w : World} {g : Nat} {cur : Array Value} {T : TypeId} (h : w.heap[g]? = some (.cells cur T)) (j : Nat) (u : Value) : (w.setCell ⟨g, j, none⟩ u).heap[g]? = some (.cells (cur.setIfInBounds j u) T) := by
  unfold World.setCell
  simp only [Array.getElem?_modify, if_true, h, Option.map_some]
  rfl
theorem DS.set7 {w : World} {a mb n g cap : Nat} {es : List Ent} {f : V → Option Nat} (h : DS w a (.slice (some ⟨g, 0, none⟩) es.length cap) mb es f n) {i : Nat} (hi : i < es.length) :
    DS (gapW w g i) a (.slice (some ⟨g, 0, none⟩) es.length cap) mb (es.set i gap) f n := by
  have hh := h.head
  have hm := h.own_mb
  obtain ⟨hlen, hr⟩ := h.row
  have hne : g ≠ a := fun e => h.own_ne (by rw [e]; rfl)
  have hnm : g ≠ mb := fun e => hm (by rw [e]; rfl)
  rcases hr with ⟨hv, hn⟩ | ⟨g', cap', cur, hv, _, hg, hnc, hcm, hcs, htk⟩
  · simp at hv
  · simp only [Value.slice.injEq, Option.some.injEq, Addr.mk.injEq, and_true, true_and] at hv
    obtain ⟨rfl, rfl⟩ := hv
    have hW := heap_set (heap_set (heap_set (heap_set (heap_set (heap_set (heap_set hg (i * 7) (.int .i64 0)) (i * 7 + 1) (.int .i64 0)) (i * 7 + 2) (.string ⟨#[]⟩)) (i * 7 + 3) (.int .i64 0)) (i * 7 + 4) (.int .i64 0)) (i * 7 + 5) (.string ⟨#[]⟩)) (i * 7 + 6) (.bool true)
    refine ⟨(gapW_other _ _ _ _ (Ne.symm hne)).trans hh, ⟨by rw [fl_len cE_len], .inr ⟨g, _, _, by rw [List.length_set], Nat.zero_le _, hW, by rw [List.length_set]; exact hnc, hcm, by simp [hcs], ?_⟩⟩, h.map.of_block (gapW_other _ _ _ _ (Ne.symm hnm))⟩
    rw [List.length_set, ← fE_gap es i hi, ← htk]
    simp only [Array.toList_setIfInBounds, List.take_set]
theorem DS.drewN {w : World} {a mb n : Nat} {v : Value} {es : List Ent} {f : V → Option Nat} (h : DS w a v mb es f n) (q : Nat) : DS (w.drewN q) a v mb es f n := h.kept rfl (fun _ _ => rfl) rfl
theorem DS.laid {w5 : World} {a a2 mb2 n : Nat} {v2 x y : Value} {es : List Ent} {f : V → Option Nat} (h : DS w5 a2 v2 mb2 es f n) (ha : w5.heap[a]? = some (.cells #[x, y] 73)) (h1 : v2.ownBlock ≠ some a) (h2 : mb2 ≠ a) :
    DS ((w5.setCell ⟨a, 0, none⟩ v2).setCell ⟨a, 1, none⟩ (.map (some mb2))) a v2 mb2 es f n := by
  have hk : ∀ k, k ≠ a → ((w5.setCell ⟨a, 0, none⟩ v2).setCell ⟨a, 1, none⟩ (.map (some mb2))).heap[k]? = w5.heap[k]? := fun k hk => by
    rw [Below.heap_setCell _ _ _ _ hk, Below.heap_setCell _ _ _ _ hk]
  refine ⟨?_, ⟨h.row.1, ?_⟩, h.map.of_block (hk mb2 h2)⟩
  · unfold World.setCell
    simp only [Array.getElem?_modify, if_true, ha, Option.map_some]
    rfl
  · rcases h.row.2 with hn | ⟨g, cap, cur, hv, hbg, hg, rest⟩
    · exact .inl hn
    · exact .inr ⟨g, cap, cur, hv, hbg, (hk g (fun e => h1 (by rw [hv, ← e]; rfl))).trans hg, rest⟩
set_option maxHeartbeats 4000000 in
theorem dDel_no {w : World} {a mb m : Nat} {v : Value} {es : List Ent} {f : V → Option Nat} {k : V} (hk : Vok k) (hi : f k = none) (H : Hid (DS w a v mb es f m)) :
    Calls Try.prog 23 #[ptrV a, vV k] w fun e w' => e = .returned (.bool false) ∧ Below w.heap.size w w' := by
  obtain ⟨W, hW⟩ : ∃ W, W = w.alloc (.cells #[.int .i64 k.1, .int .i64 k.2.1, .string k.2.2] 32) := ⟨_, rfl⟩
  have HB : Hid (Below w.heap.size w W) := (show Below _ _ _ by rw [hW]; exact below_new _ _)
  have hbx : W.heap[w.heap.size]? = some (.cells #[.int .i64 k.1, .int .i64 k.2.1, .string k.2.2] 32) := by rw [hW]; exact heap_alloc_new _ _
  have hD := H.out.below HB.out
  obtain ⟨bx, hbxx⟩ : ∃ bx, w.heap.size = bx := ⟨_, rfl⟩
  rw [hbxx] at hbx
  obtain ⟨c0, c1, c2⟩ := V_cells hbx
  have a1 := hD.cell1
  have HW := Lib.hid hW
  have HBX := Lib.hid hbxx
  have hlk : ∀ q, (Instr.lookup 71 (.map (some mb)) (.agg #[.int .i64 k.1, .int .i64 k.2.1, .string k.2.2]) true).run Try.prog (W.drewN q) = .ok (.tuple #[.int .i64 0, .bool false]) (W.drewN q) := fun q => by
    have := (hD.map.of_block (w' := W.drewN q) rfl).get hk
    rw [hi] at this
    exact this
  clear hbx hD hW hbxx hi
  go_enter Try.func23, Try.ntmps23
  go_upto_region 1 with (fail)
  rw [← HW.out, HBX.out]
  go_quiet (fail)
  go_wp2_with fail
  go_ret
  exact ⟨rfl, below_dr HB.out _⟩
set_option maxHeartbeats 8000000 in
set_option maxRecDepth 100000 in
theorem dDel_yes {w : World} {a mb m : Nat} {v : Value} {es : List Ent} {f : V → Option Nat} {k : V} {i : Nat} {L : List Pr} (hk : Vok k) (hi : f k = some i) (hrel : Hid (Rel es f)) (H : Hid (DS w a v mb es f (m + 1))) (hl : es.length ≤ 50000) (hm : m ≤ 20000) (hL : Hid (live (es.set i gap) = L)) (HN : Hid (L.length = m)) (hvk : Hid (∀ p ∈ L, Vok p.1)) :
    Calls Try.prog 23 #[ptrV a, vV k] w fun e w' => ∃ v' mb' es' f', e = .returned (.bool true) ∧ Hid (DS w' a v' mb' es' f' m) ∧ Hid (Rel es' f' ∧ live es' = L ∧ es'.length ≤ 2 * m) ∧ Hid (But (BK a v mb) w w') ∧ Hid (∀ j, BK a v' mb' j → BK a v mb j ∨ w.heap.size ≤ j) := by
  obtain ⟨W, hW⟩ : ∃ W, W = w.alloc (.cells #[.int .i64 k.1, .int .i64 k.2.1, .string k.2.2] 32) := ⟨_, rfl⟩
  have HB : Hid (Below w.heap.size w W) := (show Below _ _ _ by rw [hW]; exact below_new _ _)
  have hbx : W.heap[w.heap.size]? = some (.cells #[.int .i64 k.1, .int .i64 k.2.1, .string k.2.2] 32) := by rw [hW]; exact heap_alloc_new _ _
  have hD := H.out.below HB.out
  obtain ⟨bx, hbxx⟩ : ∃ bx, w.heap.size = bx := ⟨_, rfl⟩
  rw [hbxx] at hbx
  obtain ⟨c0, c1, c2⟩ := V_cells hbx
  have a1 := hD.cell1
  have HW := Lib.hid hW
  have HBX := Lib.hid hbxx
  have HI : Hid (f k = some i) := hi
  have hlk : ∀ q, (Instr.lookup 71 (.map (some mb)) (.agg #[.int .i64 k.1, .int .i64 k.2.1, .string k.2.2]) true).run Try.prog (W.drewN q) = .ok (.tuple #[.int .i64 (i : Int), .bool true]) (W.drewN q) := fun q => by
    have := (hD.map.of_block (w' := W.drewN q) rfl).get hk
    rw [hi] at this
    exact this
  have HR1 := Lib.hid (hrel.out.drop hi)
  obtain ⟨x, hx⟩ := (hrel.out k i).1 hi
  have hlt := hrel.out.lt hi
  obtain ⟨g, cap, hv, hgl, _⟩ := hD.ent hx
  subst hv
  obtain ⟨n, hn⟩ : ∃ n, es.length = n := ⟨_, rfl⟩
  have HNL := Lib.hid hn
  have HX := Lib.hid hx
  have HLT : Hid (i < es.length) := hlt
  rw [hn] at hlt hl H ⊢
  have HD := Lib.hid hD
  clear hbx hD hW hbxx hi hn hx
  go_enter Try.func23, Try.ntmps23
  go_upto_region 1 with (fail)
  rw [← HW.out, HBX.out]
  go_quiet (fail)
  go_wp2_with fail
  obtain ⟨W1, hdel, hM1, hG1⟩ := (HD.out.map.of_block (w' := W.drewN (nq + 1)) rfl).drop hk HI.out 0
  have hD1 := (HD.out.drewN (nq + 1)).turned hG1 hM1
  have b0 := hD1.cell0
  rw [HNL.out] at b0
  have hc0 : ∀ j u, (cE ((k, x), false))[j]? = some u → W1.cell? ⟨g, i * 7 + j, none⟩ = some u := fun j u hu => by
    obtain ⟨g', cap', hv', _, hcs⟩ := hD1.ent HX.out
    simp only [Value.slice.injEq, Option.some.injEq, Addr.mk.injEq, and_true, true_and] at hv'
    obtain ⟨rfl, _⟩ := hv'
    exact hcs j u hu
  have e0 := hc0 0 _ rfl
  have e1 := hc0 1 _ rfl
  have e2 := hc0 2 _ rfl
  have e3 := hc0 3 _ rfl
  have e4 := hc0 4 _ rfl
  have e5 := hc0 5 _ rfl
  have e6 := hc0 6 _ rfl
  simp only [Nat.add_zero] at e0
  have f0 := hD1.frz (i * 7)
  have f1 := hD1.frz (i * 7 + 1)
  have f2 := hD1.frz (i * 7 + 2)
  have f3 := hD1.frz (i * 7 + 3)
  have f4 := hD1.frz (i * 7 + 4)
  have f5 := hD1.frz (i * 7 + 5)
  have f6 := hD1.frz (i * 7 + 6)
  have HD2 := Lib.hid (hD1.set7 HLT.out)
  have HBT : Hid (But (BK a (.slice (some ⟨g, 0, none⟩) n cap) mb) w (gapW W1 g i)) := (show But _ _ _ from gapW_but (P := BK a (.slice (some ⟨g, 0, none⟩) n cap) mb) (g := g) (((But.of_below HB.out).drewN _).grown hG1 (fun j e _ => Or.inr (Or.inr (Option.some.inj e).symm))) (Or.inr (Or.inl rfl)) i)
  rw [HNL.out] at HD2
  go_region
  clear hdel hlk c0 c1 c2 hM1 hG1 hD1 hc0
  obtain ⟨W2, hW2⟩ : ∃ W2, W2 = gapW W1 g i := ⟨_, rfl⟩
  rw [← hW2] at HD2 HBT
  rw [Nat.add_sub_cancel] at HD2
  have hsW := HBT.out.size
  dsimp only [gapW] at hW2
  go_wp2_with fail
  rw [← hW2]
  have hwr : IntKind.i64.wrap (2 * (m : Int)) = 2 * (m : Int) := IntWalk.i64_in _ (by omega)
  have x0 := HD2.out.cell0
  have hlen1 : Hid ((es.set i gap).length = n) := (show _ = _ by rw [List.length_set]; exact HNL.out)
  clear hW2 e0 e1 e2 e3 e4 e5 e6 f0 f1 f2 f3 f4 f5 f6 a1 b0
  by_cases hgt : 2 * m < n
  · have hgt' : 2 * (m : Int) < (n : Int) := by omega
    go_quiet ((go_at_call 25; exact Calls.quiet_of_same (dLen_is (Lib.hid (HD2.out.drewN _)))))
    go_wp2_with (go_at_call 28; refine (dClone_is hL HN HR1 hvk (Lib.hid (HD2.out.drewN _)) (by rw [hlen1.out]; exact hl) hm).mono ?_; rintro e w5 ⟨a2, v2, mb2, es2, f2, rfl, HD5, HR5, HB5, HF5⟩; have hb5 : Below W2.heap.size W2 w5 := (below_dr (Below.refl _ W2) _).trans HB5.out; have hD5 := HD2.out.below hb5; obtain ⟨pa2, cap2, hv2⟩ := slice_form HD5.out.row; subst hv2; have y0 := HD5.out.cell0; have y1 := HD5.out.cell1; have z0 := hD5.cell0; have z1 := hD5.cell1; have zf0 := hD5.frozen 0; have zf1 := hD5.frozen 1)
    go_ret
    have ha := HD2.out.lt
    have HBT5 := HBT.out.trans (.of_below hb5)
    refine ⟨.slice pa2 es2.length cap2, mb2, es2, f2, rfl, (show DS _ _ _ _ _ _ _ from HD5.out.laid hD5.head (fun e => ?_) (fun e => ?_)), (show _ ∧ _ ∧ _ from ⟨HR5.out.1, HR5.out.2.1, by rw [HR5.out.2.2]; omega⟩), (show But _ _ _ from (HBT5.setCell (p := ⟨a, 0, none⟩) (fun _ => Or.inl rfl) _).setCell (p := ⟨a, 1, none⟩) (fun _ => Or.inl rfl) _), (show ∀ j, _ from fun j e => ?_)⟩
    · have h1 : W2.heap.size ≤ a := HF5.out a (Or.inr (Or.inl e))
      omega
    · have h1 : W2.heap.size ≤ mb2 := HF5.out mb2 (Or.inr (Or.inr rfl))
      omega
    · rcases e with e | e | e
      · exact Or.inl (Or.inl e)
      · have h1 : W2.heap.size ≤ j := HF5.out j (Or.inr (Or.inl e))
        exact Or.inr (by omega)
      · have h1 : W2.heap.size ≤ j := HF5.out j (Or.inr (Or.inr e))
        exact Or.inr (by omega)
  · have hgt' : ¬ 2 * (m : Int) < (n : Int) := by omega
    go_quiet ((go_at_call 25; exact Calls.quiet_of_same (dLen_is (Lib.hid (HD2.out.drewN _)))))
    go_wp2_with fail
    go_ret
    refine ⟨rfl, .slice (some ⟨g, 0, none⟩) n cap, mb, es.set i gap, (fun y => if y = k then none else f y), (show DS _ _ _ _ _ _ _ from HD2.out.drewN _), (show _ ∧ _ ∧ _ from ⟨HR1.out, hL.out, by rw [hlen1.out]; omega⟩), HBT.out.drewN _, (show ∀ j, _ from fun j e => Or.inl e)⟩
end Go.Proofs.Ytaghkidelbepnaa
