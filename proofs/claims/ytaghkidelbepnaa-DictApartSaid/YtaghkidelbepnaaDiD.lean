/-
  The reference's dict: a pair is put, at this program.
-/
import Derived.Test.YtaghkidelbepnaaDiC
set_option linter.unusedVariables false
set_option linter.unusedSimpArgs false
namespace Go.Proofs.Ytaghkidelbepnaa
open Go.RowKit
open Di

theorem infoPair : (Try.prog.info? 60).map (fun i => (i.zero, i.size, i.bytes)) = some (some (.agg #[.int .i64 0, .int .i64 0, .string ⟨#[]⟩, .int .i64 0, .int .i64 0, .string ⟨#[]⟩]), 6, 64) := by kernel_rfl
theorem fl_set : ∀ (l : List Pr) (i : Nat) (k y x : V), l[i]? = some (k, y) → (((l.flatMap cP).set (i * 6 + 3) (.int .i64 x.1)).set (i * 6 + 4) (.int .i64 x.2.1)).set (i * 6 + 5) (.string x.2.2) = (l.set i (k, x)).flatMap cP
  | [], i, k, y, x, h => by simp at h
  | p :: l, 0, k, y, x, h => by
    simp only [List.getElem?_cons_zero, Option.some.injEq] at h
    subst h
    rfl
  | p :: l, i + 1, k, y, x, h => by
    have ih := fl_set l i k y x (by simpa using h)
    rw [List.flatMap_cons, List.set_cons_succ, List.flatMap_cons, ← ih]
    have e3 : (i + 1) * 6 + 3 = i * 6 + 3 + 1 + 1 + 1 + 1 + 1 + 1 := by omega
    have e4 : (i + 1) * 6 + 4 = i * 6 + 4 + 1 + 1 + 1 + 1 + 1 + 1 := by omega
    have e5 : (i + 1) * 6 + 5 = i * 6 + 5 + 1 + 1 + 1 + 1 + 1 + 1 := by omega
    rw [e3, e4, e5]
    simp only [cP, List.cons_append, List.nil_append, List.set_cons_succ]
theorem RD.set {w : World} {b g cap : Nat} {l : List Pr} (h : RD w b (.slice (some ⟨g, 0, none⟩) l.length cap) l) {i : Nat} {k y : V} (x : V) (hi : l[i]? = some (k, y)) :
    RD (((w.setCell ⟨g, i * 6 + 3, none⟩ (.int .i64 x.1)).setCell ⟨g, i * 6 + 4, none⟩ (.int .i64 x.2.1)).setCell ⟨g, i * 6 + 5, none⟩ (.string x.2.2)) b (.slice (some ⟨g, 0, none⟩) l.length cap) (l.set i (k, x)) := by
  have hh := h.head
  obtain ⟨hlen, hr⟩ := h.row
  have hlt := (List.getElem?_eq_some_iff.1 hi).1
  rcases hr with ⟨hv, hn⟩ | ⟨g', cap', cur, hv, _, hg, hnc, hcm, hcs, htk⟩
  · simp at hv
  · simp only [Value.slice.injEq, Option.some.injEq, Addr.mk.injEq, and_true, true_and] at hv
    obtain ⟨rfl, rfl⟩ := hv
    have hne : g ≠ b := by rintro rfl; rw [hh] at hg; simp at hg
    have hW : (((w.setCell ⟨g, i * 6 + 3, none⟩ (.int .i64 x.1)).setCell ⟨g, i * 6 + 4, none⟩ (.int .i64 x.2.1)).setCell ⟨g, i * 6 + 5, none⟩ (.string x.2.2)).heap[g]? = some (.cells (((cur.set! (i * 6 + 3) (.int .i64 x.1)).set! (i * 6 + 4) (.int .i64 x.2.1)).set! (i * 6 + 5) (.string x.2.2)) 60) := by
      unfold World.setCell
      simp only [Array.getElem?_modify, if_true, hg, Option.map_some]
      rfl
    refine ⟨?_, by rw [fl_len cP_len], .inr ⟨g, cap, _, by rw [List.length_set], Nat.zero_le _, hW, by rw [List.length_set]; exact hnc, hcm, by simp [hcs], ?_⟩⟩
    · rw [Below.heap_setCell _ _ _ _ (Ne.symm hne), Below.heap_setCell _ _ _ _ (Ne.symm hne), Below.heap_setCell _ _ _ _ (Ne.symm hne)]
      exact hh
    · rw [List.length_set, ← fl_set l i k y x hi, ← htk]
      simp only [Array.set!_eq_setIfInBounds, Array.toList_setIfInBounds, List.take_set]
theorem setX_but {a w : World} {P : Nat → Prop} (h : But P a w) {g : Nat} (hg : P g) (i j k : Nat) (u0 u1 u2 : Value) : But P a (((w.setCell ⟨g, i, none⟩ u0).setCell ⟨g, j, none⟩ u1).setCell ⟨g, k, none⟩ u2) :=
  ((h.setCell (p := ⟨g, i, none⟩) (fun _ => hg) u0).setCell (p := ⟨g, j, none⟩) (fun _ => hg) u1).setCell (p := ⟨g, k, none⟩) (fun _ => hg) u2
theorem But.drewN {P : Nat → Prop} {a w : World} (h : But P a w) (n : Nat) : But P a (w.drewN n) := h.trans ⟨rfl, rfl, rfl, Nat.le_refl _, fun _ _ _ => rfl⟩
theorem RD.frz {w : World} {b g n cap : Nat} {l : List Pr} (h : RD w b (.slice (some ⟨g, 0, none⟩) n cap) l) (j : Nat) : w.frozen? ⟨g, j, none⟩ = false := by
  rcases h.row.2 with ⟨hv, _⟩ | ⟨g', cap', cur, hv, _, hgb, _⟩
  · simp at hv
  · simp only [Value.slice.injEq, Option.some.injEq, Addr.mk.injEq, and_true, true_and] at hv
    obtain ⟨rfl, _⟩ := hv
    exact V_frozen hgb j
theorem RD.own_ne {w : World} {b : Nat} {v : Value} {l : List Pr} (h : RD w b v l) : v.ownBlock ≠ some b := by
  rcases h.row.2 with ⟨rfl, _⟩ | ⟨g', cap', cur, rfl, _, hgb, _⟩
  · simp [Value.ownBlock]
  · intro e
    simp only [Value.ownBlock, Option.some.injEq] at e
    subst e
    rw [h.head] at hgb
    simp at hgb
/-- A pair is appended, in a region that draws its order. -/
theorem step_papp {ops : Array Oper} {o : Oper} {a : Act} {K : Act → World → Prop} {Q : Exit → Act → World → Prop} {E : Prop} (hgd : o.guard = none) (s x : Operand) (ho : o.op = .call { callee := .builtin .append, args := #[s, x], argTypes := #[27, 27] })
    (W : World) (v : Value) (l : List Pr) (hown : W.ownsRow 0 60 6 v l.length (l.flatMap cP)) (n : Nat) (hn : l.length = n) (bl : Nat) (p : Pr) (hbl : W.heap[bl]? = some (.cells #[.int .i64 p.1.1, .int .i64 p.1.2.1, .string p.1.2.2, .int .i64 p.2.1, .int .i64 p.2.2.1, .string p.2.2.2] 60))
    (hs : a.eval s = v) (hx : a.eval x = .slice (some ⟨bl, 0, none⟩) 1 1) (hl : n ≤ 1000000)
    (h : ∀ g cap w', Hid (w'.ownsRow 0 60 6 (.slice (some ⟨g, 0, none⟩) (n + 1) cap) (n + 1) ((l ++ [p]).flatMap cP)) → Hid (W.grownBy w' v.ownBlock) → Hid (v.ownBlock = some g ∨ W.heap.size ≤ g) → Hid (g < w'.heap.size) → K (a.put o.dst (.slice (some ⟨g, 0, none⟩) (n + 1) cap)) w') :
    if Region.wanted o (yielded ops a.tmps) = true then Oper.wp Try.prog o a W K Q else E := by
  obtain ⟨i0, hi, hz0, hz1, hz2⟩ := info_parts infoPair
  subst hn
  refine step_append_lies _ hgd s x 27 ho 0 60 i0 _ 6 64 Try.underlying27 hi hz0 hz1 hz2 rfl (by decide) v l.length _ hs hown ⟨bl, 0, none⟩ 1 1 (cP p) hx rfl ?_ ?_ (by decide) (by unfold maxLen; omega) (by omega) (Nat.zero_le _) _ rfl ?_
  · intro j u hu
    have hc : W.cell? ⟨bl, 0 + j, none⟩ = (cP p)[j]? := by
      simp only [World.cell?, hbl, Nat.zero_add]
      rw [← Array.getElem?_toList]
      rfl
    unfold Addr.add
    split
    · rename_i e; subst e; rw [show (⟨bl, 0, none⟩ : Addr) = ⟨bl, 0 + 0, none⟩ from rfl, hc]; exact hu
    · show W.cell? ⟨bl, 0 + j, none⟩ = _
      rw [hc]; exact hu
  · intro u hu
    simp only [List.mem_cons, List.not_mem_nil, or_false] at hu
    rcases hu with rfl | rfl | rfl | rfl | rfl | rfl <;> rfl
  · intro g cap w' h1 h2 h3 h4
    refine h g cap w' (show World.ownsRow _ _ _ _ _ _ _ from ?_) h2 (show _ ∨ _ from h3.imp id (fun e => by omega)) h4
    rw [List.flatMap_append, List.flatMap_singleton]
    exact h1
theorem RD.app {w2 W w5 : World} {b g n cap : Nat} {v : Value} {l : List Pr} {p : Pr} (h : RD w2 b v l) (hW : Below w2.heap.size w2 W) (hg : W.grownBy w5 v.ownBlock) (hn : l.length = n) (h5 : w5.ownsRow 0 60 6 (.slice (some ⟨g, 0, none⟩) (n + 1) cap) (n + 1) ((l ++ [p]).flatMap cP)) (hl : v.ownBlock = some g ∨ W.heap.size ≤ g) :
    w5.heap[b]? = some (.cells #[v] 29) ∧ g ≠ b ∧ RD (w5.setCell ⟨b, 0, none⟩ (.slice (some ⟨g, 0, none⟩) (n + 1) cap)) b (.slice (some ⟨g, 0, none⟩) (n + 1) cap) (l ++ [p]) := by
  have hb := h.lt
  have hh : w5.heap[b]? = some (.cells #[v] 29) := by
    rw [hg.block b (Nat.lt_of_lt_of_le hb hW.size) (fun e => h.own_ne e.symm), hW.block b hb]
    exact h.head
  have hgb : g ≠ b := by
    rintro rfl
    rcases hl with e | e
    · exact h.own_ne e
    · have := hW.size; omega
  refine ⟨hh, hgb, ?_, ?_⟩
  · unfold World.setCell
    simp only [Array.getElem?_modify, if_true, hh, Option.map_some]
    rfl
  · have hlen : (l ++ [p]).length = n + 1 := by simp [hn]
    rw [hlen]
    refine ⟨h5.1, ?_⟩
    rcases h5.2 with ⟨hv, _⟩ | ⟨g', cap', cur, hv, h0, hgb', rest⟩
    · simp at hv
    · simp only [Value.slice.injEq, Option.some.injEq, Addr.mk.injEq, and_true, true_and] at hv
      obtain ⟨rfl, rfl⟩ := hv
      exact .inr ⟨g, cap, cur, rfl, h0, (Below.heap_setCell w5 _ _ g hgb).trans hgb', rest⟩
/-- What is put, told. -/
def PutEnd (w : World) (b : Nat) (v : Value) (ok : Bool) (l' : List Pr) (e : Ending) (w' : World) : Prop :=
  ∃ v', e = .returned (.bool ok) ∧ Hid (RD w' b v' l') ∧ Hid (But (fun j => j = b ∨ v.ownBlock = some j) w w') ∧ Hid (∀ j, v'.ownBlock = some j → v.ownBlock = some j ∨ w.heap.size ≤ j)
set_option maxHeartbeats 4000000 in
theorem rPut_there {w : World} {b : Nat} {v : Value} {l : List Pr} {k x : V} {i : Nat} (hi : idx l k = some i) (hk : Hid (keyOk k = true)) (H : Hid (RD w b v l)) (hl : l.length ≤ 100000) :
    Calls Try.prog 21 #[.pointer (some ⟨b, 0, none⟩), vV k, vV x] w (PutEnd w b v true (l.set i (k, x))) := by
  obtain ⟨W, hW⟩ : ∃ W, W = (w.alloc (.cells #[.int .i64 k.1, .int .i64 k.2.1, .string k.2.2] 32)).alloc (.cells #[.int .i64 x.1, .int .i64 x.2.1, .string x.2.2] 32) := ⟨_, rfl⟩
  have HB : Hid (Below w.heap.size w W) := (show Below _ _ _ by rw [hW]; exact two_below _ _ _)
  have hbx : W.heap[w.heap.size]? = some (.cells #[.int .i64 k.1, .int .i64 k.2.1, .string k.2.2] 32) := by
    rw [hW]
    show ((w.heap.push _).push _)[_]? = _
    rw [Array.getElem?_push, if_neg (by simp), Array.getElem?_push, if_pos rfl]
  have hby : W.heap[w.heap.size + 1]? = some (.cells #[.int .i64 x.1, .int .i64 x.2.1, .string x.2.2] 32) := by rw [hW]; exact two_heap _ _ _
  have HD := Lib.hid (H.out.below HB.out)
  have HW := Lib.hid hW
  obtain ⟨bx, hbxx⟩ : ∃ bx, w.heap.size = bx := ⟨_, rfl⟩
  rw [hbxx] at hbx hby
  obtain ⟨c0, c1, c2⟩ := V_cells hbx
  have HXX := Lib.hid hbx
  have HBY := Lib.hid hby
  have HBX := Lib.hid hbxx
  have HLT : Hid (bx + 1 < W.heap.size) := (show _ < _ from (Array.getElem?_eq_some_iff.1 hby).1)
  clear hbx hby hW hbxx
  obtain ⟨y, hy⟩ := idx_some hi
  have hat : Hid (atI l k = (i : Int)) := (show _ = _ by unfold atI; rw [hi])
  have hlt : i < l.length := idx_lt hi
  obtain ⟨g, cap, hv, _⟩ := HD.out.pair hy
  subst hv
  obtain ⟨n, hn⟩ : ∃ n, l.length = n := ⟨_, rfl⟩
  have HN := Lib.hid hn
  have HY := Lib.hid hy
  rw [hn] at hlt hl
  clear hi hy hn
  go_enter Try.func21, Try.ntmps21
  go_upto_region 1 with (fail)
  rw [← HW.out, HBX.out]
  go_wp2_with (first
    | (go_at_call 18; refine (rKey_is hk _).mono ?_; rintro e w2 ⟨rfl, HB2⟩; have hD2 := (HD.out.below HB1).below HB2; have e1 := (HB2.block _ (Nat.lt_of_lt_of_le HLT.out HB1.size)).trans ((HB1.block _ HLT.out).trans HBY.out); obtain ⟨d0, d1, d2⟩ := V_cells e1; have a0 := hD2.cell; rw [HN.out] at a0; clear e1)
    | (go_at_call 38; refine (rat_is hat HD (by rw [HN.out]; omega)).mono ?_; rintro e w1 ⟨rfl, HB1⟩; have e1 := (HB1.block _ (Nat.lt_of_succ_lt HLT.out)).trans HXX.out; obtain ⟨b0, b1, b2⟩ := V_cells e1; clear e1))
  obtain ⟨g', cap', hv, hg, p3, p4, p5⟩ := hD2.pair HY.out
  simp only [Value.slice.injEq, Option.some.injEq, Addr.mk.injEq, and_true, true_and] at hv
  obtain ⟨rfl, rfl⟩ := hv
  have HD2 := Lib.hid hD2
  have f3 := HD2.out.frz (i * 6 + 3)
  have f4 := HD2.out.frz (i * 6 + 4)
  have f5 := HD2.out.frz (i * 6 + 5)
  clear hD2 b0 b1 b2 c0 c1 c2
  go_region
  go_wp2_with fail
  go_ret
  refine ⟨_, rfl, (show RD _ _ _ _ from ?_), (show But _ _ _ from ?_), (show ∀ j, _ from fun j hj => Or.inl hj)⟩
  · have h := HD2.out.set x HY.out
    exact ⟨h.head, h.row⟩
  · exact (setX_but (But.of_below ((HB.out.trans (HB1.mono HB.out.size)).trans (HB2.mono (Nat.le_trans HB.out.size HB1.size)))) (g := g) (Or.inr rfl) _ _ _ _ _ _).drewN 1
end Go.Proofs.Ytaghkidelbepnaa
