/-
  The law's fit, row, at this program.
-/
import Derived.Test.YtaghkidelbepnaaDiS
set_option linter.unusedVariables false
set_option linter.unusedSimpArgs false
namespace Go.Proofs.Ytaghkidelbepnaa
open Go.RowKit
open Di

abbrev cC (c : Cl) : List Value := [.int .i64 c.1, .int .i64 c.2.1.1, .int .i64 c.2.1.2.1, .string c.2.1.2.2, .int .i64 c.2.2.1.1, .int .i64 c.2.2.1.2.1, .string c.2.2.1.2.2, .bool c.2.2.2]
abbrev vC (c : Cl) : Value := .agg #[.int .i64 c.1, .int .i64 c.2.1.1, .int .i64 c.2.1.2.1, .string c.2.1.2.2, .int .i64 c.2.2.1.1, .int .i64 c.2.2.1.2.1, .string c.2.2.1.2.2, .bool c.2.2.2]
theorem ret_C {R : Ending → World → Prop} {fn : Func} {k : Nat} (hf : fn.results = #[.cell k 34]) (tmps : Array Value) (w : World) (b : Nat) (x0 x1 x2 x3 x4 x5 x6 x7 : Value) (fr : Nat × Nat) (hp : tmps[k]? = some (.pointer (some ⟨b, 0, none⟩))) (hb : w.heap[b]? = some (.cells #[x0, x1, x2, x3, x4, x5, x6, x7] 34 fr)) (h : R (.returned (.agg #[x0, x1, x2, x3, x4, x5, x6, x7])) w) :
    bodyPost Try.prog fn R Exit.ret { tmps := tmps, defers := [] } w := by
  have h0 : w.cell? ⟨b, 0, none⟩ = some x0 := by simp [World.cell?, hb]
  have h1 : w.cell? ⟨b, 1, none⟩ = some x1 := by simp [World.cell?, hb]
  have h2 : w.cell? ⟨b, 2, none⟩ = some x2 := by simp [World.cell?, hb]
  have h3 : w.cell? ⟨b, 3, none⟩ = some x3 := by simp [World.cell?, hb]
  have h4 : w.cell? ⟨b, 4, none⟩ = some x4 := by simp [World.cell?, hb]
  have h5 : w.cell? ⟨b, 5, none⟩ = some x5 := by simp [World.cell?, hb]
  have h6 : w.cell? ⟨b, 6, none⟩ = some x6 := by simp [World.cell?, hb]
  have h7 : w.cell? ⟨b, 7, none⟩ = some x7 := by simp [World.cell?, hb]
  refine ⟨rfl, .agg #[x0, x1, x2, x3, x4, x5, x6, x7], ?_, h⟩
  simp [results, hf, hp, go_sem, h0, h1, h2, h3, h4, h5, h6, h7]
theorem C_store {w : World} {b : Nat} {x0 x1 x2 x3 x4 x5 x6 x7 u1 u2 u3 : Value} {t : TypeId} (h : w.heap[b]? = some (.cells #[x0, x1, x2, x3, x4, x5, x6, x7] t)) : (((w.setCell ⟨b, 1, none⟩ u1).setCell ⟨b, 2, none⟩ u2).setCell ⟨b, 3, none⟩ u3).heap[b]? = some (.cells #[x0, u1, u2, u3, x4, x5, x6, x7] t) := by
  unfold World.setCell
  simp only [Array.getElem?_modify, if_true, h, Option.map_some]
  rfl
theorem set_at {w : World} {b : Nat} {cs : Array Value} {t : TypeId} (h : w.heap[b]? = some (.cells cs t)) (i : Nat) (u : Value) : (w.setCell ⟨b, i, none⟩ u).heap[b]? = some (.cells (cs.set! i u) t) := by
  unfold World.setCell
  simp only [Array.getElem?_modify, if_true, h, Option.map_some]
  rfl
theorem C_put {w : World} {b : Nat} {x0 x1 x2 x3 x4 x5 x6 x7 u0 u1 u2 u3 u4 u5 u6 u7 : Value} {t : TypeId} (h : w.heap[b]? = some (.cells #[x0, x1, x2, x3, x4, x5, x6, x7] t)) : ((((((((w.setCell ⟨b, 0, none⟩ u0).setCell ⟨b, 1, none⟩ u1).setCell ⟨b, 2, none⟩ u2).setCell ⟨b, 3, none⟩ u3).setCell ⟨b, 4, none⟩ u4).setCell ⟨b, 5, none⟩ u5).setCell ⟨b, 6, none⟩ u6).setCell ⟨b, 7, none⟩ u7).heap[b]? = some (.cells #[u0, u1, u2, u3, u4, u5, u6, u7] t) := by
  have h1 := set_at (set_at (set_at (set_at (set_at (set_at (set_at (set_at h 0 u0) 1 u1) 2 u2) 3 u3) 4 u4) 5 u5) 6 u6) 7 u7
  simpa using h1
theorem C_cells {w : World} {b : Nat} {x0 x1 x2 x3 x4 x5 x6 x7 : Value} {t : TypeId} (h : w.heap[b]? = some (.cells #[x0, x1, x2, x3, x4, x5, x6, x7] t)) : w.cell? ⟨b, 0, none⟩ = some x0 ∧ w.cell? ⟨b, 1, none⟩ = some x1 ∧ w.cell? ⟨b, 2, none⟩ = some x2 ∧ w.cell? ⟨b, 3, none⟩ = some x3 ∧ w.cell? ⟨b, 4, none⟩ = some x4 ∧ w.cell? ⟨b, 5, none⟩ = some x5 ∧ w.cell? ⟨b, 6, none⟩ = some x6 ∧ w.cell? ⟨b, 7, none⟩ = some x7 := by
  refine ⟨?_, ?_, ?_, ?_, ?_, ?_, ?_, ?_⟩ <;> simp [World.cell?, h]
theorem set8_below {B : Nat} {a w : World} (h : Below B a w) {b : Nat} (hb : B ≤ b) (u0 u1 u2 u3 u4 u5 u6 u7 : Value) : Below B a ((((((((w.setCell ⟨b, 0, none⟩ u0).setCell ⟨b, 1, none⟩ u1).setCell ⟨b, 2, none⟩ u2).setCell ⟨b, 3, none⟩ u3).setCell ⟨b, 4, none⟩ u4).setCell ⟨b, 5, none⟩ u5).setCell ⟨b, 6, none⟩ u6).setCell ⟨b, 7, none⟩ u7) :=
  (((((((h.setCell (p := ⟨b, 0, none⟩) hb u0).setCell (p := ⟨b, 1, none⟩) hb u1).setCell (p := ⟨b, 2, none⟩) hb u2).setCell (p := ⟨b, 3, none⟩) hb u3).setCell (p := ⟨b, 4, none⟩) hb u4).setCell (p := ⟨b, 5, none⟩) hb u5).setCell (p := ⟨b, 6, none⟩) hb u6).setCell (p := ⟨b, 7, none⟩) hb u7
theorem set1_below {B : Nat} {a w : World} (h : Below B a w) {b : Nat} (hb : B ≤ b) (u0 u1 u2 : Value) : Below B a (((w.setCell ⟨b, 1, none⟩ u0).setCell ⟨b, 2, none⟩ u1).setCell ⟨b, 3, none⟩ u2) :=
  ((h.setCell (p := ⟨b, 1, none⟩) hb u0).setCell (p := ⟨b, 2, none⟩) hb u1).setCell (p := ⟨b, 3, none⟩) hb u2
theorem bel_then {a b c : World} {B : Nat} (h : Below B a b) (k : Below b.heap.size b c) (hB : B ≤ a.heap.size := by omega) : Below B a c := h.trans (k.mono (Nat.le_trans hB h.size))
theorem two_first (w : World) (o1 o2 : Obj) : ((w.alloc o1).alloc o2).heap[w.heap.size]? = some o1 := by
  show ((w.heap.push _).push _)[_]? = _
  rw [Array.getElem?_push, if_neg (by simp), Array.getElem?_push, if_pos rfl]
theorem fit_end {w1 : World} {bx : Nat} {y0 y1 y2 y3 y4 y5 y6 y7 f1 f2 f3 u0 u1 u2 u3 u4 u5 u6 u7 : Value} {t : TypeId} (h : w1.heap[bx + 1]? = some (.cells #[y0, y1, y2, y3, y4, y5, y6, y7] t)) :
    (((((((((((w1.setCell ⟨bx, 1, none⟩ f1).setCell ⟨bx, 2, none⟩ f2).setCell ⟨bx, 3, none⟩ f3).setCell ⟨bx + 1, 0, none⟩ u0).setCell ⟨bx + 1, 1, none⟩ u1).setCell ⟨bx + 1, 2, none⟩ u2).setCell ⟨bx + 1, 3, none⟩ u3).setCell ⟨bx + 1, 4, none⟩ u4).setCell ⟨bx + 1, 5, none⟩ u5).setCell ⟨bx + 1, 6, none⟩ u6).setCell ⟨bx + 1, 7, none⟩ u7).heap[bx + 1]? = some (.cells #[u0, u1, u2, u3, u4, u5, u6, u7] t) := by
  have e : ∀ (w : World) (i : Nat) (u : Value), (w.setCell ⟨bx, i, none⟩ u).heap[bx + 1]? = w.heap[bx + 1]? := fun w i u => Below.heap_setCell _ _ _ _ (show bx + 1 ≠ bx by omega)
  have h1 : (((w1.setCell ⟨bx, 1, none⟩ f1).setCell ⟨bx, 2, none⟩ f2).setCell ⟨bx, 3, none⟩ f3).heap[bx + 1]? = some (.cells #[y0, y1, y2, y3, y4, y5, y6, y7] t) := by
    rw [e, e, e]; exact h
  exact C_put h1
set_option maxHeartbeats 4000000 in
theorem fit_is {c r : Cl} (hr : Hid (fit c = r)) (hs : c.2.1.2.2.size ≤ 140737488355328) (w : World) : Calls Try.prog 15 #[vC c] w fun e w' => e = .returned (vC r) ∧ Below w.heap.size w w' := by
  obtain ⟨q, ⟨k, n, s⟩, ⟨xk, xn, xs⟩, raw⟩ := c
  simp only at hs
  show Calls Try.prog 15 #[.agg #[.int .i64 q, .int .i64 k, .int .i64 n, .string s, .int .i64 xk, .int .i64 xn, .string xs, .bool raw]] w _
  obtain ⟨t, ht⟩ : ∃ t, cut12 s = t := ⟨_, rfl⟩
  cases raw with
  | true =>
    have HR : Hid (r = (q, (k, n, t), (xk, xn, xs), true)) := (show _ = _ by rw [← hr.out]; unfold fit; simp only [ht, if_true])
    rw [HR.out]
    clear hr
    unfold cut12 at ht
    by_cases h : s.size ≤ 12
    · rw [if_pos h] at ht
      subst ht
      go_enter Try.func15, Try.ntmps15
      go_wp2_with fail
      exact ret_C rfl _ _ (w.heap.size + 1) _ _ _ _ _ _ _ _ _ rfl (two_heap _ _ _) ⟨rfl, two_below _ _ _⟩
    · rw [if_neg h] at ht
      subst ht
      go_enter Try.func15, Try.ntmps15
      go_wp2_with fail
      exact ret_C rfl _ _ (w.heap.size + 1) _ _ _ _ _ _ _ _ _ rfl (two_heap _ _ _) ⟨rfl, two_below _ _ _⟩
  | false =>
    obtain ⟨f, hf⟩ := hid_ex (fitK (k, n, t))
    have HR : Hid (r = (q, f, (xk, xn, xs), false)) := (show _ = _ by rw [← hr.out]; unfold fit; simp only [ht, Bool.false_eq_true, if_false, hf.out])
    rw [HR.out]
    clear hr
    unfold cut12 at ht
    have HW : ∀ o1 o2 : Obj, Hid (Below w.heap.size w ((w.alloc o1).alloc o2)) := fun o1 o2 => two_below _ _ _
    by_cases h : s.size ≤ 12
    · rw [if_pos h] at ht
      subst ht
      have HT1 := Lib.hid (two_first w (.cells #[.int .i64 q, .int .i64 k, .int .i64 n, .string s, .int .i64 xk, .int .i64 xn, .string xs, .bool false] 34) (.cells #[.int .i64 0, .int .i64 0, .int .i64 0, .string ⟨#[]⟩, .int .i64 0, .int .i64 0, .string ⟨#[]⟩, .bool false] 34))
      have HT2 := Lib.hid (two_heap w (.cells #[.int .i64 q, .int .i64 k, .int .i64 n, .string s, .int .i64 xk, .int .i64 xn, .string xs, .bool false] 34) (.cells #[.int .i64 0, .int .i64 0, .int .i64 0, .string ⟨#[]⟩, .int .i64 0, .int .i64 0, .string ⟨#[]⟩, .bool false] 34))
      go_enter Try.func15, Try.ntmps15
      go_wp2_with (go_at_call 24; refine (rFit_is hf _).mono ?_; rintro e w1 ⟨rfl, HB1⟩; have e1 := (HB1.block w.heap.size (by simp; omega)).trans HT1.out; have e2 := (HB1.block (w.heap.size + 1) (by simp)).trans HT2.out; have HE1 := Lib.hid e1; have HE2 := Lib.hid e2; obtain ⟨a0, a1, a2, a3, a4, a5, a6, a7⟩ := C_cells e1; obtain ⟨b0, b1, b2, b3, b4, b5, b6, b7⟩ := C_cells e2; have fa := fun i => V_frozen e1 i; have fb := fun i => V_frozen e2 i; clear e1 e2)
      refine ret_C rfl _ _ (w.heap.size + 1) (.int .i64 q) (.int .i64 f.1) (.int .i64 f.2.1) (.string f.2.2) (.int .i64 xk) (.int .i64 xn) (.string xs) (.bool false) _ rfl (fit_end HE2.out) ⟨rfl, ?_⟩
      exact set8_below (set1_below (bel_then (two_below _ _ _) HB1) (Nat.le_refl _) _ _ _) (by omega) _ _ _ _ _ _ _ _
    · rw [if_neg h] at ht
      have HT1 := Lib.hid (two_first w (.cells #[.int .i64 q, .int .i64 k, .int .i64 n, .string t, .int .i64 xk, .int .i64 xn, .string xs, .bool false] 34) (.cells #[.int .i64 0, .int .i64 0, .int .i64 0, .string ⟨#[]⟩, .int .i64 0, .int .i64 0, .string ⟨#[]⟩, .bool false] 34))
      have HT2 := Lib.hid (two_heap w (.cells #[.int .i64 q, .int .i64 k, .int .i64 n, .string t, .int .i64 xk, .int .i64 xn, .string xs, .bool false] 34) (.cells #[.int .i64 0, .int .i64 0, .int .i64 0, .string ⟨#[]⟩, .int .i64 0, .int .i64 0, .string ⟨#[]⟩, .bool false] 34))
      go_enter Try.func15, Try.ntmps15
      go_wp2_with (go_at_call 24; refine (rFit_is hf _).mono ?_; rintro e w1 ⟨rfl, HB1⟩; have e1 := (HB1.block w.heap.size (by simp; omega)).trans HT1.out; have e2 := (HB1.block (w.heap.size + 1) (by simp)).trans HT2.out; have HE1 := Lib.hid e1; have HE2 := Lib.hid e2; obtain ⟨a0, a1, a2, a3, a4, a5, a6, a7⟩ := C_cells e1; obtain ⟨b0, b1, b2, b3, b4, b5, b6, b7⟩ := C_cells e2; have fa := fun i => V_frozen e1 i; have fb := fun i => V_frozen e2 i; clear e1 e2)
      refine ret_C rfl _ _ (w.heap.size + 1) (.int .i64 q) (.int .i64 f.1) (.int .i64 f.2.1) (.string f.2.2) (.int .i64 xk) (.int .i64 xn) (.string xs) (.bool false) _ rfl (fit_end HE2.out) ⟨rfl, ?_⟩
      exact set8_below (set1_below (bel_then (two_below _ _ _) HB1) (Nat.le_refl _) _ _ _) (by omega) _ _ _ _ _ _ _ _
end Go.Proofs.Ytaghkidelbepnaa
