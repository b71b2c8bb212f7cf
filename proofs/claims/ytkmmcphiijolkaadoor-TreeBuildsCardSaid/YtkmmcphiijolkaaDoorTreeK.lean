/-
  What an iterator tells, as a row, at this program.
-/
import Derived.Test.YtkmmcphiijolkaaDoorTreeS
import Derived.Test.YtkmmcphiijolkaaDoorTreeB
import Derived.Maps.AppendAt
import Derived.Maps.OwnIn
import Derived.RangeFuncBox
set_option linter.unusedVariables false
set_option linter.unusedSimpArgs false
namespace Go.Proofs.YtkmmcphiijolkaaDoor
open Go.RowKit Go.Shelf
open Tr
attribute [local go_sem] Oper.semAt_some

/-- An iterator of numbers, from w on: it tells a row of which Sd speaks, whatever rounds turn from w on. -/
def IterR (F : Fence) (gf : Nat) (lb : Array Value) (S Sd : List Nat → Prop) (w : World) : Prop :=
  ∀ (n : Nat) (Wc : World) (R : World → Nat → Prop), Below w.heap.size w Wc → Dyn R Wc.heap.size → (∀ A k, R A k → w.heap.size ≤ k) → GivesR F n Tryd.prog gf lb (fun x : Nat => #[.int .i64 (x : Int)]) S Sd R Wc
/-- The row in a box, and the box. -/
def RowBox (B : Nat) (A : World) (k : Nat) : Prop := k = B ∨ (B ≤ k ∧ ∃ o n c, A.cell? ⟨B, 0, none⟩ = some (.slice (some ⟨k, o, none⟩) n c))
theorem RowBox.dyn {B C : Nat} (h : B < C) : Dyn (RowBox B) C := fun A A' hb k hk => by
  rcases hk with hk | ⟨h1, o, n, c, hk⟩
  · exact Or.inl hk
  · exact Or.inr ⟨h1, o, n, c, (hb.cell (p := ⟨B, 0, none⟩) h).symm.trans hk⟩
/-- What came so far, in the box's row. -/
def Came (B : Nat) (q : List Nat) (A : World) : Prop := ∃ v, Boxed A B 22 v ∧ A.ownsRow B 3 1 v q.length (q.map fun x : Nat => .int .i64 (x : Int))
theorem Came.lt {B : Nat} {q : List Nat} {A : World} (h : Came B q A) {k : Nat} (hk : RowBox B A k) : k < A.heap.size := by
  obtain ⟨v, hb, hr⟩ := h
  rcases hk with rfl | ⟨h1, o, n, c, hk⟩
  · exact hb.lt
  · rw [hb.cell] at hk
    injection hk with hk
    subst hk
    exact (hr.lt k rfl).2
theorem Came.step {B C : Nat} {q : List Nat} {A A' : World} (h : Came B q A) (hs : Stp (RowBox B) C A A') : Came B q A' := by
  obtain ⟨v, hb, hr⟩ := h
  have h1 : A'.heap[B]? = A.heap[B]? := hs.k B hb.lt (Or.inl rfl)
  refine ⟨v, h1.trans hb, hr.1, ?_⟩
  rcases hr.2 with h2 | ⟨g, cap, cur, rfl, hg, hgb, r⟩
  · exact Or.inl h2
  · exact Or.inr ⟨g, cap, cur, rfl, hg, (hs.k g (Array.getElem?_eq_some_iff.1 hgb).1 (Or.inr ⟨hg, 0, _, _, hb.cell⟩)).trans hgb, r⟩

set_option maxHeartbeats 8000000 in
theorem AppendSeq_in (F : Fence) (hf : Fen F) (n : Nat) (w : World) (gf : Nat) (lb : Array Value) (hgf : F.fn gf) (eg : ∀ args w, (callFunc gf args).run Tryd.prog w = .ok (.enter gf args) w) (S Sd : List Nat → Prop) (hS : ∀ q, S q → q.length ≤ 1000000) (hit : IterR F gf lb S Sd w) :
    CallsIn F n Tryd.prog 35 #[.slice none 0 0, .func (.func gf) #[] lb] w fun e w' => ∃ v xs, Sd xs ∧ e = .returned v ∧ w'.ownsRow w.heap.size 3 1 v xs.length (xs.map fun x : Nat => .int .i64 (x : Int)) ∧ Below w.heap.size w w' := by
  have hd := hf.d
  have hro := hf.r
  obtain ⟨i0, hi, hz0, hz1, hz2⟩ := info_parts infoInt
  obtain ⟨W, hW⟩ : ∃ W, W = w.alloc (.cells #[.slice none 0 0] 22) := ⟨_, rfl⟩
  have hsW : W.heap.size = w.heap.size + 1 := by rw [hW]; simp
  have hbW : Below w.heap.size w W := by rw [hW]; exact (Below.refl _ _).alloc (Nat.le_refl _) _
  have hbox : Boxed W w.heap.size 22 (.slice none 0 0) := by rw [hW]; exact Boxed.new _ _ _
  have hg := hit (n - 1) W (RowBox w.heap.size) hbW (RowBox.dyn (by omega)) (fun A k hk => by rcases hk with rfl | ⟨h, _⟩; exact Nat.le_refl _; exact h)
  have HW := Lib.hid hW
  clear hit hW
  refine callsIn_of_wp_marks Tryd.func35 rfl hf.ap ?_ hro
  simp only [Tryd.ntmps35, List.size_toArray, List.length_cons, List.length_nil, Nat.reduceAdd, Nat.reduceSub, Array.replicate_succ, Array.replicate_zero, List.push_toArray, List.append_toArray, List.nil_append, List.cons_append]
  gi_wp2
  rw [← HW.out]
  refine wpIn_rangeFunc_R hro (depthless hd _) (gf := gf) (lb := lb) rfl hgf eg (R := RowBox w.heap.size) (RowBox.dyn (by omega)) hg (fun _ => rfl)
    (fun q A => Came w.heap.size q A ∧ q.length ≤ 1000000) (fun c q A => False) (fun q A h _ k hk => h.1.lt hk) (fun q A B h hs _ => ⟨h.1.step hs, h.2⟩) (fun c q A B h _ _ => h)
    ⟨⟨_, hbox, World.ownsRow_nil _ _ _ _⟩, Nat.zero_le _⟩
    (fun x => { tmps := #[.slice none 0 0, .func (.func gf) #[] lb, .pointer (some ⟨w.heap.size, 0, none⟩), undef, .slice none 0 0, .int .i64 (x : Int), .func (.func gf) #[] lb, .int .i64 (x : Int), undef, undef, undef, undef, undef], defers := [] })
    ?assign ?body ?done ?stop
  case assign =>
    intro l x W K hK
    gi_wp2
    exact hK
  case body =>
    rintro l2 q k A ⟨⟨v, hb, hr⟩, hlq⟩ hSq hsz
    have hlen := hS _ hSq
    rw [List.length_append, List.length_singleton] at hlen
    have hc := hb.cell
    have hBA : w.heap.size ≤ A.heap.size := by omega
    gi_wp2_with (gi_at_builtin; refine wpListIn_append_own_at _ rfl _ _ 22 rfl w.heap.size 3 i0 (.int .i64 0) 1 8 Tryd.underlying22 hi hz0 hz1 hz2 rfl (by decide) _ _ _ rfl (hr.alloc _) ⟨A.heap.size, 0, none⟩ 1 1 [.int .i64 (k : Int)] rfl rfl (cell_one_new _ _ _) (by simp [Value.oneCell']) (by unfold maxLen; omega) (by omega) (by simp; omega) ?_; intro v' w1 hown' hgrow _ hloc; obtain ⟨g', cap', rfl⟩ := ownsRow_succ hown'; obtain ⟨hv1, hv2, hr2, hk2, hb2⟩ := hb.appended (by decide) hr hBA (Nat.le_refl _) hown' hgrow; have hc1 := hv1.cell; have hf1 := hv1.frozen)
    have hgr : (A.alloc (.cells #[.int .i64 (k : Int)] 3)).grownBy w1 v.ownBlock := hgrow
    have hl2 : some g' = v.ownBlock ∨ some g' = some (A.alloc (.cells #[.int .i64 (k : Int)] 3)).heap.size := hloc
    have hown : ∀ j, v.ownBlock = some j → RowBox w.heap.size A j := fun j hj => by
      refine Or.inr ⟨(hr.lt j hj).1, ?_⟩
      rcases hr.2 with ⟨rfl, _⟩ | ⟨g, cap, cur, rfl, _⟩
      · simp [Value.ownBlock] at hj
      · simp only [Value.ownBlock, Option.some.injEq] at hj
        subst hj
        exact ⟨_, _, _, hc⟩
    refine ⟨⟨hb2.os, hb2.tape, hb2.output, hb2.size, fun j hj hn => ⟨?_, ?_⟩⟩, ⟨⟨_, hv2, by simpa using hr2⟩, by simpa using hlen⟩⟩
    · rw [Below.heap_setCell w1 _ _ j (fun e => hn (Or.inl e)), hgr.block j (by simp; omega) (fun e => hn (hown j e.symm)), Below.heap_alloc A _ j hj]
    · rintro (e | ⟨_, o, n, c, hcell⟩)
      · exact hn (Or.inl e)
      · rw [hv2.cell] at hcell
        injection hcell with hcell
        injection hcell with e1 e2 e3
        injection e1 with e1
        injection e1 with e1
        subst e1
        rcases hl2 with h | h
        · exact hn (hown _ h.symm)
        · simp at h; omega
  case done =>
    rintro q A hSd ⟨hcame, hlq⟩ hcA hK hnD
    obtain ⟨v, hb, hr⟩ := hcame
    have hc := hb.cell
    have hbA : Below w.heap.size w A := hbW.trans (hcA.below (by omega) (fun i hi e => by rcases e with e | ⟨e, _⟩ <;> omega))
    have HR := Lib.hid hr
    have HBA := Lib.hid (hbA.trans (below_putObj A (by omega : w.heap.size ≤ W.heap.size) (.deferred none)))
    clear hg hr hbA hcA hnD hbox
    gi_wp2
    refine ⟨by simp, .inl ⟨_, _, rfl, run_takeDeferred hK, ?_⟩⟩
    exact ⟨_, results_tmp rfl _ _ _, _, _, hSd, rfl, ownsRow_putObj HR.out _ hK rfl, HBA.out⟩
  case stop =>
    rintro c q A h
    exact h.elim

set_option maxHeartbeats 2000000 in
theorem Collect_in (F : Fence) (hf : Fen F) (n : Nat) (w : World) (gf : Nat) (lb : Array Value) (hgf : F.fn gf) (eg : ∀ args w, (callFunc gf args).run Tryd.prog w = .ok (.enter gf args) w) (S Sd : List Nat → Prop) (hS : ∀ q, S q → q.length ≤ 1000000) (hit : IterR F gf lb S Sd w) :
    CallsIn F n Tryd.prog 18 #[.func (.func gf) #[] lb] w fun e w' => ∃ v xs, Sd xs ∧ e = .returned v ∧ w'.ownsRow w.heap.size 3 1 v xs.length (xs.map fun x : Nat => .int .i64 (x : Int)) ∧ Below w.heap.size w w' := by
  have hd := hf.d
  have hro := hf.r
  have hfa := hf.ap
  have hcall := fun m => AppendSeq_in F hf m w gf lb hgf eg S Sd hS hit
  clear hit hS
  refine callsIn_of_wp Tryd.func18 rfl hf.co ?_ hro
  simp only [Tryd.ntmps18, List.size_toArray, List.length_cons, List.length_nil, Nat.reduceAdd, Nat.reduceSub, Array.replicate_succ, Array.replicate_zero, List.push_toArray, List.append_toArray, List.nil_append, List.cons_append]
  gi_wp2_with ((try refine ⟨depthless hd _, ?_⟩); gi_at_call 35; refine (hcall _).mono ?_; clear hcall; rintro e w' ⟨v, xs, hSd, rfl, hr, hb⟩)
  go_ret
  exact ⟨_, _, hSd, rfl, hr, hb⟩
theorem below_iter (F : Fence) (hf : Fen F) (w0 w : World) (tv : Value) (t : List NodeD) (ha : ArgT tv t w0) (hl : t.length ≤ 1000000) (hks : ∀ x ∈ t, x.2.2.2.2.length ≤ maxLen) (node : Int) (b1 b2 : Nat) (hb0 : Below w0.heap.size w0 w) (hb1 : b1 < w.heap.size) (hb2 : b2 < w.heap.size)
    (h1 : w.cell? ⟨b1, 0, none⟩ = some tv) (h2 : w.cell? ⟨b2, 0, none⟩ = some (.int .i64 node)) : IterR F 36 #[.pointer (some ⟨b1, 0, none⟩), .pointer (some ⟨b2, 0, none⟩)] (Few t) (fun xs => xs = belowT t node) w :=
  fun n Wc R hbc hD hR0 => below_gives F hf.d hf.r n hf.b1 hf.b2 hf.k hf.a hf.a1 w0 tv t ha hl hks node b1 b2 R Wc hD (hb0.trans (hbc.mono hb0.size)) (fun A k e => Nat.le_trans hb0.size (hR0 A k e)) (Nat.lt_of_lt_of_le hb1 hbc.size) (Nat.lt_of_lt_of_le hb2 hbc.size)
    (fun e => by have := hR0 _ _ e; omega) ((hbc.cell (p := ⟨b1, 0, none⟩) hb1).trans h1) ((hbc.cell (p := ⟨b2, 0, none⟩) hb2).trans h2)
end Go.Proofs.YtkmmcphiijolkaaDoor
