/-
  The law's pairs, at this program.
-/
import Derived.Test.YtaghkidelbepnaaDiW
import Derived.Test.YtaghkidelbepnaaRangeA
import Derived.OwnWalkIn
import Derived.TacticsInMore
import Derived.RegionIn
import Derived.LoopIn
import Derived.Maps.OwnIn
set_option linter.unusedVariables false
set_option linter.unusedSimpArgs false
namespace Go.Proofs.Ytaghkidelbepnaa
open Go.RowKit Go.Shelf
open Di
attribute [local go_sem] Oper.semAt_some

theorem no_nil2_in (d : Nat) (k : FuncId) (caps : Array Value) (w : World) : (Op.equalIn (d + 1) 57 (.func (.func k) #[] caps) .nilFunc).run Try.prog w = .ok false w := by
  unfold Op.equalIn
  simp [run_underlying, Try.underlying57, go_sem]
theorem no_nil2 (k : FuncId) (caps : Array Value) (w : World) : (binOp .eql 57 (.func (.func k) #[] caps) .nilFunc).run Try.prog w = .ok (.bool false) w := by
  have h := no_nil2_in 9999 k caps w
  have e : Op.equal 57 (.func (.func k) #[] caps) .nilFunc = Op.equalIn (9999 + 1) 57 (.func (.func k) #[] caps) .nilFunc := rfl
  show (do pure (.bool (← Op.equal 57 (.func (.func k) #[] caps) .nilFunc)) : Sem Value).run Try.prog w = _
  rw [e, Sem.run_bind, h]
  rfl
theorem depthless {F : Fence} (hd : F.depth = none) (k : Nat) : F.depth.isSome = true → 1 ≤ k := fun h => by rw [hd] at h; cases h
/-- The row in a box, and the box. -/
def RowBox2 (B bo : Nat) (A : World) (k : Nat) : Prop := k = bo ∨ (B ≤ k ∧ ∃ o n c, A.cell? ⟨bo, 0, none⟩ = some (.slice (some ⟨k, o, none⟩) n c))
theorem RowBox2.dyn {B bo C : Nat} (h : bo < C) : Dyn (RowBox2 B bo) C := fun A A' hb k hk => by
  rcases hk with hk | ⟨h1, o, n, c, hk⟩
  · exact Or.inl hk
  · exact Or.inr ⟨h1, o, n, c, (hb.cell (p := ⟨bo, 0, none⟩) h).symm.trans hk⟩
/-- The pairs that came so far, in the box's row. -/
def Came2 (B bo : Nat) (q : List Pr) (A : World) : Prop := ∃ v, Boxed A bo 27 v ∧ A.ownsRow B 60 6 v q.length (q.flatMap cP)
theorem Came2.lt {B bo : Nat} {q : List Pr} {A : World} (h : Came2 B bo q A) {k : Nat} (hk : RowBox2 B bo A k) : k < A.heap.size := by
  obtain ⟨v, hb, hr⟩ := h
  rcases hk with rfl | ⟨h1, o, n, c, hk⟩
  · exact hb.lt
  · rw [hb.cell] at hk
    injection hk with hk
    subst hk
    exact (hr.lt k rfl).2
theorem Came2.step {B bo C : Nat} {q : List Pr} {A A' : World} (h : Came2 B bo q A) (hs : Stp (RowBox2 B bo) C A A') : Came2 B bo q A' := by
  obtain ⟨v, hb, hr⟩ := h
  have h1 : A'.heap[bo]? = A.heap[bo]? := hs.k bo hb.lt (Or.inl rfl)
  refine ⟨v, h1.trans hb, hr.1, ?_⟩
  rcases hr.2 with h2 | ⟨g, cap, cur, rfl, hg, hgb, r⟩
  · exact Or.inl h2
  · exact Or.inr ⟨g, cap, cur, rfl, hg, (hs.k g (Array.getElem?_eq_some_iff.1 hgb).1 (Or.inr ⟨hg, 0, _, _, hb.cell⟩)).trans hgb, r⟩
theorem new_pair (W : World) (p : Pr) : ∀ j u, (cP p)[j]? = some u → (W.alloc (.cells #[.int .i64 p.1.1, .int .i64 p.1.2.1, .string p.1.2.2, .int .i64 p.2.1, .int .i64 p.2.2.1, .string p.2.2.2] 60)).cell? ((⟨W.heap.size, 0, none⟩ : Addr).add j) = some u := fun j u hu => by
  rw [add_lit6, Nat.zero_add]
  have h := heap_alloc_new W (.cells #[.int .i64 p.1.1, .int .i64 p.1.2.1, .string p.1.2.2, .int .i64 p.2.1, .int .i64 p.2.2.1, .string p.2.2.2] 60)
  simp only [World.cell?, h]
  rw [← hu, ← Array.getElem?_toList]
  rfl
set_option maxHeartbeats 8000000 in
set_option maxRecDepth 100000 in
theorem pairs_in (I : DictI) (F : Fence) (hFw : F = Fence.wide) (hfl : F.fn 30) (hall : F.fn 31) (hgn : ∀ g, F.fn g) (hd : F.depth = none) (hro : F.round = none) (k : Nat) {w : World} {a n : Nat} {l : List Pr} (HN : Hid (l.length = n)) (HD : Hid (I.DR w a l)) (hl : n ≤ 5000) :
    CallsIn F k Try.prog 30 #[ptrV a] w fun e w' => ∃ p c, e = .returned (.slice p n c) ∧ Hid (w'.ownsRow w.heap.size 60 6 (.slice p n c) n (l.flatMap cP)) ∧ Below w.heap.size w w' := by
  have hnn := no_nil2
  obtain ⟨W0, hW0⟩ : ∃ W0, W0 = (w.alloc (.cells #[] 60)).alloc (.cells #[.slice (some ⟨w.heap.size, 0, none⟩) 0 0] 27) := ⟨_, rfl⟩
  have HW0 := Lib.hid hW0
  have hB0 : Below w.heap.size w W0 := by rw [hW0]; exact two_below _ _ _
  have HB0 := Lib.hid hB0
  have HBX : Hid (Boxed W0 (w.heap.size + 1) 27 (.slice (some ⟨w.heap.size, 0, none⟩) 0 0)) := (show _ = _ by rw [hW0]; exact two_heap _ _ _)
  have HOW : Hid (W0.ownsRow w.heap.size 60 6 (.slice (some ⟨w.heap.size, 0, none⟩) 0 0) 0 []) := (show World.ownsRow _ _ _ _ _ _ _ by rw [hW0]; exact (World.ownsRow_lit (e := 60) (size := 6) (base := w.heap.size) w #[] 0 (Nat.le_refl _) (Nat.zero_le _) rfl).alloc _)
  have HD0 : Hid (I.DR W0 a l) := (I.kept HD.out hB0.size (fun j hj => hB0.block j (I.lt HD.out hj))).1
  have HALL : Hid (∀ m, CallsIn F m Try.prog 31 #[ptrV a] W0 fun e w' => ∃ (gf : Nat) (lb : Array Value) (G : Nat → Prop), e = .returned (.func (.func gf) #[] lb) ∧ Hid (Enters Try.prog gf) ∧ Hid (Below W0.heap.size W0 w') ∧ Hid (∀ k, G k → W0.heap.size ≤ k ∧ k < w'.heap.size) ∧
    Hid (∀ (n : Nat) (Wc : World) (l' : List Pr) (R : World → Nat → Prop), w'.heap.size ≤ Wc.heap.size → (∀ k, G k → Wc.heap[k]? = w'.heap[k]?) → I.DR Wc a l' → l'.length ≤ 5000 → Dyn R Wc.heap.size → (∀ k, G k → ¬ R Wc k) →
      GivesR Fence.wide n Try.prog gf lb (fun p : Pr => #[vV p.1, vV p.2]) (fun q => q <+: l') (fun q => q = l') R Wc)) := (show ∀ m, _ from fun m => by
    rw [hFw]
    exact callsIn_wide.2 (I.all_ HD0 (by rw [HN.out]; exact hl)))
  obtain ⟨bl, hbl⟩ : ∃ bl, w.heap.size = bl := ⟨_, rfl⟩
  have HBL := Lib.hid hbl
  rw [hbl] at HBX HOW
  have HFW := Lib.hid hFw
  clear hW0 hB0 hbl hFw
  refine callsIn_of_wp_marks Try.func30 rfl hfl ?_ hro
  simp only [Try.ntmps30, List.size_toArray, List.length_cons, List.length_nil, Nat.reduceAdd, Nat.reduceSub, Array.replicate_succ, Array.replicate_zero, List.push_toArray, List.append_toArray, List.nil_append, List.cons_append]
  gi_wp2
  rw [← HW0.out, HBL.out]
  gi_wp2_with ((try refine ⟨depthless hd _, ?_⟩); gi_at_call 31; refine (HALL.out _).mono ?_; rintro e w1 ⟨gf, lb, G, rfl, HE, HB1, HG, HIT⟩)
  obtain ⟨i0, hi, hz0, hz1, hz2⟩ := info_parts infoPair
  have hs0 : W0.heap.size = bl + 2 := by rw [HW0.out]; simp; have := HBL.out; omega
  have hs1 : bl + 2 ≤ w1.heap.size := by have := HB1.out.size; omega
  have hbox : Boxed w1 (bl + 1) 27 (.slice (some ⟨bl, 0, none⟩) 0 0) := (HB1.out.block _ (by omega)).trans HBX.out
  have hown : w1.ownsRow bl 60 6 (.slice (some ⟨bl, 0, none⟩) 0 0) 0 [] := by
    refine ⟨rfl, ?_⟩
    rcases HOW.out.2 with ⟨hv, _⟩ | ⟨g, cap, cur, hv, hbg, hg, rest⟩
    · simp at hv
    · exact .inr ⟨g, cap, cur, hv, hbg, (HB1.out.block g (Array.getElem?_eq_some_iff.1 hg).1).trans hg, rest⟩
  have hD1 : I.DR w1 a l := (I.kept HD0.out HB1.out.size (fun j hj => HB1.out.block j (I.lt HD0.out hj))).1
  have hnG : ∀ k, G k → ¬ RowBox2 bl (bl + 1) w1 k := fun k hk e => by
    have h1 := (HG.out k hk).1
    rcases e with e | ⟨_, o, m, c, e⟩
    · omega
    · rw [hbox.cell] at e
      simp only [Option.some.injEq, Value.slice.injEq, Addr.mk.injEq] at e
      omega
  have hg : GivesR F (k - 1) Try.prog gf lb (fun p : Pr => #[vV p.1, vV p.2]) (fun q => q <+: l) (fun q => q = l) (RowBox2 bl (bl + 1)) w1 := by
    rw [HFW.out]
    exact HIT.out (k - 1) w1 l _ (Nat.le_refl _) (fun _ _ => rfl) hD1 (by rw [HN.out]; exact hl) (RowBox2.dyn (by omega)) hnG
  clear HIT HALL hnn hD1 hnG HOW HBX
  refine wpIn_rangeFunc_A hro (depthless hd _) (gf := gf) (lb := lb) rfl (hgn gf) HE.out (R := RowBox2 bl (bl + 1)) (RowBox2.dyn (by omega)) hg (fun _ => rfl)
    (fun q A => Came2 bl (bl + 1) q A ∧ q.length ≤ 5000) (fun c q A => False) (fun q A h _ k hk => h.1.lt hk) (fun q A B h hs _ => ⟨h.1.step hs, h.2⟩) (fun c q A B h _ _ => h)
    ⟨⟨_, hbox, hown⟩, Nat.zero_le _⟩
    (fun p A A' a' => A' = (A.alloc (.cells #[.int .i64 p.1.1, .int .i64 p.1.2.1, .string p.1.2.2] 32)).alloc (.cells #[.int .i64 p.2.1, .int .i64 p.2.2.1, .string p.2.2.2] 32) ∧ a' = { tmps := #[ptrV a, undef, .slice none 0 0, .pointer (some ⟨bl + 1, 0, none⟩), .func (.func gf) #[] lb, .pointer (some ⟨A.heap.size, 0, none⟩), .pointer (some ⟨A.heap.size + 1, 0, none⟩), .slice (some ⟨bl, 0, none⟩) 0 0, ptrV a, .func (.func gf) #[] lb, .func (.func gf) #[] lb, .bool false, .func (.func gf) #[] lb, vV p.1, vV p.2, undef, undef, undef, undef, undef, undef, undef], defers := [] })
    (fun p A A' a' h => by rw [h.1]; exact two_below _ _ _)
    ?assign ?body ?done ?stop
  case assign =>
    intro l2 pre p A K hI hsz hK
    gi_wp2
    try exact hK _ _ ⟨rfl, rfl⟩
  case body =>
    rintro l2 q p A A' W a' ⟨rfl, rfl⟩ ⟨hc0, hl0⟩ ⟨⟨v, hb, hr⟩, hlq⟩ hS hsz hWs hWk
    have hlen : q.length + 1 ≤ n := by
      have h1 := List.IsPrefix.length_le hS
      rw [List.length_append, List.length_singleton, HN.out] at h1
      exact h1
    have hk1 : W.heap[A.heap.size]? = some (.cells #[.int .i64 p.1.1, .int .i64 p.1.2.1, .string p.1.2.2] 32) := (hWk _ (by omega)).trans (two_first _ _ _)
    have hk2 : W.heap[A.heap.size + 1]? = some (.cells #[.int .i64 p.2.1, .int .i64 p.2.2.1, .string p.2.2.2] 32) := (hWk _ (by omega)).trans (two_heap _ _ _)
    obtain ⟨c0, c1, c2⟩ := V_cells hk1
    obtain ⟨d0, d1, d2⟩ := V_cells hk2
    have hc := hb.cell
    have hbl2 : bl ≤ W.heap.size := by have := hb.lt; omega
    obtain ⟨m, hm⟩ : ∃ m, q.length = m := ⟨_, rfl⟩
    have HM := Lib.hid hm
    rw [hm] at hr hlen
    clear hk1 hk2 hWk hWs hm hc0 hl0 hg
    gi_wp2_with (gi_at_builtin; refine wpListIn_append_own_at _ rfl _ _ 27 rfl bl 60 i0 _ 6 64 Try.underlying27 hi hz0 hz1 hz2 rfl (by decide) _ _ _ rfl (hr.alloc _) ⟨W.heap.size, 0, none⟩ 1 1 (cP p) rfl rfl (new_pair W p) (fun u hu => cP_one [p] u (by simpa using hu)) (by unfold maxLen; omega) (by omega) (by simp; omega) ?_; intro v' w2 hown' hgrow _ hloc; obtain ⟨g', cap', rfl⟩ := ownsRow_succ hown'; obtain ⟨hv1, hv2, hr2, hk2, hb2⟩ := hb.appended (by decide) hr hbl2 (by omega) hown' hgrow; have hcc := hv1.cell; have hff := hv1.frozen)
    have hgr : (W.alloc (.cells #[.int .i64 p.1.1, .int .i64 p.1.2.1, .string p.1.2.2, .int .i64 p.2.1, .int .i64 p.2.2.1, .string p.2.2.2] 60)).grownBy w2 v.ownBlock := hgrow
    have hl2 : some g' = v.ownBlock ∨ some g' = some (W.alloc (.cells #[.int .i64 p.1.1, .int .i64 p.1.2.1, .string p.1.2.2, .int .i64 p.2.1, .int .i64 p.2.2.1, .string p.2.2.2] 60)).heap.size := hloc
    have hown3 : ∀ j, v.ownBlock = some j → RowBox2 bl (bl + 1) W j := fun j hj => by
      refine Or.inr ⟨(hr.lt j hj).1, ?_⟩
      rcases hr.2 with ⟨rfl, _⟩ | ⟨g, cap, cur, rfl, _⟩
      · simp [Value.ownBlock] at hj
      · simp only [Value.ownBlock, Option.some.injEq] at hj
        subst hj
        exact ⟨_, _, _, hc⟩
    have hrr : w2.ownsRow bl 60 6 (.slice (some ⟨g', 0, none⟩) (m + 1) cap') (m + 1) ((q ++ [p]).flatMap cP) := by
      have := hown'
      rw [List.flatMap_append, List.flatMap_singleton]
      exact this
    have hr3 : (w2.setCell ⟨bl + 1, 0, none⟩ (.slice (some ⟨g', 0, none⟩) (m + 1) cap')).ownsRow bl 60 6 (.slice (some ⟨g', 0, none⟩) (m + 1) cap') (m + 1) ((q ++ [p]).flatMap cP) := by
      rw [List.flatMap_append, List.flatMap_singleton]
      exact hr2
    have hml : (q ++ [p]).length = m + 1 := by rw [List.length_append, List.length_singleton, HM.out]
    refine ⟨⟨hb2.os, hb2.tape, hb2.output, hb2.size, fun j hj hn => ⟨?_, ?_⟩⟩, ⟨⟨_, hv2, by rw [hml]; exact hr3⟩, by omega⟩⟩
    · rw [Below.heap_setCell w2 _ _ j (fun e => hn (Or.inl e)), hgr.block j (by simp; omega) (fun e => hn (hown3 j e.symm)), Below.heap_alloc W _ j hj]
    · rintro (e | ⟨_, o, n', c, hcell⟩)
      · exact hn (Or.inl e)
      · rw [hv2.cell] at hcell
        injection hcell with hcell
        injection hcell with e1 e2 e3
        injection e1 with e1
        injection e1 with e1
        subst e1
        rcases hl2 with h | h
        · exact hn (hown3 _ h.symm)
        · simp at h; omega
  case done =>
    rintro q A rfl ⟨hcame, hlq⟩ hcA hK hnD
    obtain ⟨v, hb, hr⟩ := hcame
    rw [HN.out] at hr
    obtain ⟨pv, cv, hv, _⟩ : ∃ pv cv, v = .slice pv n cv ∧ True := by
      rcases hr.2 with ⟨rfl, e⟩ | ⟨g, cap, cur, rfl, _⟩
      · exact ⟨none, 0, by rw [e], trivial⟩
      · exact ⟨_, _, rfl, trivial⟩
    subst hv
    have hc := hb.cell
    have hbw : Below w.heap.size w w1 := HB0.out.trans (HB1.out.mono HB0.out.size)
    have hbA : Below w.heap.size w A := hbw.trans (hcA.below hbw.size (fun i hi e => by have := HBL.out; rcases e with e | ⟨e, _⟩ <;> omega))
    have HR := Lib.hid hr
    have HBA := Lib.hid (hbA.trans (below_putObj A (by have := HBL.out; omega : w.heap.size ≤ w1.heap.size) (.deferred none)))
    clear hg hr hbA hcA hnD hbox hbw
    gi_wp2
    refine ⟨by simp, .inl ⟨_, _, rfl, run_takeDeferred hK, ?_⟩⟩
    exact ⟨_, results_tmp rfl _ _ _, pv, cv, rfl, (show World.ownsRow _ _ _ _ _ _ _ by rw [HBL.out]; exact ownsRow_putObj HR.out _ hK rfl), HBA.out⟩
  case stop =>
    rintro c q A h
    exact h.elim
theorem pairs_is (I : DictI) {w : World} {a n : Nat} {l : List Pr} (HN : Hid (l.length = n)) (HD : Hid (I.DR w a l)) (hl : n ≤ 5000) :
    Calls Try.prog 30 #[ptrV a] w fun e w' => ∃ p c, e = .returned (.slice p n c) ∧ Hid (w'.ownsRow w.heap.size 60 6 (.slice p n c) n (l.flatMap cP)) ∧ Below w.heap.size w w' :=
  (callsIn_wide (n := 3)).1 (pairs_in I Fence.wide rfl trivial trivial (fun _ => trivial) rfl rfl 3 HN HD hl)
end Go.Proofs.Ytaghkidelbepnaa
