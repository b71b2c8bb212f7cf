/-
  The program's dict: Keys, at this program.
-/
import Derived.Test.YtaghkidelbepnaaDcE
import Derived.Test.YtaghkidelbepnaaDiX
set_option linter.unusedVariables false
set_option linter.unusedSimpArgs false
namespace Go.Proofs.Ytaghkidelbepnaa
open Go.RowKit Go.Shelf
open Di
attribute [local go_sem] Oper.semAt_some

theorem infoVal2 : (Try.prog.info? 32).map (fun i => (i.zero, i.size, i.bytes)) = some (some (.agg #[.int .i64 0, .int .i64 0, .string ⟨#[]⟩]), 3, 32) := by kernel_rfl
/-- The cells of the keys of some pairs. -/
abbrev cK (l : List Pr) : List Value := (l.map (·.1)).flatMap cV
theorem cK_snoc (q : List Pr) (p : Pr) : cK (q ++ [p]) = cK q ++ cV p.1 := by simp [cK]
/-- The keys that came so far, in the box's row. -/
def Came3 (B bo : Nat) (q : List Pr) (A : World) : Prop := ∃ v, Boxed A bo 49 v ∧ A.ownsRow B 32 3 v q.length (cK q)
theorem Came3.lt {B bo : Nat} {q : List Pr} {A : World} (h : Came3 B bo q A) {k : Nat} (hk : RowBox2 B bo A k) : k < A.heap.size := by
  obtain ⟨v, hb, hr⟩ := h
  rcases hk with rfl | ⟨h1, o, n, c, hk⟩
  · exact hb.lt
  · rw [hb.cell] at hk
    injection hk with hk
    subst hk
    exact (hr.lt k rfl).2
theorem Came3.step {B bo C : Nat} {q : List Pr} {A A' : World} (h : Came3 B bo q A) (hs : Stp (RowBox2 B bo) C A A') : Came3 B bo q A' := by
  obtain ⟨v, hb, hr⟩ := h
  have h1 : A'.heap[bo]? = A.heap[bo]? := hs.k bo hb.lt (Or.inl rfl)
  refine ⟨v, h1.trans hb, hr.1, ?_⟩
  rcases hr.2 with h2 | ⟨g, cap, cur, rfl, hg, hgb, r⟩
  · exact Or.inl h2
  · exact Or.inr ⟨g, cap, cur, rfl, hg, (hs.k g (Array.getElem?_eq_some_iff.1 hgb).1 (Or.inr ⟨hg, 0, _, _, hb.cell⟩)).trans hgb, r⟩
theorem new_val (W : World) (x : V) : ∀ j u, (cV x)[j]? = some u → (W.alloc (.cells #[.int .i64 x.1, .int .i64 x.2.1, .string x.2.2] 32)).cell? ((⟨W.heap.size, 0, none⟩ : Addr).add j) = some u := fun j u hu => by
  rw [add_lit6, Nat.zero_add]
  have h := heap_alloc_new W (.cells #[.int .i64 x.1, .int .i64 x.2.1, .string x.2.2] 32)
  simp only [World.cell?, h]
  rw [← hu, ← Array.getElem?_toList]
  rfl
theorem cV_oneK (x : V) : ∀ u ∈ cV x, u.oneCell' = true := by
  intro u hu
  simp only [List.mem_cons, List.not_mem_nil, or_false] at hu
  rcases hu with rfl | rfl | rfl <;> rfl
set_option maxHeartbeats 8000000 in
set_option maxRecDepth 100000 in
theorem dKeys_is {w : World} {a mb n : Nat} {v : Value} {es : List Ent} {f : V → Option Nat} {L : List Pr} (hL : Hid (live es = L)) (HN : Hid (L.length = n)) (H : Hid (DS w a v mb es f n)) (hl : es.length ≤ 50000) (hn : n ≤ 50000) :
    Calls Try.prog 26 #[ptrV a] w fun e w' => ∃ p c, e = .returned (.slice p n c) ∧ Hid (w'.ownsRow w.heap.size 32 3 (.slice p n c) n (cK L)) ∧ Hid (Below w.heap.size w w') := by
  obtain ⟨i0, hi, hz0, hz1, hz2⟩ := info_parts infoVal2
  obtain ⟨C, hC⟩ : ∃ C, madeCells (#[.int .i64 0, .int .i64 0, .string ⟨#[]⟩] : Array Value) (n * 3) = C := ⟨_, rfl⟩
  have hCs : C.size = n * 3 := by rw [← hC, size_madeCells]
  have hmk : ∀ w, (Instr.makeSlice 49 (.int .i64 0) (.int .i64 (n : Int))).run Try.prog w = .ok (.slice (some ⟨w.heap.size, 0, none⟩) 0 n) (w.alloc (.cells C 32)) := fun w => by
    have := run_make (P := Try.prog) w 49 32 i0 _ Try.underlying49 hi hz0 .i64 .i64 0 (n : Int) (Int.le_refl _) (by omega) (by rw [hz2]; omega) (by omega)
    rw [this, hz1]
    simp only [Int.toNat_zero, Int.toNat_natCast]
    rw [← hC]
    rfl
  obtain ⟨W0, hW0⟩ : ∃ W0, W0 = (w.alloc (.cells C 32)).alloc (.cells #[.slice (some ⟨w.heap.size, 0, none⟩) 0 n] 49) := ⟨_, rfl⟩
  have HW0 := Lib.hid hW0
  have hB0 : Below w.heap.size w W0 := by rw [hW0]; exact two_below _ _ _
  have HB0 := Lib.hid hB0
  have hbox : Boxed W0 (w.heap.size + 1) 49 (.slice (some ⟨w.heap.size, 0, none⟩) 0 n) := by rw [hW0]; exact two_heap _ _ _
  have hown : W0.ownsRow w.heap.size 32 3 (.slice (some ⟨w.heap.size, 0, none⟩) 0 n) 0 [] := by
    refine ⟨rfl, .inr ⟨w.heap.size, n, C, rfl, Nat.le_refl _, ?_, Nat.zero_le _, by unfold maxLen; omega, hCs, rfl⟩⟩
    rw [hW0]
    exact (Below.heap_alloc _ _ _ (by rw [World.size_alloc]; omega)).trans (heap_alloc_new w _)
  have hD0 := H.out.below hB0
  have hmf : ∀ (fn : Fn) (first cap : Array Value) (w : World), (Instr.makeFunc fn first cap).run Try.prog w = .ok (.func fn first cap) w := fun _ _ _ _ => rfl
  obtain ⟨bl, hbl⟩ : ∃ bl, w.heap.size = bl := ⟨_, rfl⟩
  have HBL := Lib.hid hbl
  rw [hbl] at hbox hown
  have hs0 : W0.heap.size = bl + 2 := by rw [hW0]; simp; omega
  obtain ⟨pa, cap, hv⟩ := slice_form hD0.row
  have a0 := hD0.cell0
  rw [hv] at a0
  obtain ⟨m, hm⟩ : ∃ m, es.length = m := ⟨_, rfl⟩
  rw [hm] at a0 hv
  rw [hW0] at a0
  have hmbl := H.out.map.lt
  have hvl := H.out.row_lt
  have HDW := Lib.hid (dLen_is H)
  have hg := each_gives 2 v es hl (RowBox2 bl (bl + 1)) W0 (RowBox2.dyn (by omega)) hD0.row (fun g hg e => by
    have h1 := hvl g hg
    rcases e with e | ⟨e, _⟩ <;> omega)
  rw [hL.out, hv] at hg
  have h0a : a < bl := by rw [← hbl]; exact H.out.lt
  clear hW0 hB0 hbl hC hCs hD0 hm hv
  refine callsIn_wide.1 (callsIn_of_wp_marks (n := 3) Try.func26 rfl trivial ?_ rfl)
  simp only [Try.ntmps26, List.size_toArray, List.length_cons, List.length_nil, Nat.reduceAdd, Nat.reduceSub, Array.replicate_succ, Array.replicate_zero, List.push_toArray, List.append_toArray, List.nil_append, List.cons_append]
  gi_wp2_with fail
  refine ⟨trivial, (callsIn_wide.2 HDW.out).mono ?_⟩
  clear HDW
  rintro e w1 ⟨rfl, hw⟩
  obtain rfl : w = w1 := hw.symm
  clear hw
  gi_wp2_with fail
  rw [← HW0.out, HBL.out]
  refine wpIn_rangeFunc_B rfl (depthless rfl _) (gf := 39) (bd := #[.slice pa m cap]) (lb := #[]) rfl trivial (enters_of Try.func39 (by kernel_rfl) rfl) (R := RowBox2 bl (bl + 1)) (RowBox2.dyn (by omega)) hg (fun _ => rfl)
    (fun q A => Came3 bl (bl + 1) q A ∧ q.length ≤ 50000) (fun c q A => False) (fun q A h _ k hk => h.1.lt hk) (fun q A B h hs _ => ⟨h.1.step hs, h.2⟩) (fun c q A B h _ _ => h)
    ⟨⟨_, hbox, hown⟩, Nat.zero_le _⟩
    (fun p A A' a' => A' = A.alloc (.cells #[.int .i64 p.1.1, .int .i64 p.1.2.1, .string p.1.2.2] 32) ∧ a' = { tmps := #[ptrV a, undef, .slice none 0 0, .pointer (some ⟨bl + 1, 0, none⟩), .pointer (some ⟨A.heap.size, 0, none⟩), ptrV a, .int .i64 (n : Int), .slice (some ⟨bl, 0, none⟩) 0 n, ptrV a, ptrV a, ptrV a, .slice pa m cap, .func (.func 39) #[.slice pa m cap] #[], vV p.1, vV p.2, undef, undef, undef, undef, undef], defers := [] })
    (fun p A A' a' h => by rw [h.1]; exact below_new _ _)
    ?assign ?body ?done ?stop
  case assign =>
    intro l2 pre p A K hI hsz hK
    gi_wp2
    try exact hK _ _ ⟨rfl, rfl⟩
  case body =>
    rintro l2 q p A A' W a' ⟨rfl, rfl⟩ ⟨hc0, hl0⟩ ⟨⟨v, hb, hr⟩, hlq⟩ hS hsz hWs hWk
    have hlen : q.length + 1 ≤ n := by
      have h1 := List.IsPrefix.length_le hS
      rw [List.length_append, List.length_singleton, HN.out] at h1
      exact h1
    have hk1 : W.heap[A.heap.size]? = some (.cells #[.int .i64 p.1.1, .int .i64 p.1.2.1, .string p.1.2.2] 32) := (hWk _ (by omega)).trans (heap_alloc_new _ _)
    obtain ⟨c0, c1, c2⟩ := V_cells hk1
    have hc := hb.cell
    have hbl2 : bl ≤ W.heap.size := by have := hb.lt; omega
    obtain ⟨mm, hmm⟩ : ∃ mm, q.length = mm := ⟨_, rfl⟩
    have HM := Lib.hid hmm
    rw [hmm] at hr hlen
    obtain ⟨u, hu⟩ : ∃ u : V, u = p.1 := ⟨_, rfl⟩
    have HU := Lib.hid hu
    clear hk1 hWk hWs hmm hc0 hl0 hg a0 hbox hown hu
    gi_wp2_with (gi_at_builtin; refine wpListIn_append_own_at _ rfl _ _ 49 rfl bl 32 i0 _ 3 32 Try.underlying49 hi hz0 hz1 hz2 rfl (by decide) _ _ _ rfl (hr.alloc _) ⟨W.heap.size, 0, none⟩ 1 1 (cV p.1) rfl rfl (new_val W p.1) (cV_oneK p.1) (by unfold maxLen; omega) (by omega) (by simp; omega) ?_; intro v' w2 hown' hgrow _ hloc; obtain ⟨g', cap', rfl⟩ := ownsRow_succ hown'; obtain ⟨hv1, hv2, hr2, hk2, hb2⟩ := hb.appended (by decide) hr hbl2 (by omega) hown' hgrow; have hcc := hv1.cell; have hff := hv1.frozen)
    have hgr : (W.alloc (.cells #[.int .i64 p.1.1, .int .i64 p.1.2.1, .string p.1.2.2] 32)).grownBy w2 v.ownBlock := hgrow
    have hl2 : some g' = v.ownBlock ∨ some g' = some (W.alloc (.cells #[.int .i64 p.1.1, .int .i64 p.1.2.1, .string p.1.2.2] 32)).heap.size := hloc
    have hown3 : ∀ j, v.ownBlock = some j → RowBox2 bl (bl + 1) W j := fun j hj => by
      refine Or.inr ⟨(hr.lt j hj).1, ?_⟩
      rcases hr.2 with ⟨rfl, _⟩ | ⟨g, cap, cur, rfl, _⟩
      · simp [Value.ownBlock] at hj
      · simp only [Value.ownBlock, Option.some.injEq] at hj
        subst hj
        exact ⟨_, _, _, hc⟩
    have hr3 : (w2.setCell ⟨bl + 1, 0, none⟩ (.slice (some ⟨g', 0, none⟩) (mm + 1) cap')).ownsRow bl 32 3 (.slice (some ⟨g', 0, none⟩) (mm + 1) cap') (mm + 1) (cK (q ++ [p])) := by
      rw [cK_snoc]
      exact hr2
    have hml : (q ++ [p]).length = mm + 1 := by rw [List.length_append, List.length_singleton, HM.out]
    refine ⟨⟨hb2.os, hb2.tape, hb2.output, hb2.size, fun j hj hn => ⟨?_, ?_⟩⟩, ⟨⟨_, hv2, by rw [hml]; exact hr3⟩, by omega⟩⟩
    · rw [Below.heap_setCell w2 _ _ j (fun e => hn (Or.inl e)), hgr.block j (by simp; omega) (fun e => hn (hown3 j e.symm)), Below.heap_alloc W _ j hj]
    · rintro (e | ⟨_, o, n', c, hcell⟩)
      · exact hn (Or.inl e)
      · rw [hv2.cell] at hcell
        injection hcell with hcell
        injection hcell with e1 e2 e3
        injection e1 with e1
        injection e1 with e1
        subst e1
        rcases hl2 with h | h
        · exact hn (hown3 _ h.symm)
        · simp at h; omega
  case done =>
    rintro q A rfl ⟨hcame, hlq⟩ hcA hK hnD
    obtain ⟨v, hb, hr⟩ := hcame
    rw [HN.out] at hr
    obtain ⟨pv, cv, hv⟩ : ∃ pv cv, v = .slice pv n cv := by
      rcases hr.2 with ⟨rfl, e⟩ | ⟨g, cap, cur, rfl, _⟩
      · exact ⟨none, 0, by rw [e]⟩
      · exact ⟨_, _, rfl⟩
    subst hv
    have hc := hb.cell
    have hbA : Below w.heap.size w A := HB0.out.trans (hcA.below HB0.out.size (fun i hi e => by have := HBL.out; rcases e with e | ⟨e, _⟩ <;> omega))
    have HR := Lib.hid hr
    have HBA := Lib.hid (hbA.trans (below_putObj A (by have := HBL.out; omega : w.heap.size ≤ W0.heap.size) (.deferred none)))
    clear hg hr hbA hcA hnD hbox hown a0
    gi_wp2
    refine ⟨by simp, .inl ⟨_, _, rfl, run_takeDeferred hK, ?_⟩⟩
    exact ⟨_, results_tmp rfl _ _ _, pv, cv, rfl, (show World.ownsRow _ _ _ _ _ _ _ by rw [HBL.out]; exact ownsRow_putObj HR.out _ hK rfl), HBA.out⟩
  case stop =>
    rintro c q A h
    exact h.elim
end Go.Proofs.Ytaghkidelbepnaa
