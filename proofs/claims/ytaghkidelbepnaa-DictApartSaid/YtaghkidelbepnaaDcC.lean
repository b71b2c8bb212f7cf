/-
  The program's dict: Clone, at this program.
-/
import Derived.Test.YtaghkidelbepnaaDcX
set_option linter.unusedVariables false
set_option linter.unusedSimpArgs false
namespace Go.Proofs.Ytaghkidelbepnaa
open Go.RowKit Go.Shelf
open Di
attribute [local go_sem] Oper.semAt_some

/-- The blocks of the dict at a, as they stand. -/
def FD (A : World) (a k : Nat) : Prop := k = a ∨ ∃ v m, A.heap[a]? = some (.cells #[v, .map (some m)] 73) ∧ (v.ownBlock = some k ∨ k = m)
theorem DS.fd {w : World} {a mb n : Nat} {v : Value} {es : List Ent} {f : V → Option Nat} (h : DS w a v mb es f n) (k : Nat) : FD w a k ↔ BK a v mb k := by
  constructor
  · rintro (e | ⟨v', m, h1, h2⟩)
    · exact Or.inl e
    · rw [h.head] at h1
      simp only [Option.some.injEq, Obj.cells.injEq, Array.mk.injEq, List.cons.injEq, Value.map.injEq, and_true] at h1
      obtain ⟨rfl, rfl⟩ := h1
      exact Or.inr h2
  · rintro (e | e)
    · exact Or.inl e
    · exact Or.inr ⟨v, mb, h.head, e⟩
theorem FD.dyn {a C : Nat} (h : a < C) : Dyn (fun A k => FD A a k) C := fun A A' hb k hk => by
  rcases hk with e | ⟨v, m, h1, h2⟩
  · exact Or.inl e
  · exact Or.inr ⟨v, m, (hb.block a h).symm.trans h1, h2⟩
theorem DS.bk_lt {w : World} {a mb n : Nat} {v : Value} {es : List Ent} {f : V → Option Nat} (h : DS w a v mb es f n) {k : Nat} (hk : BK a v mb k) : k < w.heap.size := by
  rcases hk with rfl | e | rfl
  · exact h.lt
  · exact h.row_lt k e
  · exact h.map.lt
/-- What a step on a dict changes, as a round's step. -/
theorem DS.chg {w w' : World} {a mb n n' : Nat} {v v' : Value} {es es' : List Ent} {f f' : V → Option Nat} (h : DS w a v mb es f n) (h' : DS w' a v' mb es' f' n') (hb : But (BK a v mb) w w') (hf : ∀ j, v'.ownBlock = some j → v.ownBlock = some j ∨ w.heap.size ≤ j) : Chg (fun A k => FD A a k) w w' :=
  ⟨hb.os, hb.tape, hb.output, hb.size, fun k hk hn => by
    have hn' : ¬ BK a v mb k := fun e => hn ((h.fd k).2 e)
    refine ⟨hb.block k hk hn', fun e => ?_⟩
    rcases (h'.fd k).1 e with e | e | e
    · exact hn' (Or.inl e)
    · rcases hf k e with e2 | e2
      · exact hn' (Or.inr (Or.inl e2))
      · omega
    · exact hn' (Or.inr (Or.inr e))⟩
/-- A clone, as far as it has come. -/
def Cln (a2 bo B : Nat) (q : List Pr) (A : World) : Prop := ∃ v2 mb2 es2 f2, DS A a2 v2 mb2 es2 f2 q.length ∧ (Rel es2 f2 ∧ live es2 = q ∧ es2.length = q.length) ∧ A.heap[bo]? = some (.cells #[ptrV a2] 24) ∧ ¬ BK a2 v2 mb2 bo ∧ ∀ k, BK a2 v2 mb2 k → B ≤ k
theorem Cln.lt {a2 bo B : Nat} {q : List Pr} {A : World} (h : Cln a2 bo B q A) {k : Nat} (hk : FD A a2 k) : k < A.heap.size := by
  obtain ⟨v2, mb2, es2, f2, hd, _⟩ := h
  exact hd.bk_lt ((hd.fd k).1 hk)
theorem Cln.step {a2 bo B C : Nat} {q : List Pr} {A A' : World} (h : Cln a2 bo B q A) (hs : Stp (fun A k => FD A a2 k) C A A') (hbo : bo < C) : Cln a2 bo B q A' := by
  obtain ⟨v2, mb2, es2, f2, hd, h2, h3, h4, h5⟩ := h
  have hk : ∀ k, BK a2 v2 mb2 k → A'.heap[k]? = A.heap[k]? := fun k hk => hs.k k (hd.bk_lt hk) ((hd.fd k).2 hk)
  exact ⟨v2, mb2, es2, f2, hd.kept (hk a2 (Or.inl rfl)) (fun k e => hk k (Or.inr (Or.inl e))) (hk mb2 (Or.inr (Or.inr rfl))), h2, (hs.b.block bo hbo).trans h3, h4, h5⟩
theorem DS.putObj {w : World} {a mb n b : Nat} {v : Value} {es : List Ent} {f : V → Option Nat} (h : DS w a v mb es f n) (hb : ¬ BK a v mb b) (o : Obj) : DS (w.putObj b o) a v mb es f n :=
  h.kept (World.putObj_heap_other (fun e => hb (Or.inl e.symm))) (fun k e => World.putObj_heap_other (fun e2 => hb (Or.inr (Or.inl (e2 ▸ e))))) (World.putObj_heap_other (fun e => hb (Or.inr (Or.inr e.symm))))
set_option maxHeartbeats 8000000 in
set_option maxRecDepth 100000 in
theorem dClone_is {w : World} {a mb n : Nat} {v : Value} {es : List Ent} {f : V → Option Nat} {L : List Pr} (hL : Hid (live es = L)) (HN : Hid (L.length = n)) (hrel : Hid (Rel es f)) (hvk : Hid (∀ p ∈ L, Vok p.1)) (H : Hid (DS w a v mb es f n)) (hl : es.length ≤ 50000) (hn : n ≤ 20000) :
    Calls Try.prog 28 #[ptrV a] w fun e w' => ∃ a2 v2 mb2 es2 f2, e = .returned (ptrV a2) ∧ Hid (DS w' a2 v2 mb2 es2 f2 n) ∧ Hid (Rel es2 f2 ∧ live es2 = L ∧ es2.length = n) ∧ Hid (Below w.heap.size w w') ∧ Hid (∀ k, BK a2 v2 mb2 k → w.heap.size ≤ k) := by
  have hnd : Hid (∀ q p r, L = q ++ p :: r → ∀ x ∈ q, x.1 ≠ p.1) := (show ∀ q p r, _ from fun q p r e => hrel.out.nodup q p r (hL.out.trans e))
  have HDW := Lib.hid (dLen_is H)
  have HDS := Lib.hid (dsized_is n (by omega) w)
  have hmf : ∀ (fn : Fn) (first cap : Array Value) (w : World), (Instr.makeFunc fn first cap).run Try.prog w = .ok (.func fn first cap) w := fun _ _ _ _ => rfl
  refine callsIn_wide.1 (callsIn_of_wp_marks (n := 3) Try.func28 rfl trivial ?_ rfl)
  simp only [Try.ntmps28, List.size_toArray, List.length_cons, List.length_nil, Nat.reduceAdd, Nat.reduceSub, Array.replicate_succ, Array.replicate_zero, List.push_toArray, List.append_toArray, List.nil_append, List.cons_append]
  gi_wp2_with fail
  refine ⟨trivial, (callsIn_wide.2 HDW.out).mono ?_⟩
  clear HDW
  rintro e w1 ⟨rfl, hw⟩
  obtain rfl : w = w1 := hw.symm
  clear hw
  gi_wp2_with fail
  refine ⟨trivial, (callsIn_wide.2 HDS.out).mono ?_⟩
  clear HDS
  rintro e w1 ⟨a2, v2, mb2, rfl, HD2, HB1, HF2⟩
  obtain ⟨W0, hW0⟩ : ∃ W0, W0 = w1.alloc (.cells #[ptrV a2] 24) := ⟨_, rfl⟩
  have hb01 : Below w1.heap.size w1 W0 := by rw [hW0]; exact below_new _ _
  have HB0 : Hid (Below w.heap.size w W0) := (show Below _ _ _ from HB1.out.trans (hb01.mono HB1.out.size))
  have hD0 := H.out.below HB0.out
  have hbo : W0.heap[w1.heap.size]? = some (.cells #[ptrV a2] 24) := by rw [hW0]; exact heap_alloc_new _ _
  have hD20 := HD2.out.below hb01
  obtain ⟨pa, cap, hv⟩ := slice_form hD0.row
  have a0 := hD0.cell0
  rw [hv] at a0
  obtain ⟨m, hm⟩ : ∃ m, es.length = m := ⟨_, rfl⟩
  rw [hm] at a0 hv
  rw [hW0] at a0
  have hs0 : W0.heap.size = w1.heap.size + 1 := by rw [hW0]; simp
  have hs1 := HB1.out.size
  have hvl := H.out.row_lt
  have hg := each_gives 2 v es hl (fun A k => FD A a2 k) W0 (FD.dyn (by have := HD2.out.lt; omega)) hD0.row (fun g hg e => by
    have h1 := hvl g hg
    have h2 := HF2.out g ((hD20.fd g).1 e)
    omega)
  rw [hL.out, hv] at hg
  have hc0 : Cln a2 w1.heap.size w.heap.size [] W0 := ⟨v2, mb2, [], _, hD20, ⟨Rel.nil, rfl, rfl⟩, hbo, fun e => by have := HD2.out.bk_lt e; omega, HF2.out⟩
  have ha2 : a2 < W0.heap.size := hD20.lt
  have HW0 := Lib.hid hW0
  obtain ⟨bo, hboe⟩ : ∃ bo, w1.heap.size = bo := ⟨_, rfl⟩
  have HBO := Lib.hid hboe
  rw [hboe] at hc0 hbo hs0
  clear hW0 hv hm hD0 hb01 hD20 hboe
  gi_wp2_with fail
  rw [← HW0.out, HBO.out]
  refine wpIn_rangeFunc_B rfl (depthless rfl _) (gf := 39) (bd := #[.slice pa m cap]) (lb := #[]) rfl trivial (enters_of Try.func39 (by kernel_rfl) rfl) (R := fun A k => FD A a2 k) (FD.dyn ha2) hg (fun _ => rfl)
    (fun q A => Cln a2 bo w.heap.size q A ∧ q.length ≤ n) (fun c q A => False) (fun q A h _ k hk => h.1.lt hk) (fun q A B h hs _ => ⟨h.1.step hs (by omega), h.2⟩) (fun c q A B h _ _ => h)
    ⟨hc0, Nat.zero_le _⟩
    (fun p A A' a' => A' = (A.alloc (.cells #[.int .i64 p.1.1, .int .i64 p.1.2.1, .string p.1.2.2] 32)).alloc (.cells #[.int .i64 p.2.1, .int .i64 p.2.2.1, .string p.2.2.2] 32) ∧ a' = { tmps := #[ptrV a, undef, .pointer none, .pointer (some ⟨bo, 0, none⟩), .pointer (some ⟨A.heap.size, 0, none⟩), .pointer (some ⟨A.heap.size + 1, 0, none⟩), ptrV a, .int .i64 (n : Int), ptrV a2, ptrV a, ptrV a, ptrV a, .slice pa m cap, .func (.func 39) #[.slice pa m cap] #[], vV p.1, vV p.2, undef, undef, undef, undef, undef], defers := [] })
    (fun p A A' a' h => by rw [h.1]; exact two_below _ _ _)
    ?assign ?body ?done ?stop
  case assign =>
    intro l2 pre p A K hI hsz hK
    gi_wp2
    try exact hK _ _ ⟨rfl, rfl⟩
  case body =>
    rintro l2 q p A A' W a' ⟨rfl, rfl⟩ ⟨hc0', hl0⟩ ⟨⟨v3, mb3, es3, f3, hd3, ⟨hr3, hl3, hn3⟩, hb3, hx3, hB3⟩, hlq⟩ hS hsz hWs hWk
    obtain ⟨rest, hrest⟩ := hS
    rw [List.append_assoc] at hrest
    have hlen : q.length + 1 ≤ n := by
      have h1 := congrArg List.length hrest
      rw [HN.out, List.length_append, List.length_append] at h1
      simp at h1
      omega
    have hno : f3 p.1 = none := hr3.none_iff p.1 |>.2 (by rw [hl3]; exact hnd.out q p rest hrest.symm)
    have hvk2 : Vok p.1 := hvk.out p (by rw [← hrest]; simp)
    have hk1 : W.heap[A.heap.size]? = some (.cells #[.int .i64 p.1.1, .int .i64 p.1.2.1, .string p.1.2.2] 32) := (hWk _ (by omega)).trans (two_first _ _ _)
    have hk2 : W.heap[A.heap.size + 1]? = some (.cells #[.int .i64 p.2.1, .int .i64 p.2.2.1, .string p.2.2.2] 32) := (hWk _ (by omega)).trans (two_heap _ _ _)
    obtain ⟨c0, c1, c2⟩ := V_cells hk1
    obtain ⟨d0, d1, d2⟩ := V_cells hk2
    have cb : W.cell? ⟨bo, 0, none⟩ = some (ptrV a2) := by simp [World.cell?, hb3]
    have HAD := Lib.hid (dadd_is (x := p.2) hvk2 (Lib.hid hd3) hno (by omega) (by omega))
    have HD3 := Lib.hid hd3
    have HR3 := Lib.hid (hr3.app p.2 hno)
    have HL3 : Hid (live (es3 ++ [((p.1, p.2), false)]) = q ++ [p]) := (show _ = _ by rw [live_snoc, hl3])
    have HX3 := Lib.hid hx3
    have HB3 := Lib.hid hB3
    have HBX := Lib.hid hb3
    have hWs2 : W.heap.size = A.heap.size + 2 := by rw [hWs]; simp
    have hwb : w.heap.size ≤ W.heap.size := by have := HB0.out.size; omega
    have hbW : bo < W.heap.size := (Array.getElem?_eq_some_iff.1 hb3).1
    clear hk1 hk2 hWk hWs hc0' hl0 hg a0 hno hvk2 hd3 hr3 hl3 hx3 hB3 hb3 hrest hc0 hbo
    gi_wp2_with fail
    refine ⟨trivial, (CallsIn.inRound _ (callsIn_wide.2 HAD.out)).mono ?_⟩
    clear HAD
    rintro e w4 ⟨v4, rfl, HD4, HBT, HF4⟩
    gi_wp2_with fail
    have hlq1 : (q ++ [p]).length = q.length + 1 := by simp
    refine ⟨HD3.out.chg HD4.out HBT.out HF4.out, ⟨v4, mb3, es3 ++ [((p.1, p.2), false)], _, by rw [hlq1]; exact HD4.out, ⟨HR3.out, HL3.out, by rw [hlq1, List.length_append, hn3]; rfl⟩, (HBT.out.block bo hbW HX3.out).trans HBX.out, ?_, ?_⟩, by omega⟩
    · rintro (e | e | e)
      · exact HX3.out (Or.inl e)
      · rcases HF4.out bo e with e2 | e2
        · exact HX3.out (Or.inr (Or.inl e2))
        · omega
      · exact HX3.out (Or.inr (Or.inr e))
    · rintro k (e | e | e)
      · exact HB3.out k (Or.inl e)
      · rcases HF4.out k e with e2 | e2
        · exact HB3.out k (Or.inr (Or.inl e2))
        · omega
      · exact HB3.out k (Or.inr (Or.inr e))
  case done =>
    rintro q A rfl ⟨⟨v3, mb3, es3, f3, hd3, hr3, hb3, hx3, hB3⟩, hlq⟩ hcA hK hnD
    have hc : A.cell? ⟨bo, 0, none⟩ = some (ptrV a2) := by simp [World.cell?, hb3]
    have hFa : ∀ k, FD W0 a2 k → w.heap.size ≤ k := fun k e => by
      obtain ⟨v5, mb5, es5, f5, hd5, _, _, _, hB5⟩ := hc0
      exact hB5 k ((hd5.fd k).1 e)
    have hbA : Below w.heap.size w A := HB0.out.trans (hcA.below HB0.out.size (fun i hi e => by have := hFa i e; omega))
    have hq : q.length = n := HN.out
    rw [hq] at hd3 hr3
    have hne : W0.heap.size ≠ bo := by omega
    have hcp : (A.putObj W0.heap.size (.deferred none)).cell? ⟨bo, 0, none⟩ = some (ptrV a2) := (World.cell?_of_block (a := ⟨bo, 0, none⟩) (World.putObj_heap_other (Ne.symm hne))).trans hc
    have HBA := Lib.hid (hbA.trans (below_putObj A (by have := HB0.out.size; omega : w.heap.size ≤ W0.heap.size) (.deferred none)))
    have HD5 := Lib.hid (hd3.putObj (fun e => hnD ((hd3.fd _).2 e)) (.deferred none))
    have HB3 := Lib.hid hB3
    have HR3 := Lib.hid hr3
    clear hg a0 hbA hcA hnD hc0 hbo hd3 hr3 hb3 hx3 hB3 hFa hq hlq
    gi_wp2
    refine ⟨by simp, .inl ⟨_, _, rfl, run_takeDeferred hK, ?_⟩⟩
    exact ⟨_, results_tmp rfl _ _ _, a2, v3, mb3, es3, f3, rfl, HD5.out, HR3.out, HBA.out, HB3.out⟩
  case stop =>
    rintro c q A h
    exact h.elim
end Go.Proofs.Ytaghkidelbepnaa
