/-
  DictGoes of layer 10: the walk, at this program.
-/
import Derived.Test.YtaghkidelbepnaaDiL
import Derived.Test.YtaghkidelbepnaaDiV
import Derived.Test.YtaghkidelbepnaaRangeQ
set_option linter.unusedVariables false
set_option linter.unusedSimpArgs false
namespace Go.Proofs.Ytaghkidelbepnaa
namespace lawDictGoes
open Go.RowKit Go.Shelf
open Di
attribute [local go_sem] Oper.semAt_some

/-- A dict of the call's own, and blocks beside it. -/
structure Bag (I : DictI) (w0 : World) (a : Nat) (l : List Pr) (S : List (Nat × Obj)) (w : World) : Prop where
  one : One I w0 a l w
  at_ : ∀ b o, (b, o) ∈ S → w.heap[b]? = some o
  ap : ∀ b o, (b, o) ∈ S → ¬ I.FR w a b
theorem Bag.lt {I : DictI} {w0 w : World} {a : Nat} {l : List Pr} {S : List (Nat × Obj)} (h : Bag I w0 a l S w) {b : Nat} {o : Obj} (hb : (b, o) ∈ S) : b < w.heap.size := (Array.getElem?_eq_some_iff.1 (h.at_ b o hb)).1
theorem Bag.below {I : DictI} {w0 w w' : World} {a : Nat} {l : List Pr} {S : List (Nat × Obj)} (h : Bag I w0 a l S w) (hb : Below w.heap.size w w') : Bag I w0 a l S w' :=
  ⟨h.one.below hb, fun b o hx => (hb.block b (h.lt hx)).trans (h.at_ b o hx), fun b o hx e => h.ap b o hx ((I.kept h.one.d hb.size (fun k hk => hb.block k (I.lt h.one.d hk))).2 b e)⟩
theorem Bag.box {I : DictI} {w0 w w' : World} {a b : Nat} {l : List Pr} {S : List (Nat × Obj)} (h : Bag I w0 a l S w) (o : Obj) (hw : w' = w.alloc o) (hb : w.heap.size = b) : Bag I w0 a l ((b, o) :: S) w' := by
  subst hw hb
  have h1 := h.below (below_new w o)
  refine ⟨h1.one, fun c y hy => ?_, fun c y hy e => ?_⟩
  · rcases List.mem_cons.1 hy with e | e
    · cases e; exact World.alloc_heap_new w o
    · exact h1.at_ c y e
  · rcases List.mem_cons.1 hy with e2 | e2
    · cases e2
      have := I.lt h.one.d ((I.kept h.one.d (below_new w o).size (fun k hk => (below_new w o).block k (I.lt h.one.d hk))).2 _ e)
      omega
    · exact h1.ap c y e2 e
theorem own_blkG {T : TypeId} {B n sz : Nat} {v : Value} {xs : List Value} {w w' : World} (h : w.ownsRow B T sz v n xs) (hb : ∀ k, v.ownBlock = some k → w'.heap[k]? = w.heap[k]?) : w'.ownsRow B T sz v n xs := by
  refine ⟨h.1, ?_⟩
  rcases h.2 with h2 | ⟨g, cap, cur, rfl, hg, hgb, r⟩
  · exact Or.inl h2
  · exact Or.inr ⟨g, cap, cur, rfl, hg, (hb g rfl).trans hgb, r⟩
theorem neq_PG (w : World) (p : Pr) : (binOp .neq 60 (.agg #[.int .i64 p.1.1, .int .i64 p.1.2.1, .string p.1.2.2, .int .i64 p.2.1, .int .i64 p.2.2.1, .string p.2.2.2]) (.agg #[.int .i64 p.1.1, .int .i64 p.1.2.1, .string p.1.2.2, .int .i64 p.2.1, .int .i64 p.2.2.1, .string p.2.2.2])).run Try.prog w = .ok (.bool false) w := neq_P w p
theorem one_cell {w : World} {b : Nat} {v : Value} {t : TypeId} (h : w.heap[b]? = some (.cells #[v] t)) : w.cell? ⟨b, 0, none⟩ = some v := by simp [World.cell?, h]
theorem one_frozen {w : World} {b : Nat} {v : Value} {t : TypeId} (h : w.heap[b]? = some (.cells #[v] t)) : w.frozen? ⟨b, 0, none⟩ = false := by simp [World.frozen?, h]
/-- What a round may turn: the dict's blocks, and block b. -/
abbrev RR (I : DictI) (a b : Nat) : World → Nat → Prop := fun A k => I.FR A a k ∨ k = b
/-- Behind some rounds: c of them, seen from world B on. -/
structure Gi (I : DictI) (a b : Nat) (B : World) (N c : Nat) (A : World) : Prop where
  chg : Chg (RR I a b) B A
  dr : ∃ l, I.DR A a l ∧ l.length ≤ N
  n : A.heap[b]? = some (.cells #[.int .i64 (c : Int)] 3)
  ap : ¬ I.FR A a b
theorem Gi.lt {I : DictI} {a b N c : Nat} {B A : World} (h : Gi I a b B N c A) : b < A.heap.size := (Array.getElem?_eq_some_iff.1 h.n).1
theorem Gi.self {I : DictI} {a b N c : Nat} {B A : World} (h : Gi I a b B N c A) : Gi I a b A N c A := ⟨Chg.refl _ _, h.dr, h.n, h.ap⟩
theorem Gi.over {I : DictI} {a b N c N' c' : Nat} {B A A' : World} (h : Gi I a b B N c A) (k : Gi I a b A N' c' A') : Gi I a b B N' c' A' := ⟨h.chg.trans k.chg, k.dr, k.n, k.ap⟩
theorem Gi.stp {I : DictI} {a b N c C : Nat} {B A A' : World} (h : Gi I a b B N c A) (hD : Dyn (fun A k => I.FR A a k) b) (hs : Stp (RR I a b) C A A') (hB : B.heap.size ≤ C) (hC : b ≤ C) : Gi I a b B N c A' := by
  obtain ⟨l, h1, h2⟩ := h.dr
  exact ⟨h.chg.of_below (hD.or _) hs.b hB hC, ⟨l, (I.kept h1 hs.b.size (fun k hk => hs.k k (I.lt h1 hk) (Or.inl hk))).1, h2⟩, (hs.k b h.lt (Or.inr rfl)).trans h.n, fun e => h.ap (hD A A' (hs.b.mono hC) b e)⟩
theorem Gi.below {I : DictI} {a b N c : Nat} {B A A' : World} (h : Gi I a b B N c A) (hD : Dyn (fun A k => I.FR A a k) b) (hb : Below A.heap.size A A') : Gi I a b B N c A' :=
  h.stp hD (Stp.all hb (Nat.le_refl _)) h.chg.size (Nat.le_of_lt h.lt)
theorem Gi.put {I : DictI} {a b N c : Nat} {B A A' : World} {l' : List Pr} (h : Gi I a b B N c A) (hd : I.DR A' a l') (hl : l'.length ≤ N + 1) (hb : But (I.FR A a) A A') (hf : ∀ j, I.FR A' a j → I.FR A a j ∨ A.heap.size ≤ j) : Gi I a b B (N + 1) c A' := by
  have hlt := h.lt
  refine ⟨⟨hb.os.trans h.chg.os, hb.tape.trans h.chg.tape, hb.output.trans h.chg.output, Nat.le_trans h.chg.size hb.size, fun k hk hn => ?_⟩, ⟨l', hd, hl⟩, (hb.block b hlt h.ap).trans h.n, fun e => (hf b e).elim h.ap (fun e => by omega)⟩
  obtain ⟨h1, h2⟩ := h.chg.both k hk hn
  have hk2 := Nat.lt_of_lt_of_le hk h.chg.size
  exact ⟨(hb.block k hk2 (fun e => h2 (Or.inl e))).trans h1, fun e => e.elim (fun e => (hf k e).elim (fun e => h2 (Or.inl e)) (fun e => by omega)) (fun e => h2 (Or.inr e))⟩
theorem Gi.bump {I : DictI} {a b N c : Nat} {B A : World} (h : Gi I a b B N c A) (hD : Dyn (fun A k => I.FR A a k) b) (hB : b < B.heap.size) : Gi I a b B N (c + 1) (A.setCell ⟨b, 0, none⟩ (.int .i64 ((c : Int) + 1))) := by
  obtain ⟨l, h1, h2⟩ := h.dr
  have hlt := h.lt
  have hb : Below b A (A.setCell ⟨b, 0, none⟩ (.int .i64 ((c : Int) + 1))) := (Below.refl b A).setCell (p := ⟨b, 0, none⟩) (Nat.le_refl _) _
  refine ⟨h.chg.setCell (hD.or _) (p := ⟨b, 0, none⟩) (Nat.le_refl _) (Nat.le_of_lt hlt) (fun _ => Or.inr rfl) _, ⟨l, (I.kept h1 (by simp [World.setCell]) (fun k hk => Below.heap_setCell _ _ _ _ (show k ≠ b from fun e => h.ap (e ▸ hk)))).1, h2⟩, ?_, fun e => h.ap (hD _ _ hb b e)⟩
  rw [set_at h.n 0]
  rfl
theorem Gi.mono {I : DictI} {a b N N' c : Nat} {B A : World} (h : Gi I a b B N c A) (hN : N ≤ N') : Gi I a b B N' c A := ⟨h.chg, h.dr.imp fun l h => ⟨h.1, Nat.le_trans h.2 hN⟩, h.n, h.ap⟩
theorem dr_below {I : DictI} {w w' : World} {a : Nat} {l : List Pr} (h : I.DR w a l) (hb : Below w.heap.size w w') : I.DR w' a l := (I.kept h hb.size (fun k hk => hb.block k (I.lt h hk))).1
set_option maxHeartbeats 16000000 in
set_option maxRecDepth 100000 in
theorem walk (I : DictI) {v0 v1 : Value} {l m : List Cl} {st : Nat} {w : World} (hst : st < 256) (HC : Hid (CRow v0 l w)) (HM : Hid (CRow v1 m w)) (HOK : Hid (∀ c ∈ l, Cok c)) (HOM : Hid (∀ c ∈ m, Cok c)) (hl : l.length ≤ 140737488355328) (hl2 : m.length ≤ 140737488355328) :
    Calls Try.prog 8 #[v0, v1, .int .u8 (st : Int)] w fun e w' => e = .returned (.bool true) ∧ Below w.heap.size w w' := by
  have hnn := no_nil2
  obtain ⟨pa, cap, hv0, _⟩ := HC.out.form
  subst hv0
  obtain ⟨pm, cm, hv1, hrow⟩ := HM.out.form
  subst hv1
  have HRM := Lib.hid hrow
  obtain ⟨L, hL⟩ : ∃ L, Di.made l = L := ⟨_, rfl⟩
  have HLL : Hid (L.length ≤ 40) := (show _ ≤ _ by rw [← hL]; exact made_length l)
  have HL := Lib.hid hL
  obtain ⟨n, hn⟩ : ∃ n, L.length = n := ⟨_, rfl⟩
  have HN := Lib.hid hn
  have hn40 : n ≤ 40 := by rw [← hn]; exact HLL.out
  obtain ⟨mn, hmn⟩ : ∃ mn, m.length = mn := ⟨_, rfl⟩
  have HMN := Lib.hid hmn
  obtain ⟨ln, hln⟩ : ∃ ln, l.length = ln := ⟨_, rfl⟩
  have HLN := Lib.hid hln
  rw [hln] at HC hl ⊢
  rw [hmn] at HM hl2 ⊢
  obtain ⟨W0, hW0⟩ : ∃ W0, W0 = ((w.alloc (.cells #[.slice pm mn cm] 22)).alloc (.cells #[.int .u8 (st : Int)] 5)).alloc (.cells #[.bool false] 4) := ⟨_, rfl⟩
  have HB0 : Hid (Below w.heap.size w W0) := (show Below _ _ _ by rw [hW0]; exact (two_below _ _ _).alloc (by rw [World.size_alloc, World.size_alloc]; omega) _)
  obtain ⟨b4, hb4⟩ : ∃ b, w.heap.size = b := ⟨_, rfl⟩
  have h4 : W0.heap[b4]? = some (.cells #[.slice pm mn cm] 22) := by rw [hW0, ← hb4]; exact (Below.heap_alloc _ _ _ (by rw [World.size_alloc, World.size_alloc]; omega)).trans (two_first _ _ _)
  have h5 : W0.heap[b4 + 1]? = some (.cells #[.int .u8 (st : Int)] 5) := by rw [hW0, ← hb4]; exact (Below.heap_alloc _ _ _ (by rw [World.size_alloc, World.size_alloc]; omega)).trans (two_heap _ _ _)
  have h6 : W0.heap[b4 + 2]? = some (.cells #[.bool false] 4) := by rw [hW0, ← hb4, show w.heap.size + 2 = ((w.alloc (.cells #[.slice pm mn cm] 22)).alloc (.cells #[.int .u8 (st : Int)] 5)).heap.size by simp]; exact World.alloc_heap_new _ _
  have HW0 := Lib.hid hW0
  have HB4 := Lib.hid hb4
  have H4 := Lib.hid h4
  have H5 := Lib.hid h5
  have H6 := Lib.hid h6
  clear hL hn hmn hln hrow hW0 hb4 h4 h5 h6
  refine callsIn_wide.1 (callsIn_of_wp_marks (n := 3) Try.func8 rfl trivial ?_ rfl)
  simp only [Try.ntmps8, List.size_toArray, List.length_cons, List.length_nil, Nat.reduceAdd, Nat.reduceSub, Array.replicate_succ, Array.replicate_zero, List.push_toArray, List.append_toArray, List.nil_append, List.cons_append]
  refine wpIn_wide.2 ?_
  go_upto_region 1 with (fail)
  rw [← HW0.out, HB4.out]
  go_upto_region 3 with (first
    | (go_at_call 17; refine (made_is I (Lib.hid (HC.out.below (HB0.out.trans (HB1.mono HB0.out.size)))) HOK (by rw [HLN.out]; exact hl)).mono ?_; rintro e w2 ⟨a, br, vr, rfl, HT2, HB2⟩; rw [HL.out] at HT2)
    | (go_at_call 12; refine (shown10 I _).mono ?_; rintro e w1 ⟨rfl, HB1⟩))
  obtain ⟨W2, hW⟩ : ∃ W, W = w2.alloc (.cells #[ptrV a] 24) := ⟨_, rfl⟩
  obtain ⟨b8, hb⟩ : ∃ b, w2.heap.size = b := ⟨_, rfl⟩
  have HS0 : Hid (Bag I w a L [(b4, .cells #[.slice pm mn cm] 22), (b4 + 1, .cells #[.int .u8 (st : Int)] 5), (b4 + 2, .cells #[.bool false] 4)] w2) := (show Bag _ _ _ _ _ _ from by
    have h0 : Below w.heap.size w w1 := HB0.out.trans (HB1.mono HB0.out.size)
    have hk : ∀ b o, W0.heap[b]? = some o → w2.heap[b]? = some o ∧ ¬ I.FR w2 a b := fun b o h => by
      have h1 := (Array.getElem?_eq_some_iff.1 h).1
      have h2 := (HB1.block b h1).trans h
      have h3 := (Array.getElem?_eq_some_iff.1 h2).1
      exact ⟨(HB2.out.block b h3).trans h2, fun e => by have := HT2.out.fd b e; omega⟩
    refine ⟨⟨HT2.out.d, fun k hk => Nat.le_trans h0.size (HT2.out.fd k hk), h0.trans (HB2.out.mono h0.size)⟩, fun b o hb => ?_, fun b o hb => ?_⟩
    · simp only [List.mem_cons, Prod.mk.injEq, List.not_mem_nil, or_false] at hb
      rcases hb with ⟨rfl, rfl⟩ | ⟨rfl, rfl⟩ | ⟨rfl, rfl⟩
      · exact (hk _ _ H4.out).1
      · exact (hk _ _ H5.out).1
      · exact (hk _ _ H6.out).1
    · simp only [List.mem_cons, Prod.mk.injEq, List.not_mem_nil, or_false] at hb
      rcases hb with ⟨rfl, rfl⟩ | ⟨rfl, rfl⟩ | ⟨rfl, rfl⟩
      · exact (hk _ _ H4.out).2
      · exact (hk _ _ H5.out).2
      · exact (hk _ _ H6.out).2)
  have HX2 : Hid (b4 + 2 < b8) := (show _ < _ by rw [← hb]; exact HS0.out.lt (b := b4 + 2) (o := .cells #[.bool false] 4) (by simp))
  have HS2 := Lib.hid (HS0.out.box _ hW hb)
  have HB4w : Hid (w.heap.size ≤ b4) := (show _ ≤ _ by rw [← HB4.out]; exact Nat.le_refl _)
  rw [← hW, hb]
  clear hW hb HB1 HT2 HB2 HS0 HW0 HB0 H4 H5 H6
  have a8 := one_cell (HS2.out.at_ b8 (.cells #[ptrV a] 24) (by simp))
  go_upto_region 6 with (go_at_call 30; refine (pairs_is I HN (Lib.hid HS2.out.one.d) (by omega)).mono ?_; rintro e w3 ⟨p3, c3, rfl, HO3, HB3⟩)
  obtain ⟨W3, hW⟩ : ∃ W, W = w3.alloc (.cells #[.slice p3 n c3] 27) := ⟨_, rfl⟩
  obtain ⟨b10, hb⟩ : ∃ b, w3.heap.size = b := ⟨_, rfl⟩
  have HX3 : Hid (b8 < b10) := (show _ < _ by rw [← hb]; exact Nat.lt_of_lt_of_le (HS2.out.lt (b := b8) (o := .cells #[ptrV a] 24) (by simp)) HB3.size)
  have HS3 := Lib.hid ((HS2.out.below HB3).box _ hW hb)
  have HO4 : Hid (W3.ownsRow W2.heap.size 60 6 (.slice p3 n c3) n (L.flatMap cP)) := (show World.ownsRow _ _ _ _ _ _ _ by rw [hW]; exact HO3.out.alloc _)
  have HR3 : Hid (∀ j, Value.ownBlock (.slice p3 n c3) = some j → ¬ I.FR W3 a j) := (show ∀ j, _ → _ from fun j hj e => by
    have h1 := (HO3.out.lt j hj).1
    have h2 : Below W2.heap.size W2 W3 := by rw [hW]; exact HB3.trans ((below_new w3 _).mono HB3.size)
    have h3 := I.lt HS2.out.one.d ((I.kept HS2.out.one.d h2.size (fun i hi => h2.block i (I.lt HS2.out.one.d hi))).2 j e)
    omega)
  rw [← hW, hb]
  clear hW hb HB3 HS2 HO3 a8
  have a8 := one_cell (HS3.out.at_ b8 (.cells #[ptrV a] 24) (by simp))
  go_upto_region 9 with (go_at_call 31; refine (I.all_ (Lib.hid HS3.out.one.d) (by have := HLL.out; omega)).mono ?_; rintro e w4 ⟨gf, lb, G, rfl, HE, HB5, HG, HIT⟩)
  go_upto_region 10 with (fail)
  obtain ⟨W5, hW⟩ : ∃ W, W = w4.alloc (.cells #[.int .i64 0] 3) := ⟨_, rfl⟩
  obtain ⟨b12, hb⟩ : ∃ b, w4.heap.size = b := ⟨_, rfl⟩
  have HX5 : Hid (b10 < b12) := (show _ < _ by rw [← hb]; exact Nat.lt_of_lt_of_le (HS3.out.lt (b := b10) (o := .cells #[.slice p3 n c3] 27) (by simp)) HB5.out.size)
  have HS5 := Lib.hid ((HS3.out.below HB5.out).box _ hW hb)
  have HG5 : Hid (∀ k, G k → W5.heap[k]? = w4.heap[k]? ∧ ¬ I.FR W5 a k ∧ k < b12 ∧ W3.heap.size ≤ k) := (show ∀ k, _ → _ from fun k hk => by
    have h1 := HG.out k hk
    refine ⟨by rw [hW]; exact (below_new w4 _).block k h1.2, fun e => ?_, by rw [← hb]; exact h1.2, h1.1⟩
    have h2 : Below W3.heap.size W3 W5 := by rw [hW]; exact HB5.out.trans ((below_new w4 _).mono HB5.out.size)
    have h3 := I.lt HS3.out.one.d ((I.kept HS3.out.one.d h2.size (fun i hi => h2.block i (I.lt HS3.out.one.d hi))).2 k e)
    omega)
  have HO5 : Hid (W5.ownsRow W2.heap.size 60 6 (.slice p3 n c3) n (L.flatMap cP)) := (show World.ownsRow _ _ _ _ _ _ _ by rw [hW]; exact (own_blkG HO4.out (fun j hj => HB5.out.block j (HO4.out.lt j hj).2)).alloc _)
  have HR5 : Hid (∀ j, Value.ownBlock (.slice p3 n c3) = some j → ¬ I.FR W5 a j ∧ j < b12) := (show ∀ j, _ → _ from fun j hj => by
    have h1 := (HO4.out.lt j hj).2
    have h2 : Below W3.heap.size W3 W5 := by rw [hW]; exact HB5.out.trans ((below_new w4 _).mono HB5.out.size)
    exact ⟨fun e => HR3.out j hj ((I.kept HS3.out.one.d h2.size (fun i hi => h2.block i (I.lt HS3.out.one.d hi))).2 j e), by rw [← hb]; exact Nat.lt_of_lt_of_le h1 HB5.out.size⟩)
  have HZ5 : Hid (W5.heap.size = b12 + 1 ∧ w4.heap.size = b12) := (show _ ∧ _ by rw [hW, ← hb]; simp)
  have HIT5 : Hid (∀ (n : Nat) (Wc : World) (l' : List Pr) (R : World → Nat → Prop), b12 ≤ Wc.heap.size → (∀ k, G k → Wc.heap[k]? = W5.heap[k]?) → I.DR Wc a l' → l'.length ≤ 5000 → Dyn R Wc.heap.size → (∀ k, G k → ¬ R Wc k) →
      GivesR Fence.wide n Try.prog gf lb (fun p : Pr => #[vV p.1, vV p.2]) (fun q => q <+: l') (fun q => q = l') R Wc) := (show ∀ (n : Nat) (Wc : World) (l' : List Pr) (R : World → Nat → Prop), _ → _ from fun n Wc l' R h1 h2 => HIT.out n Wc l' R (by rw [HZ5.out.2]; exact h1) (fun k hk => (h2 k hk).trans (HG5.out k hk).1))
  have HD4 : Hid (Dyn (fun A k => I.FR A a k) b12) := (show Dyn _ _ by rw [← hb]; exact I.dyn (HS3.out.below HB5.out).one.d)
  rw [← hW, hb]
  clear hW hb HB5 HS3 HG HIT HO4 HR3 a8 hnn
  go_wp2_with fail
  obtain ⟨F, hFw⟩ : ∃ F, F = Fence.wide := ⟨_, rfl⟩
  refine (wpIn_wide (n := 5)).1 ?_
  rw [← hFw]
  have hgn : ∀ g, F.fn g := by rw [hFw]; exact fun _ => trivial
  have hd : F.depth = none := by rw [hFw]; rfl
  have hro : F.round = none := by rw [hFw]; rfl
  have HCI : Hid (∀ (f : FuncId) (args : Array Value) (w : World) (R : Ending → World → Prop) (m : Nat), Calls Try.prog f args w R → CallsIn F m Try.prog f args w R) := (show ∀ f args w R m, _ → _ from fun f args w R m h => by rw [hFw]; exact callsIn_wide.2 h)
  have hf3 := hgn 30
  have hf5 := hgn 15
  have hf6 := hgn 20
  have hf7 := hgn 23
  have hf8 := hgn 25
  have HDY : Dyn (RR I a b12) W5.heap.size := (HD4.out.mono (by have := HZ5.out.1; omega)).or _
  have hg : GivesR F 4 Try.prog gf lb (fun p : Pr => #[vV p.1, vV p.2]) (fun q => q <+: L) (fun q => q = L) (RR I a b12) W5 := by
    rw [hFw]
    exact HIT5.out 4 W5 L _ (by have := HZ5.out.1; omega) (fun _ _ => rfl) HS5.out.one.d (by have := HLL.out; omega) HDY (fun k hk e => e.elim (HG5.out k hk).2.1 (fun e => by have := (HG5.out k hk).2.2.1; omega))
  have HFW := Lib.hid hFw
  have hb12 : b12 < W5.heap.size := by have := HZ5.out.1; omega
  have HB12 : Hid (b4 + 2 < b8 ∧ b8 < b10 ∧ b10 < b12 ∧ w.heap.size ≤ b4) := (show _ ∧ _ from ⟨HX2.out, HX3.out, HX5.out, HB4w.out⟩)
  clear hFw
  refine wpIn_rangeFunc_A hro (depthless hd _) (gf := gf) (lb := lb) rfl (hgn gf) HE.out (R := RR I a b12) HDY hg (fun _ => rfl)
    (fun q A => Gi I a b12 W5 (100 + q.length) q.length A) (fun c q A => False)
    (fun q A h hs k hk => by obtain ⟨l', h1, _⟩ := h.dr; rcases hk with e | e; exact I.lt h1 e; have := h.lt; omega)
    (fun q A B h hst hs => h.stp HD4.out hst (Nat.le_refl _) (by omega))
    (fun c q A B h _ _ => h)
    ⟨Chg.refl _ _, ⟨L, HS5.out.one.d, by have := HLL.out; omega⟩, HS5.out.at_ b12 _ (by simp), HS5.out.ap b12 (.cells #[.int .i64 0] 3) (by simp)⟩
    (fun p A A' a' => A' = (A.alloc (.cells #[.int .i64 p.1.1, .int .i64 p.1.2.1, .string p.1.2.2] 32)).alloc (.cells #[.int .i64 p.2.1, .int .i64 p.2.2.1, .string p.2.2.2] 32) ∧ a' = { tmps := List.toArray ((Value.slice pa ln cap) :: (Value.slice pm mn cm) :: (Value.int .u8 (st : Int)) :: undef :: (Value.pointer (some ⟨b4, 0, none⟩)) :: (Value.pointer (some ⟨b4 + 1, 0, none⟩)) :: (Value.pointer (some ⟨b4 + 1 + 1, 0, none⟩)) :: (Value.bool true) :: (Value.pointer (some ⟨b8, 0, none⟩)) :: (ptrV br) :: (Value.pointer (some ⟨b10, 0, none⟩)) :: (Value.func (.func gf) #[] lb) :: (Value.pointer (some ⟨b12, 0, none⟩)) :: (Value.pointer (some ⟨A.heap.size, 0, none⟩)) :: (Value.pointer (some ⟨A.heap.size + 1, 0, none⟩)) :: undef :: undef :: undef :: (Value.bool true) :: (Value.tuple #[ptrV a, ptrV br]) :: (Value.slice pa ln cap) :: (Value.tuple #[ptrV a, ptrV br]) :: (ptrV a) :: (ptrV br) :: (Value.bool true) :: (Value.bool false) :: (Value.bool false) :: (ptrV a) :: (Value.bool false) :: (Value.bool false) :: (ptrV a) :: (Value.slice p3 n c3) :: (ptrV a) :: (Value.func (.func gf) #[] lb) :: (Value.func (.func gf) #[] lb) :: (Value.bool false) :: (Value.func (.func gf) #[] lb) :: (vV p.1) :: (vV p.2) :: undef :: undef :: undef :: undef :: undef :: undef :: undef :: undef :: undef :: undef :: undef :: undef :: undef :: undef :: undef :: undef :: undef :: undef :: undef :: undef :: undef :: undef :: undef :: undef :: undef :: undef :: undef :: undef :: undef :: undef :: undef :: undef :: undef :: undef :: undef :: undef :: undef :: undef :: undef :: undef :: undef :: undef :: undef :: undef :: undef :: undef :: undef :: undef :: undef :: undef :: undef :: undef :: undef :: undef :: undef :: undef :: undef :: undef :: undef :: undef :: undef :: undef :: undef :: undef :: undef :: undef :: undef :: undef :: undef :: undef :: []), defers := [] })
    (fun p A A' a' h => by rw [h.1]; exact two_below _ _ _)
    ?assign ?body ?done ?stop
  case assign =>
    intro l2 pre p A K hI hsz hK
    clear hg HDY
    gi_wp2
    try exact hK _ _ ⟨rfl, rfl⟩
  case body =>
    rintro l2 q p A A' W a' ⟨rfl, rfl⟩ hA hGW hS hsz hWs hWk
    have hcg := hGW.chg
    have hn12 := hGW.n
    have hq1 : q.length + 1 ≤ n := by
      have h1 := List.IsPrefix.length_le hS
      rw [List.length_append, List.length_singleton, HN.out] at h1
      exact h1
    have hqx : L[q.length]? = some p := by
      obtain ⟨r, hr⟩ := hS
      rw [← hr, List.append_assoc, List.getElem?_append_right (Nat.le_refl _), Nat.sub_self]
      rfl
    have hk1 : W.heap[A.heap.size]? = some (.cells #[.int .i64 p.1.1, .int .i64 p.1.2.1, .string p.1.2.2] 32) := (hWk _ (by omega)).trans (two_first _ _ _)
    have hk2 : W.heap[A.heap.size + 1]? = some (.cells #[.int .i64 p.2.1, .int .i64 p.2.2.1, .string p.2.2.2] 32) := (hWk _ (by omega)).trans (two_heap _ _ _)
    have hsb : ∀ b o, W5.heap[b]? = some o → ¬ I.FR W5 a b → b ≠ b12 → W.heap[b]? = some o := fun b o h1 h2 h3 => (hcg.block b (Array.getElem?_eq_some_iff.1 h1).1 (fun e => e.elim h2 h3)).trans h1
    have e4 := hsb b4 _ (HS5.out.at_ b4 (.cells #[.slice pm mn cm] 22) (by simp)) (HS5.out.ap b4 (.cells #[.slice pm mn cm] 22) (by simp)) (by have := HB12.out; omega)
    have e8 := hsb b8 _ (HS5.out.at_ b8 (.cells #[ptrV a] 24) (by simp)) (HS5.out.ap b8 (.cells #[ptrV a] 24) (by simp)) (by have := HB12.out; omega)
    have e10 := hsb b10 _ (HS5.out.at_ b10 (.cells #[.slice p3 n c3] 27) (by simp)) (HS5.out.ap b10 (.cells #[.slice p3 n c3] 27) (by simp)) (by have := HB12.out; omega)
    have hrw : W.ownsRow W2.heap.size 60 6 (.slice p3 n c3) n (L.flatMap cP) := own_blkG HO5.out (fun j hj => hcg.block j (HO5.out.lt j hj).2 (fun e => e.elim (HR5.out j hj).1 (fun e => by have := (HR5.out j hj).2; omega)))
    obtain ⟨g3, rfl, hcc⟩ := own_cells cP_len HN.out hrw (Below.refl _ _) q.length p hqx
    have hbw : Below w.heap.size w W := HS5.out.one.bel.trans (hcg.below HS5.out.one.bel.size (fun i hi e => e.elim (fun e => by have := HS5.out.one.fd i e; omega) (fun e => by have := HB12.out; omega)))
    have HBW := Lib.hid hbw
    obtain ⟨c, hc⟩ : ∃ c, q.length = c := ⟨_, rfl⟩
    rw [hc] at hcc hn12 hq1
    rw [hc] at hGW
    have HGW := Lib.hid hGW
    have HC2 := Lib.hid hc
    have x4 := one_cell e4
    have x8 := one_cell e8
    have x10 := one_cell e10
    have x12 := one_cell hn12
    have y12 := one_frozen hn12
    obtain ⟨s0, s1, s2⟩ := V_cells hk1
    obtain ⟨t0, t1, t2⟩ := V_cells hk2
    have r0 := hcc 0 _ rfl
    have r1 := hcc 1 _ rfl
    have r2 := hcc 2 _ rfl
    have r3 := hcc 3 _ rfl
    have r4 := hcc 4 _ rfl
    have r5 := hcc 5 _ rfl
    simp only [Nat.add_zero] at r0
    have hcn : (c : Int) < (n : Int) := by omega
    have hcn2 : ¬ (n : Int) ≤ (c : Int) := by omega
    have hcn3 : decide (n ≤ c) = false := by simp; omega
    have hcmp := fun w => neq_PG w p
    have HK1 := Lib.hid hk1
    have HK2 := Lib.hid hk2
    have HCG := Lib.hid hcg
    have HE4 := Lib.hid e4
    have HE8 := Lib.hid e8
    have HN12 := Lib.hid hn12
    have HSB := Lib.hid hsb
    have HDYH := Lib.hid HDY
    clear hGW hA hk1 hk2 hcg e4 e8 e10 hn12 hsb HDY hcc hrw hc hbw hqx hS hWs hWk hg
    gi_wp2_with fail
    refine quiet_rnd (by kernel_rfl) (by kernel_rfl) (by kernel_rfl) ?_
    repeat (gi_big_quiet_step (fail))
    refine wpQuietIn_nil ?_
    intro _ hw'
    obtain ⟨nq, hw''⟩ := hw'
    subst hw''
    obtain ⟨V, hV⟩ : ∃ V, V = W.drewN nq := ⟨_, rfl⟩
    have hbV : Below W.heap.size W V := by rw [hV]; exact below_dr (Below.refl _ _) _
    rw [← hV]
    clear hV x4 x8 x10 x12 y12 s0 s1 s2 t0 t1 t2 r0 r1 r2 r3 r4 r5 hcn2 hcn3 hcmp
    have HGV := Lib.hid (HGW.out.self.below HD4.out hbV)
    obtain ⟨l', hdr, hll⟩ := HGW.out.dr
    have HDR : Hid (I.DR V a l') := (show I.DR _ _ _ from dr_below hdr hbV)
    have HLE := Lib.hid hll
    have HLV : Hid (b8 < V.heap.size ∧ b4 < V.heap.size) := (show _ ∧ _ from ⟨Nat.lt_of_lt_of_le (Array.getElem?_eq_some_iff.1 HE8.out).1 hbV.size, Nat.lt_of_lt_of_le (Array.getElem?_eq_some_iff.1 HE4.out).1 hbV.size⟩)
    have HLW : Hid (b12 < W.heap.size) := (show _ < _ from HGW.out.lt)
    have x4 := one_cell ((hbV.block b4 (Array.getElem?_eq_some_iff.1 HE4.out).1).trans HE4.out)
    have x8 := one_cell ((hbV.block b8 (Array.getElem?_eq_some_iff.1 HE8.out).1).trans HE8.out)
    have x12 := one_cell HGV.out.n
    have y12 := one_frozen HGV.out.n
    have hbwV : Below w.heap.size w V := HBW.out.trans (hbV.mono HBW.out.size)
    have hcw : IntKind.i64.wrap ((c : Int) + 1) = (c : Int) + 1 := IntWalk.i64_in _ (by omega)
    clear hdr hll hbV
    by_cases hcm : c < mn
    · obtain ⟨x0, hx⟩ : ∃ x, m[c]? = some x := ⟨_, List.getElem?_eq_getElem (by have := HMN.out; omega)⟩
      obtain ⟨gr, o, rfl, hgr, hcs⟩ := HRM.out c x0 hx
      have hcell := fun j u hu => (hbwV.cell (p := ⟨gr, o + c * 8 + j, none⟩) hgr).trans (hcs j u hu)
      have a0 := hcell 0 _ rfl
      have a1 := hcell 1 _ rfl
      have a2 := hcell 2 _ rfl
      have a3 := hcell 3 _ rfl
      have a4 := hcell 4 _ rfl
      have a5 := hcell 5 _ rfl
      have a6 := hcell 6 _ rfl
      have a7 := hcell 7 _ rfl
      simp only [Nat.add_zero] at a0
      have HCK := Lib.hid (HOM.out x0 (List.mem_of_getElem? hx))
      obtain ⟨y, hy⟩ := hid_ex (fit x0)
      have HFK : Hid (Cok y) := (show Cok _ by rw [← hy.out]; exact fit_cok HCK.out)
      have hb1 := i64_and1 y.1
      have hcm' : (c : Int) < (mn : Int) := by omega
      clear hx hcs hcell hbwV
      obtain ⟨par, hpar⟩ : ∃ par, y.1 % 2 = par := ⟨_, rfl⟩
      rw [hpar] at hb1
      by_cases hy2 : par = 0
      · subst hy2
        clear hpar
        have hy2 : True := trivial
        obtain ⟨⟨ok, l''⟩, hp⟩ := hid_ex (Di.put l' y.2.1 y.2.2.1)
        have HL2 : Hid (l''.length ≤ 100 + c + 1) := (show _ ≤ _ by
          have h := (put_length l' y.2.1 y.2.2.1).1
          rw [hp.out] at h
          have := HLE.out
          simp only at h
          omega)
        clear hy2
        gi_wp2_with (first
          | ((try refine ⟨depthless hd _, ?_⟩); gi_at_call 20; refine ((HCI.out _ _ _ _ _ (I.put_ hp (Lib.hid HDR6.out) (by have := HLE.out; omega) HFK.out.k HFK.out.x)).inRound l2).mono ?_; rintro e w7 ⟨rfl, hd7, hb7, hf7⟩; have HG7 := Lib.hid (HG6.out.put hd7.out (by have := HL2.out; omega) hb7.out hf7.out); have x12b := one_cell HG7.out.n; have y12b := one_frozen HG7.out.n)
          | ((try refine ⟨depthless hd _, ?_⟩); gi_at_call 15; refine ((HCI.out _ _ _ _ _ (fit_is hy HCK.out.k.s _)).inRound l2).mono ?_; rintro e w6 ⟨rfl, HB6⟩; have HG6 := Lib.hid ((HGV.out.below HD4.out HB6).below HD4.out (below_new w6 (.cells #[.int .i64 y.1, .int .i64 y.2.1.1, .int .i64 y.2.1.2.1, .string y.2.1.2.2, .int .i64 y.2.2.1.1, .int .i64 y.2.2.1.2.1, .string y.2.2.1.2.2, .bool y.2.2.2] 34))); have HDR6 : Hid (I.DR (w6.alloc (.cells #[.int .i64 y.1, .int .i64 y.2.1.1, .int .i64 y.2.1.2.1, .string y.2.1.2.2, .int .i64 y.2.2.1.1, .int .i64 y.2.2.1.2.1, .string y.2.2.1.2.2, .bool y.2.2.2] 34)) a l') := (show I.DR _ _ _ from dr_below (dr_below HDR.out HB6) (below_new w6 _)); have x8b := fun o => (World.cell?_alloc_lt w6 o ⟨b8, 0, none⟩ (Nat.lt_of_lt_of_le HLV.out.1 HB6.size)).trans ((HB6.cell (p := ⟨b8, 0, none⟩) HLV.out.1).trans x8)))
        have HGE := Lib.hid (HG7.out.bump HD4.out HLW.out)
        clear x12b y12b x8b a0 a1 a2 a3 a4 a5 a6 a7 x4 x8 x12
        refine ⟨HGE.out.chg, ?_⟩
        have h := (HGW.out.over HGE.out).mono (N' := 100 + (c + 1)) (by omega)
        show Gi I a b12 W5 (100 + (q ++ [p]).length) (q ++ [p]).length _
        rw [List.length_append, List.length_singleton, HC2.out]
        exact h
      · have hy3 : (par == 0) = false := by simp; exact hy2
        clear hpar
        obtain ⟨⟨ok, l''⟩, hp⟩ := hid_ex (Di.del l' y.2.1)
        have HL2 : Hid (l''.length ≤ 100 + c + 1) := (show _ ≤ _ by
          have h := del_length l' y.2.1
          rw [hp.out] at h
          have := HLE.out
          simp only at h
          omega)
        clear hy2
        gi_wp2_with (first
          | ((try refine ⟨depthless hd _, ?_⟩); gi_at_call 23; refine ((HCI.out _ _ _ _ _ (I.del_ hp (Lib.hid HDR6.out) (by have := HLE.out; omega) HFK.out.k)).inRound l2).mono ?_; rintro e w7 ⟨rfl, hd7, hb7, hf7⟩; have HG7 := Lib.hid (HG6.out.put hd7.out (by have := HL2.out; omega) hb7.out hf7.out); have x12b := one_cell HG7.out.n; have y12b := one_frozen HG7.out.n)
          | ((try refine ⟨depthless hd _, ?_⟩); gi_at_call 15; refine ((HCI.out _ _ _ _ _ (fit_is hy HCK.out.k.s _)).inRound l2).mono ?_; rintro e w6 ⟨rfl, HB6⟩; have HG6 := Lib.hid ((HGV.out.below HD4.out HB6).below HD4.out (below_new w6 (.cells #[.int .i64 y.1, .int .i64 y.2.1.1, .int .i64 y.2.1.2.1, .string y.2.1.2.2, .int .i64 y.2.2.1.1, .int .i64 y.2.2.1.2.1, .string y.2.2.1.2.2, .bool y.2.2.2] 34))); have HDR6 : Hid (I.DR (w6.alloc (.cells #[.int .i64 y.1, .int .i64 y.2.1.1, .int .i64 y.2.1.2.1, .string y.2.1.2.2, .int .i64 y.2.2.1.1, .int .i64 y.2.2.1.2.1, .string y.2.2.1.2.2, .bool y.2.2.2] 34)) a l') := (show I.DR _ _ _ from dr_below (dr_below HDR.out HB6) (below_new w6 _)); have x8b := fun o => (World.cell?_alloc_lt w6 o ⟨b8, 0, none⟩ (Nat.lt_of_lt_of_le HLV.out.1 HB6.size)).trans ((HB6.cell (p := ⟨b8, 0, none⟩) HLV.out.1).trans x8)))
        have HGE := Lib.hid (HG7.out.bump HD4.out HLW.out)
        clear x12b y12b x8b a0 a1 a2 a3 a4 a5 a6 a7 x4 x8 x12
        refine ⟨HGE.out.chg, ?_⟩
        have h := (HGW.out.over HGE.out).mono (N' := 100 + (c + 1)) (by omega)
        show Gi I a b12 W5 (100 + (q ++ [p]).length) (q ++ [p]).length _
        rw [List.length_append, List.length_singleton, HC2.out]
        exact h
    · have hcm' : ¬ (c : Int) < (mn : Int) := by omega
      clear hbwV
      gi_wp2_with fail
      have HGE := Lib.hid (HGV.out.bump HD4.out HLW.out)
      refine ⟨HGE.out.chg, ?_⟩
      have h := (HGW.out.over HGE.out).mono (N' := 100 + (c + 1)) (by omega)
      show Gi I a b12 W5 (100 + (q ++ [p]).length) (q ++ [p]).length _
      rw [List.length_append, List.length_singleton, HC2.out]
      exact h
  case done =>
    rintro q A rfl hGA hcA hK hnD
    rw [HN.out] at hGA
    obtain ⟨l', hdr, hll⟩ := hGA.dr
    obtain ⟨n6, hn6⟩ : ∃ n6, l'.length = n6 := ⟨_, rfl⟩
    have HN6 := Lib.hid hn6
    have HDR := Lib.hid hdr
    have hn62 : n6 ≤ 140 := by omega
    have hsb : ∀ b o, W5.heap[b]? = some o → ¬ I.FR W5 a b → b ≠ b12 → A.heap[b]? = some o := fun b o h1 h2 h3 => (hGA.chg.block b (Array.getElem?_eq_some_iff.1 h1).1 (fun e => e.elim h2 h3)).trans h1
    have e5 := hsb (b4 + 1) _ (HS5.out.at_ (b4 + 1) (.cells #[.int .u8 (st : Int)] 5) (by simp)) (HS5.out.ap (b4 + 1) (.cells #[.int .u8 (st : Int)] 5) (by simp)) (by have := HB12.out; omega)
    have e6 := hsb (b4 + 2) _ (HS5.out.at_ (b4 + 2) (.cells #[.bool false] 4) (by simp)) (HS5.out.ap (b4 + 2) (.cells #[.bool false] 4) (by simp)) (by have := HB12.out; omega)
    have e8 := hsb b8 _ (HS5.out.at_ b8 (.cells #[ptrV a] 24) (by simp)) (HS5.out.ap b8 (.cells #[ptrV a] 24) (by simp)) (by have := HB12.out; omega)
    have e10 := hsb b10 _ (HS5.out.at_ b10 (.cells #[.slice p3 n c3] 27) (by simp)) (HS5.out.ap b10 (.cells #[.slice p3 n c3] 27) (by simp)) (by have := HB12.out; omega)
    have e12 := hGA.n
    have hbA : Below w.heap.size w A := HS5.out.one.bel.trans (hGA.chg.below HS5.out.one.bel.size (fun i hi e => e.elim (fun e => by have := HS5.out.one.fd i e; omega) (fun e => by have := HB12.out; omega)))
    have HBA := Lib.hid hbA
    have HGA := Lib.hid hGA
    have HK := Lib.hid hK
    have HE5 := Lib.hid e5
    have HE6 := Lib.hid e6
    have HE8 := Lib.hid e8
    have HE10 := Lib.hid e10
    have HE12 := Lib.hid e12
    have x8 := one_cell e8
    have HGG : Hid (∀ k, G k → A.heap[k]? = W5.heap[k]? ∧ k < b12) := (show ∀ k, _ → _ from fun k hk => ⟨hGA.chg.block k (by have := (HG5.out k hk).2.2.1; omega) (fun e => e.elim (HG5.out k hk).2.1 (fun e => by have := (HG5.out k hk).2.2.1; omega)), (HG5.out k hk).2.2.1⟩)
    clear hg HDY hGA hcA hK hnD hdr hll hn6 hsb e5 e6 e8 e10 e12 hbA
    go_upto_region 22 with (go_at_call 30; refine (pairs_is I HN6 HDR (by omega)).mono ?_; rintro e w6 ⟨p6, c6, rfl, HO6, HB6⟩)
    go_upto_region 23 with (fail)
    obtain ⟨W7, hW⟩ : ∃ W, W = w6.alloc (.cells #[.int .i64 0] 3) := ⟨_, rfl⟩
    obtain ⟨b17, hb⟩ : ∃ b, w6.heap.size = b := ⟨_, rfl⟩
    have hb7 : Below A.heap.size A W7 := by rw [hW]; exact HB6.trans ((below_new w6 _).mono HB6.size)
    have h17 : W7.heap[b17]? = some (.cells #[.int .i64 ((0 : Nat) : Int)] 3) := by rw [hW, ← hb]; exact World.alloc_heap_new _ _
    have hz7 : W7.heap.size = b17 + 1 ∧ A.heap.size ≤ b17 := by rw [hW, ← hb]; exact ⟨by simp, HB6.size⟩
    have HB7 := Lib.hid hb7
    have HZ7 := Lib.hid hz7
    rw [← hW, hb]
    clear hW hb x8 HB6 HO6
    go_wp2_with fail
    refine (wpIn_wide (n := 5)).1 ?_
    rw [← HFW.out]
    have hAlt : b12 < A.heap.size := HGA.out.lt
    have hg2 : GivesR F 4 Try.prog gf lb (fun p : Pr => #[vV p.1, vV p.2]) (fun q => q <+: l') (fun q => q = l') (fun _ k => k = b17) W7 := by
      rw [HFW.out]
      exact HIT5.out 4 W7 l' _ (by omega) (fun k hk => (hb7.block k (by have := (HGG.out k hk).2; omega)).trans (HGG.out k hk).1) (dr_below HDR.out hb7) (by have := HN6.out; omega) (Dyn.const _ _) (fun k hk e => by have := (HGG.out k hk).2; omega)
    have HG2 := Lib.hid hg2
    have HAL := Lib.hid hAlt
    clear hb7 hz7 hg2 hAlt
    refine wpIn_rangeFunc_A hro (depthless hd _) (gf := gf) (lb := lb) rfl (hgn gf) HE.out (R := fun _ k => k = b17) (Dyn.const _ _) HG2.out (fun _ => rfl)
      (fun q X => Chg (fun _ k => k = b17) W7 X ∧ X.heap[b17]? = some (.cells #[.int .i64 (q.length : Int)] 3) ∧ q.length ≤ st)
      (fun c q X => c = .exit 2 ∧ X.heap[b17]? = some (.cells #[.int .i64 (st : Int)] 3) ∧ st < n6)
      (fun q X h hs k hk => by have := HZ7.out.1; omega)
      (fun q X Y h hst hs => ⟨h.1.of_below (Dyn.const _ W7.heap.size) hst.b (Nat.le_refl _) (Nat.le_refl _), (hst.k b17 (by have := HZ7.out.1; omega) rfl).trans h.2.1, h.2.2⟩)
      (fun c q X Y h hB hs => ⟨h.1, (hB.block b17 (by have := HZ7.out.1; omega)).trans h.2.1, h.2.2⟩)
      ⟨Chg.refl _ _, h17, Nat.zero_le _⟩
      (fun p X X' a' => X' = X ∧ a' = { tmps := List.toArray ((Value.slice pa ln cap) :: (Value.slice pm mn cm) :: (Value.int .u8 (st : Int)) :: undef :: (Value.pointer (some ⟨b4, 0, none⟩)) :: (Value.pointer (some ⟨b4 + 1, 0, none⟩)) :: (Value.pointer (some ⟨b4 + 1 + 1, 0, none⟩)) :: (Value.bool true) :: (Value.pointer (some ⟨b8, 0, none⟩)) :: (ptrV br) :: (Value.pointer (some ⟨b10, 0, none⟩)) :: (Value.func (.func gf) #[] lb) :: (Value.pointer (some ⟨b12, 0, none⟩)) :: undef :: undef :: undef :: (Value.slice p6 n6 c6) :: (Value.pointer (some ⟨b17, 0, none⟩)) :: (Value.bool true) :: (Value.tuple #[ptrV a, ptrV br]) :: (Value.slice pa ln cap) :: (Value.tuple #[ptrV a, ptrV br]) :: (ptrV a) :: (ptrV br) :: (Value.bool true) :: (Value.bool false) :: (Value.bool false) :: (ptrV a) :: (Value.bool false) :: (Value.bool false) :: (ptrV a) :: (Value.slice p3 n c3) :: (ptrV a) :: (Value.func (.func gf) #[] lb) :: (Value.func (.func gf) #[] lb) :: (Value.bool false) :: (Value.func (.func gf) #[] lb) :: undef :: undef :: undef :: undef :: undef :: undef :: undef :: undef :: undef :: undef :: undef :: undef :: undef :: undef :: undef :: undef :: undef :: undef :: undef :: undef :: undef :: undef :: undef :: undef :: undef :: undef :: undef :: undef :: undef :: undef :: undef :: undef :: undef :: undef :: undef :: undef :: undef :: undef :: undef :: undef :: undef :: (ptrV a) :: (Value.slice p6 n6 c6) :: (Value.func (.func gf) #[] lb) :: (vV p.1) :: (vV p.2) :: undef :: undef :: undef :: undef :: undef :: undef :: undef :: undef :: undef :: undef :: undef :: undef :: undef :: undef :: undef :: undef :: undef :: undef :: undef :: undef :: undef :: undef :: undef :: undef :: undef :: undef :: []), defers := [] })
      (fun p X X' a' h => by rw [h.1]; exact Below.refl _ _)
      ?assign2 ?body2 ?done2 ?stop2
    case assign2 =>
      intro l2 pre p X K hI hsz hK
      gi_wp2
      try exact hK _ _ ⟨rfl, rfl⟩
    case body2 =>
      rintro l2 q p X X' V a' ⟨rfl, rfl⟩ hX hGV hS hsz hWs hWk
      obtain ⟨hcg, hn17, hle⟩ := hGV
      have hq1 : q.length + 1 ≤ n6 := by
        have h1 := List.IsPrefix.length_le hS
        rw [List.length_append, List.length_singleton, HN6.out] at h1
        exact h1
      have h5 : V.heap[b4 + 1]? = some (.cells #[.int .u8 (st : Int)] 5) := (hcg.block (b4 + 1) (Nat.lt_of_lt_of_le (Array.getElem?_eq_some_iff.1 HE5.out).1 HB7.out.size) (by have := HZ7.out.2; have := HB12.out; have := HAL.out; omega)).trans ((HB7.out.block (b4 + 1) (Array.getElem?_eq_some_iff.1 HE5.out).1).trans HE5.out)
      have x5 := one_cell h5
      obtain ⟨c, hc⟩ : ∃ c, q.length = c := ⟨_, rfl⟩
      have HC2 := Lib.hid hc
      rw [hc] at hn17 hq1 hle
      have x17 := one_cell hn17
      have y17 := one_frozen hn17
      have HN17 := Lib.hid hn17
      have HCG := Lib.hid hcg
      have hcw : IntKind.i64.wrap ((c : Int) + 1) = (c : Int) + 1 := IntWalk.i64_in _ (by omega)
      clear hcg hn17 h5 hc hS hX hWs hWk h17
      by_cases hck : c = st
      · subst hck
        gi_wp2_with fail
        exact ⟨Chg.refl _ _, rfl, HN17.out, by omega⟩
      · have hck' : ¬ (c : Int) = (st : Int) := by omega
        gi_wp2_with fail
        have hch : Chg (fun _ k => k = b17) V (V.setCell ⟨b17, 0, none⟩ (.int .i64 ((c : Int) + 1))) := (Chg.refl (fun _ k => k = b17) V).setCell (Dyn.const _ 0) (p := ⟨b17, 0, none⟩) (Nat.zero_le _) (Nat.zero_le _) (fun _ => rfl) _
        refine ⟨hch, HCG.out.trans hch, ?_, ?_⟩
        · rw [List.length_append, List.length_singleton, HC2.out, set_at HN17.out 0]
          rfl
        · rw [List.length_append, List.length_singleton, HC2.out]; omega
    case done2 =>
      rintro q X hql ⟨hcg, hn17, hle⟩ hcX hK2 hnD
      rw [hql, HN6.out] at hn17 hle
      clear hql
      clear hcg hnD
      have hsp : (n6 : Int) < (st : Int) ∨ (¬ (n6 : Int) < (st : Int) ∧ ((n6 : Int) == (st : Int)) = true) := by
        by_cases h : n6 < st
        · left; omega
        · right; refine ⟨by omega, ?_⟩; simp; omega
      rcases hsp with hs1 | ⟨hs1, hs2⟩
      all_goals
        have hdrW : I.DR W7 a l' := dr_below HDR.out HB7.out
        have hne : ∀ k, k < A.heap.size → X.heap[k]? = A.heap[k]? := fun k hk => (hcX.block k (Nat.lt_of_lt_of_le hk HB7.out.size) (by have := HZ7.out.2; omega)).trans (HB7.out.block k hk)
        have hdrX : I.DR X a l' := (I.kept HDR.out (Nat.le_trans HB7.out.size hcX.size) (fun k hk => hne k (I.lt HDR.out hk))).1
        have HDX := Lib.hid hdrX
        have h5 := (hne (b4 + 1) (Array.getElem?_eq_some_iff.1 HE5.out).1).trans HE5.out
        have h6 : X.heap[b4 + 1 + 1]? = some (.cells #[.bool false] 4) := (hne (b4 + 2) (Array.getElem?_eq_some_iff.1 HE6.out).1).trans HE6.out
        have h8 := (hne b8 (Array.getElem?_eq_some_iff.1 HE8.out).1).trans HE8.out
        have h10 := (hne b10 (Array.getElem?_eq_some_iff.1 HE10.out).1).trans HE10.out
        have h12 := (hne b12 (Array.getElem?_eq_some_iff.1 HE12.out).1).trans HE12.out
        have hk1 := (hne W5.heap.size (Array.getElem?_eq_some_iff.1 HK.out).1).trans HK.out
        have HK1 := Lib.hid hk1
        have HK2 := Lib.hid hK2
        have x5 := one_cell h5
        have x6 := one_cell h6
        have y6 := one_frozen h6
        have x8 := one_cell h8
        have x10 := one_cell h10
        have x12 := one_cell h12
        have x17 := one_cell hn17
        have H6 := Lib.hid h6
        have HXB : Hid (Below w.heap.size w X) := (show Below _ _ _ from HBA.out.trans ⟨hcX.os.trans HB7.out.os, hcX.tape.trans HB7.out.tape, hcX.output.trans HB7.out.output, Nat.le_trans HB7.out.size hcX.size, fun k hk => hne k (by have := HBA.out.size; omega)⟩)
        have HWNE : Hid (W5.heap.size < W7.heap.size) := (show _ < _ from Nat.lt_of_lt_of_le (Array.getElem?_eq_some_iff.1 HK.out).1 HB7.out.size)
        have HWS : Hid (w.heap.size ≤ b4 ∧ b4 + 2 < W5.heap.size ∧ W5.heap.size ≤ A.heap.size ∧ A.heap.size ≤ W7.heap.size) := (show _ ∧ _ ∧ _ ∧ _ from ⟨HB12.out.2.2.2, by have := HB12.out; have := HZ5.out.1; omega, HGA.out.chg.size, HB7.out.size⟩)
        clear hdrW hne hdrX h5 h6 h8 h10 h12 hk1 hcX hK2 hn17 h17
        go_wp2_with (go_at_call 25; refine (I.len_ HN6 HDX (by omega)).mono ?_; rintro e w9 ⟨rfl, HB9⟩; have h6b := (HB9.block (b4 + 1 + 1) (Array.getElem?_eq_some_iff.1 H6.out).1).trans H6.out; have H6B := Lib.hid h6b; have x6b := one_cell h6b; have y6b := one_frozen h6b; clear h6b)
        have hK9 := (HB9.block W7.heap.size (Array.getElem?_eq_some_iff.1 HK2.out).1).trans HK2.out
        have hJ9 := (HB9.block W5.heap.size (Array.getElem?_eq_some_iff.1 HK1.out).1).trans HK1.out
        have hK8 := (Below.heap_setCell w9 ⟨b4 + 1 + 1, 0, none⟩ (.bool true) W7.heap.size (by have := HWS.out; show W7.heap.size ≠ b4 + 1 + 1; omega)).trans hK9
        have hJ8 := (Below.heap_setCell w9 ⟨b4 + 1 + 1, 0, none⟩ (.bool true) W5.heap.size (by have := HWS.out; show W5.heap.size ≠ b4 + 1 + 1; omega)).trans hJ9
        have hJ7 := (World.putObj_heap_other (w := w9.setCell ⟨b4 + 1 + 1, 0, none⟩ (.bool true)) (o := .deferred none) (show W5.heap.size ≠ W7.heap.size by have := HWNE.out; omega)).trans hJ8
        have hcell : (((w9.setCell ⟨b4 + 1 + 1, 0, none⟩ (.bool true)).putObj W7.heap.size (.deferred none)).putObj W5.heap.size (.deferred none)).cell? ⟨b4 + 1 + 1, 0, none⟩ = some (.bool true) := by
          refine (World.cell?_of_block (a := ⟨b4 + 1 + 1, 0, none⟩) ((World.putObj_heap_other (by have := HWS.out; show b4 + 1 + 1 ≠ W5.heap.size; omega)).trans (World.putObj_heap_other (by have := HWS.out; show b4 + 1 + 1 ≠ W7.heap.size; omega)))).trans ?_
          exact World.cell?_setCell_same' _ _ _ (by rw [x6b]; rfl)
        refine ⟨by simp, .inl ⟨_, _, rfl, run_takeDeferred hK8, ?_⟩⟩
        refine ⟨by simp, .inl ⟨_, _, rfl, run_takeDeferred hJ7, ?_⟩⟩
        refine ⟨.bool true, ?_, rfl, ?_⟩
        · simp [results, go_sem, hcell]
        · have hb : Below w.heap.size w w9 := HXB.out.trans (HB9.mono HXB.out.size)
          exact ((hb.setCell (p := ⟨b4 + 1 + 1, 0, none⟩) (by have := HWS.out.1; show w.heap.size ≤ b4 + 1 + 1; omega) _).trans (below_putObj _ (by have := HWS.out; omega) _)).trans (below_putObj _ (by have := HWS.out; omega) _)
    case stop2 =>
      rintro c q X ⟨rfl, hn17, hlt⟩ hcX hK2
      refine wpIn_exit ?_
      have hdrW : I.DR W7 a l' := dr_below HDR.out HB7.out
      have hne : ∀ k, k < A.heap.size → X.heap[k]? = A.heap[k]? := fun k hk => (hcX.block k (Nat.lt_of_lt_of_le hk HB7.out.size) (by have := HZ7.out.2; omega)).trans (HB7.out.block k hk)
      have hdrX : I.DR X a l' := (I.kept HDR.out (Nat.le_trans HB7.out.size hcX.size) (fun k hk => hne k (I.lt HDR.out hk))).1
      have HDX := Lib.hid hdrX
      have h5 := (hne (b4 + 1) (Array.getElem?_eq_some_iff.1 HE5.out).1).trans HE5.out
      have h6 : X.heap[b4 + 1 + 1]? = some (.cells #[.bool false] 4) := (hne (b4 + 2) (Array.getElem?_eq_some_iff.1 HE6.out).1).trans HE6.out
      have h8 := (hne b8 (Array.getElem?_eq_some_iff.1 HE8.out).1).trans HE8.out
      have h10 := (hne b10 (Array.getElem?_eq_some_iff.1 HE10.out).1).trans HE10.out
      have h12 := (hne b12 (Array.getElem?_eq_some_iff.1 HE12.out).1).trans HE12.out
      have hk1 := (hne W5.heap.size (Array.getElem?_eq_some_iff.1 HK.out).1).trans HK.out
      have HK1 := Lib.hid hk1
      have HK2 := Lib.hid hK2
      have x5 := one_cell h5
      have x6 := one_cell h6
      have y6 := one_frozen h6
      have x8 := one_cell h8
      have x10 := one_cell h10
      have x12 := one_cell h12
      have x17 := one_cell hn17
      have H6 := Lib.hid h6
      have HXB : Hid (Below w.heap.size w X) := (show Below _ _ _ from HBA.out.trans ⟨hcX.os.trans HB7.out.os, hcX.tape.trans HB7.out.tape, hcX.output.trans HB7.out.output, Nat.le_trans HB7.out.size hcX.size, fun k hk => hne k (by have := HBA.out.size; omega)⟩)
      have HWNE : Hid (W5.heap.size < W7.heap.size) := (show _ < _ from Nat.lt_of_lt_of_le (Array.getElem?_eq_some_iff.1 HK.out).1 HB7.out.size)
      have HWS : Hid (w.heap.size ≤ b4 ∧ b4 + 2 < W5.heap.size ∧ W5.heap.size ≤ A.heap.size ∧ A.heap.size ≤ W7.heap.size) := (show _ ∧ _ ∧ _ ∧ _ from ⟨HB12.out.2.2.2, by have := HB12.out; have := HZ5.out.1; omega, HGA.out.chg.size, HB7.out.size⟩)
      have hmin : (if (n6 : Int) < (st : Int) then (n6 : Int) else (st : Int)) = (st : Int) := by
        by_cases h : (n6 : Int) < (st : Int)
        · first | (rw [if_pos h]; done) | (rw [if_pos h]; omega)
        · first | (rw [if_neg h]; done) | (rw [if_neg h]; omega)
      clear hdrW hne hdrX h5 h6 h8 h10 h12 hk1 hcX hK2 hn17 h17
      go_wp2_with (go_at_call 25; refine (I.len_ HN6 HDX (by omega)).mono ?_; rintro e w9 ⟨rfl, HB9⟩; have h6b := (HB9.block (b4 + 1 + 1) (Array.getElem?_eq_some_iff.1 H6.out).1).trans H6.out; have H6B := Lib.hid h6b; have x6b := one_cell h6b; have y6b := one_frozen h6b; clear h6b)
      have hK9 := (HB9.block W7.heap.size (Array.getElem?_eq_some_iff.1 HK2.out).1).trans HK2.out
      have hJ9 := (HB9.block W5.heap.size (Array.getElem?_eq_some_iff.1 HK1.out).1).trans HK1.out
      have hK8 := (Below.heap_setCell w9 ⟨b4 + 1 + 1, 0, none⟩ (.bool true) W7.heap.size (by have := HWS.out; show W7.heap.size ≠ b4 + 1 + 1; omega)).trans hK9
      have hJ8 := (Below.heap_setCell w9 ⟨b4 + 1 + 1, 0, none⟩ (.bool true) W5.heap.size (by have := HWS.out; show W5.heap.size ≠ b4 + 1 + 1; omega)).trans hJ9
      have hJ7 := (World.putObj_heap_other (w := w9.setCell ⟨b4 + 1 + 1, 0, none⟩ (.bool true)) (o := .deferred none) (show W5.heap.size ≠ W7.heap.size by have := HWNE.out; omega)).trans hJ8
      have hcell : (((w9.setCell ⟨b4 + 1 + 1, 0, none⟩ (.bool true)).putObj W7.heap.size (.deferred none)).putObj W5.heap.size (.deferred none)).cell? ⟨b4 + 1 + 1, 0, none⟩ = some (.bool true) := by
        refine (World.cell?_of_block (a := ⟨b4 + 1 + 1, 0, none⟩) ((World.putObj_heap_other (by have := HWS.out; show b4 + 1 + 1 ≠ W5.heap.size; omega)).trans (World.putObj_heap_other (by have := HWS.out; show b4 + 1 + 1 ≠ W7.heap.size; omega)))).trans ?_
        exact World.cell?_setCell_same' _ _ _ (by rw [x6b]; rfl)
      refine ⟨by simp, .inl ⟨_, _, rfl, run_takeDeferred hK8, ?_⟩⟩
      refine ⟨by simp, .inl ⟨_, _, rfl, run_takeDeferred hJ7, ?_⟩⟩
      refine ⟨.bool true, ?_, rfl, ?_⟩
      · simp [results, go_sem, hcell]
      · have hb : Below w.heap.size w w9 := HXB.out.trans (HB9.mono HXB.out.size)
        exact ((hb.setCell (p := ⟨b4 + 1 + 1, 0, none⟩) (by have := HWS.out.1; show w.heap.size ≤ b4 + 1 + 1; omega) _).trans (below_putObj _ (by have := HWS.out; omega) _)).trans (below_putObj _ (by have := HWS.out; omega) _)
  case stop =>
    rintro c q A h
    exact h.elim
end lawDictGoes
end Go.Proofs.Ytaghkidelbepnaa
