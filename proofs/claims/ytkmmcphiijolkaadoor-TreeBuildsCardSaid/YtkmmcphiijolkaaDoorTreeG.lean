/-
  What is below a node: the function that goes into itself, at this program.
-/
import Derived.Test.YtkmmcphiijolkaaDoorTreeF
set_option linter.unusedVariables false
set_option linter.unusedSimpArgs false
namespace Go.Proofs.YtkmmcphiijolkaaDoor
open Go.RowKit Go.Shelf
open Tr
attribute [local go_sem] Oper.semAt_some

/-- Where the function's variables lie: R, what rounds may turn; B0, C0, where what is its own begins, and ends. -/
structure TellAt (w0 : World) (R : World → Nat → Prop) (l bT bY bTr bF bM B0 C0 : Nat) : Prop where
  r : ∀ A k, R A k → w0.heap.size ≤ k
  d : Dyn R B0
  l1 : w0.heap.size ≤ l
  l2 : l < B0
  tr : bTr < B0 ∧ bTr ≠ l
  t : B0 ≤ bT ∧ bT < C0 ∧ bT ≠ bM
  y : B0 ≤ bY ∧ bY < C0 ∧ bY ≠ bM
  f : B0 ≤ bF ∧ bF < C0 ∧ bF ≠ bM
  m : B0 ≤ bM ∧ bM < C0
  c : B0 ≤ C0
/-- What the function finds: its variables, and what has been told. -/
structure TellSt (R : World → Nat → Prop) (w0 : World) (t : List NodeD) (tv : Value) (l bT bY bTr bF bM : Nat) (pre : List Nat) (W : World) : Prop where
  c1 : W.cell? ⟨bT, 0, none⟩ = some (.map (some bM))
  c2 : W.cell? ⟨bY, 0, none⟩ = some (.func (.yield l) #[] #[])
  c3 : W.cell? ⟨bTr, 0, none⟩ = some tv
  c4 : W.cell? ⟨bF, 0, none⟩ = some (.func (.func 37) #[] #[.pointer (some ⟨bT, 0, none⟩), .pointer (some ⟨bY, 0, none⟩), .pointer (some ⟨bTr, 0, none⟩), .pointer (some ⟨bF, 0, none⟩)])
  m : MapI W bM pre.length (fun x => if 0 ≤ x ∧ x.toNat ∈ pre then some (.bool true) else none)
  b : Below w0.heap.size w0 W
  few : Few t pre
  n1 : ¬ R W bT
  n2 : ¬ R W bY
  n3 : ¬ R W bTr
  n4 : ¬ R W bF
  n5 : ¬ R W bM
theorem TellSt.chg {w0 : World} {R : World → Nat → Prop} {B0 C0 : Nat} {t : List NodeD} {tv : Value} {l bT bY bTr bF bM : Nat} {pre : List Nat} {A B : World} (h : TellSt R w0 t tv l bT bY bTr bF bM pre A) (ha : TellAt w0 R l bT bY bTr bF bM B0 C0) (hA : C0 ≤ A.heap.size) (hc : Chg (fun A k => R A k ∨ k = l) A B) : TellSt R w0 t tv l bT bY bTr bF bM pre B := by
  have h0 := ha.c
  have hl2 := ha.l2
  have hw0 : w0.heap.size ≤ A.heap.size := by have := ha.l1; omega
  have k1 := hc.both bT (by have := ha.t; omega) (fun e => e.elim h.n1 (fun e => by have := ha.t; omega))
  have k2 := hc.both bY (by have := ha.y; omega) (fun e => e.elim h.n2 (fun e => by have := ha.y; omega))
  have k3 := hc.both bTr (by have := ha.tr; omega) (fun e => e.elim h.n3 (fun e => by have := ha.tr; omega))
  have k4 := hc.both bF (by have := ha.f; omega) (fun e => e.elim h.n4 (fun e => by have := ha.f; omega))
  have k5 := hc.both bM (by have := ha.m; omega) (fun e => e.elim h.n5 (fun e => by have := ha.m; omega))
  exact ⟨(World.cell?_of_block (w := A) k1.1).trans h.c1, (World.cell?_of_block (w := A) k2.1).trans h.c2, (World.cell?_of_block (w := A) k3.1).trans h.c3, (World.cell?_of_block (w := A) k4.1).trans h.c4, h.m.of_block k5.1,
    h.b.trans (hc.below hw0 (fun i hi e => e.elim (fun e => by have := ha.r _ i e; omega) (fun e => by have := ha.l1; omega))), h.few, fun e => k1.2 (Or.inl e), fun e => k2.2 (Or.inl e), fun e => k3.2 (Or.inl e), fun e => k4.2 (Or.inl e), fun e => k5.2 (Or.inl e)⟩
theorem TellSt.below {w0 : World} {R : World → Nat → Prop} {B0 C0 : Nat} {t : List NodeD} {tv : Value} {l bT bY bTr bF bM : Nat} {pre : List Nat} {A B : World} (h : TellSt R w0 t tv l bT bY bTr bF bM pre A) (ha : TellAt w0 R l bT bY bTr bF bM B0 C0) (hb : Below C0 A B) : TellSt R w0 t tv l bT bY bTr bF bM pre B := by
  have h0 := ha.c
  have hw0 : w0.heap.size ≤ C0 := by have := ha.l1; have := ha.l2; omega
  have hd := fun k => ha.d A B (hb.mono h0) k
  exact ⟨(World.cell?_of_block (w := A) (hb.block _ ha.t.2.1)).trans h.c1, (World.cell?_of_block (w := A) (hb.block _ ha.y.2.1)).trans h.c2, (World.cell?_of_block (w := A) (hb.block _ (Nat.lt_of_lt_of_le ha.tr.1 h0))).trans h.c3, (World.cell?_of_block (w := A) (hb.block _ ha.f.2.1)).trans h.c4, h.m.of_block (hb.block _ ha.m.2),
    h.b.trans (hb.mono hw0), h.few, fun e => h.n1 (hd _ e), fun e => h.n2 (hd _ e), fun e => h.n3 (hd _ e), fun e => h.n4 (hd _ e), fun e => h.n5 (hd _ e)⟩

theorem zero_bool (w : World) : (zeroValue 4).run Tryd.prog w = .ok (.bool false) w := Tryd.zeroValue4 w
theorem wf_node {i n : Nat} (h : i < n) (hn : n ≤ 1000000) : (Lit.int .i64 (i : Int)).wf = true := by
  have h1 := wrap64_wf (i : Int)
  rwa [show wrap64 (i : Int) = (i : Int) by unfold wrap64; omega] at h1
theorem TellSt.told {R : World → Nat → Prop} {w0 : World} {t : List NodeD} {tv : Value} {l bT bY bTr bF bM : Nat} {pre : List Nat} {W : World} (h : TellSt R w0 t tv l bT bY bTr bF bM pre W) {i : Nat} (hi : i < t.length) (hl : t.length ≤ 1000000) :
    (Instr.lookup 67 (.map (some bM)) (.int .i64 (i : Int)) false).run Tryd.prog W = .ok (.bool (decide (i ∈ pre))) W := by
  have := h.m.get 67 4 Tryd.underlying67 (zero_bool W) (i : Int) (wf_node hi hl)
  rw [this]
  by_cases hp : i ∈ pre <;> simp [hp]
theorem TellSt.tell {w0 : World} {R : World → Nat → Prop} {B0 C0 : Nat} {t : List NodeD} {tv : Value} {l bT bY bTr bF bM : Nat} {pre : List Nat} {W : World} (h : TellSt R w0 t tv l bT bY bTr bF bM pre W) (ha : TellAt w0 R l bT bY bTr bF bM B0 C0) {i : Nat} (hi : i < t.length) (hl : t.length ≤ 1000000) (hn : i ∉ pre) :
    ∃ W2, (Instr.mapUpdate 67 (.map (some bM)) (.int .i64 (i : Int)) (.bool true)).run Tryd.prog W = .ok () W2 ∧ TellSt R w0 t tv l bT bY bTr bF bM (pre ++ [i]) W2 ∧ W.grownBy W2 (some bM) := by
  have hlen := few_length h.few
  obtain ⟨W2, h1, h2, h3⟩ := h.m.put (by omega) 67 4 Tryd.underlying67 (i : Int) (wf_node hi hl) (.bool true)
  have hw0 : ∀ b, b < W.heap.size → b ≠ bM → W2.heap[b]? = W.heap[b]? := fun b hb hne => h3.block b hb (by simpa using hne)
  have hlt : ∀ {b : Nat} {v : Value}, W.cell? ⟨b, 0, none⟩ = some v → b < W.heap.size := fun {b} {v} hc => by
    unfold World.cell? at hc
    rcases Nat.lt_or_ge b W.heap.size with h | h
    · exact h
    · rw [Array.getElem?_eq_none h] at hc; simp at hc
  have hbM := h.m.lt
  have hb2 : Below B0 W W2 := (Below.refl B0 W).grown h3 (by have := ha.m; omega) (fun k e => by cases e; exact ha.m.1)
  have hdy := fun k => ha.d W W2 hb2 k
  refine ⟨W2, h1, ⟨(World.cell?_of_block (w := W) (hw0 _ (hlt h.c1) ha.t.2.2)).trans h.c1, (World.cell?_of_block (w := W) (hw0 _ (hlt h.c2) ha.y.2.2)).trans h.c2, (World.cell?_of_block (w := W) (hw0 _ (hlt h.c3) (Nat.ne_of_lt (Nat.lt_of_lt_of_le ha.tr.1 ha.m.1)))).trans h.c3, (World.cell?_of_block (w := W) (hw0 _ (hlt h.c4) ha.f.2.2)).trans h.c4, ?_, ?_, few_snoc h.few hi hn, fun e => h.n1 (hdy _ e), fun e => h.n2 (hdy _ e), fun e => h.n3 (hdy _ e), fun e => h.n4 (hdy _ e), fun e => h.n5 (hdy _ e)⟩, h3⟩
  · have := h2.congr (g := fun x => if 0 ≤ x ∧ x.toNat ∈ pre ++ [i] then some (.bool true) else none) (fun x _ => by
      by_cases e : x = (i : Int)
      · subst e; simp
      · simp only [if_neg e]
        by_cases h0 : 0 ≤ x
        · have : (x.toNat ∈ pre ++ [i]) ↔ x.toNat ∈ pre := by
            rw [List.mem_append]
            simp
            intro e2; exact absurd (by omega) e
          simp only [this]
        · simp [h0])
    rw [List.length_append]
    exact this
  · have hb := h.b.size
    exact h.b.grown h3 hb (fun k e => by cases e; have := ha.l1; have := ha.l2; have := ha.m; omega)

theorem results_bool {fn : Func} {p : Tmp} (h : fn.results = #[.cell p 4]) (tmps : Array Value) (w : World) (H : Nat) (b : Bool) (hp : tmps.getD p undef = .pointer (some ⟨H, 0, none⟩)) (hc : w.cell? ⟨H, 0, none⟩ = some (.bool b)) :
    (results fn tmps).run Tryd.prog w = .ok (.bool b) w := by
  have hp' : tmps[p]?.getD undef = .pointer (some ⟨H, 0, none⟩) := by simpa using hp
  simp [results, h, hp', asAddr, go_sem, hc]

set_option maxHeartbeats 16000000 in
set_option maxRecDepth 100000 in
theorem tell_any (F : Fence) (hd : F.depth = none) (hro : F.round = none) (hf90 : F.fn 37) (hf45 : F.fn 27) (hf40 : F.fn 39) (hf87 : F.fn 68)
    (w0 : World) (tv : Value) (t : List NodeD) (ha : ArgT tv t w0) (hl : t.length ≤ 1000000) (hks : ∀ x ∈ t, x.2.2.2.2.length ≤ maxLen) (R : World → Nat → Prop) (l bT bY bTr bF bM B0 C0 : Nat) (hat : TellAt w0 R l bT bY bTr bF bM B0 C0)
    (J Jx : List Nat → World → Prop) (hr1 : ∀ pre A, J pre A → B0 ≤ A.heap.size → ∀ k, R A k → k < A.heap.size) (hJ : ∀ pre A B, J pre A → Stp R B0 A B → B0 ≤ A.heap.size → J pre B) (hJx : ∀ pre A B, Jx pre A → Below B0 A B → B0 ≤ A.heap.size → Jx pre B)
    (hY : ∀ (m : Nat) (pre : List Nat) (x : Nat) (A : World), J pre A → B0 ≤ A.heap.size → Few t (pre ++ [x]) → YieldAt F m Tryd.prog l #[.int .i64 (x : Int)] A fun e B => Chg (fun A k => R A k ∨ k = l) A B ∧ ((e = .returned (.bool true) ∧ J (pre ++ [x]) B) ∨ (e = .returned (.bool false) ∧ Jx (pre ++ [x]) B))) :
    ∀ (f i : Nat) (pre : List Nat) (W : World) (n : Nat), i < f → i < t.length → C0 ≤ W.heap.size → TellSt R w0 t tv l bT bY bTr bF bM pre W → J pre W →
      CallsIn F n Tryd.prog 37 #[.int .i64 (i : Int), .pointer (some ⟨bT, 0, none⟩), .pointer (some ⟨bY, 0, none⟩), .pointer (some ⟨bTr, 0, none⟩), .pointer (some ⟨bF, 0, none⟩)] W fun e B =>
        Chg (fun A k => R A k ∨ k = l ∨ k = bM) W B ∧ ((e = .returned (.bool true) ∧ J (goT t f pre i) B ∧ TellSt R w0 t tv l bT bY bTr bF bM (goT t f pre i) B) ∨ (e = .returned (.bool false) ∧ ∃ q, Jx q B)) := by
  intro f
  induction f with
  | zero => intro i pre W n h; omega
  | succ f ih =>
    intro i pre W n hif hit hCW hst hj
    obtain ⟨W1, hW1⟩ : ∃ W1, W1 = W.alloc (.cells #[.bool false] 4) := ⟨_, rfl⟩
    have hbel1 : Below W.heap.size W W1 := by rw [hW1]; exact (Below.refl _ _).alloc (Nat.le_refl _) _
    have hcell1 : W1.cell? ⟨W.heap.size, 0, none⟩ = some (.bool false) := by rw [hW1]; simp
    have hfr1 : W1.frozen? ⟨W.heap.size, 0, none⟩ = false := by rw [hW1]; simp
    have hsz1 : W1.heap.size = W.heap.size + 1 := by rw [hW1]; simp
    have hst1 := hst.below hat (hbel1.mono hCW)
    have hBC := hat.c
    have hDl := hat.d.or (fun k => k = l)
    have hDm := hat.d.or (fun k => k = l ∨ k = bM)
    have hDH := hat.d.or (fun k => k = l ∨ k = bM ∨ k = W.heap.size)
    have hj1 : J pre W1 := hJ _ _ _ hj (Stp.all hbel1 (by omega)) (by omega)
    have k1 := hst1.c1
    have hlk := hst1.told hit hl
    have HW1 := Lib.hid hW1
    by_cases hmem : i ∈ pre
    · rw [show decide (i ∈ pre) = true by simp [hmem]] at hlk
      have hg : goT t (f + 1) pre i = pre := by unfold goT; rw [if_pos hmem]
      rw [hg]
      have HST := Lib.hid hst
      have HX : Hid (∀ B : World, Below W.heap.size W B → J pre B ∧ TellSt R w0 t tv l bT bY bTr bF bM pre B ∧ Chg (fun A k => R A k ∨ k = l ∨ k = bM) W B) := fun B hb => ⟨hJ _ _ _ hj (Stp.all hb (by omega)) (by omega), hst.below hat (hb.mono hCW), (Chg.refl _ W).of_below hDm hb (Nat.le_refl _) (by omega)⟩
      rw [hW1] at hlk k1
      clear hg hst hJ hJx hY ih hst1 hj hj1 hW1 hmem hat hDl hDm hDH hr1 hcell1 hfr1 hsz1 hbel1
      refine callsIn_of_wp Tryd.func37 rfl hf90 ?_ hro
      simp only [Tryd.ntmps37, List.size_toArray, List.length_cons, List.length_nil, Nat.reduceAdd, Nat.reduceSub, Array.replicate_succ, Array.replicate_zero, List.push_toArray, List.append_toArray, List.nil_append, List.cons_append]
      gi_wp2
      refine bodyPost_ret (results_bool rfl _ _ _ true rfl (by simp)) rfl ?_
      obtain ⟨q1, q2, q3⟩ := HX.out _ ((Below.refl _ W).alloc (Nat.le_refl _) (.cells #[.bool true] 4))
      exact ⟨q3, .inl ⟨rfl, q1, q2⟩⟩
    · rw [show decide (i ∈ pre) = false by simp [hmem]] at hlk
      obtain ⟨W2, hup, hst2, hg2⟩ := hst1.tell hat hit hl hmem
      have hbM : C0 ≤ W1.heap.size := by omega
      have hW12 : Below W.heap.size W1 W2 ∨ True := Or.inr trivial
      have hc2 : Chg (fun A k => R A k ∨ k = l ∨ k = bM) W W2 := ((Chg.refl _ W).of_below hDm hbel1 (Nat.le_refl _) (by omega)).grown hDm hat.m.1 (by omega) hg2 (fun _ => Or.inr (Or.inr rfl))
      have hsz2 : W.heap.size + 1 ≤ W2.heap.size := by have := hg2.size; omega
      have hHM : W.heap.size ≠ bM := by have := hat.m; omega
      have hcell2 : W2.cell? ⟨W.heap.size, 0, none⟩ = some (.bool false) := (World.cell?_of_block (w := W1) (hg2.block W.heap.size (by omega) (by simpa using hHM))).trans hcell1
      have hfr2 : W2.frozen? ⟨W.heap.size, 0, none⟩ = false := (World.frozen?_of_block (w := W1) (hg2.block W.heap.size (by omega) (by simpa using hHM))).trans hfr1
      have hb12 : Below B0 W1 W2 := (Below.refl B0 W1).grown hg2 (by omega) (fun k e => by cases e; exact hat.m.1)
      have hj2 : J pre W2 := hJ _ _ _ hj1 (Stp.grown hat.m.1 (by omega) hg2 hst1.n5) (by omega)
      obtain ⟨fn, tmps, assign, body, hy, hRd⟩ := hY (n - 1) pre i W2 hj2 (by omega) hst2.few
      have hy1 := hst2.c2
      have hk1 := hst1.c1
      rw [hW1] at hlk k1 hup hk1
      have HH : Hid (W.heap.size + 1 ≤ W2.heap.size) := hsz2
      have HST2 := Lib.hid hst2
      have hlH : W.heap.size ≠ l := by have := hat.l2; omega
      have hnH : ¬ (R W2 W.heap.size ∨ W.heap.size = l) := fun e => e.elim (fun e => by
        have := hr1 _ _ hj (by omega) _ (hat.d _ _ (hbel1.mono (by omega)) _ (hat.d _ _ hb12 _ e))
        omega) hlH
      have HN : Hid (∀ B, Chg (fun A k => R A k ∨ k = l) W2 B → B.cell? ⟨W.heap.size, 0, none⟩ = some (.bool false) ∧ B.frozen? ⟨W.heap.size, 0, none⟩ = false ∧ B.cell? ⟨bTr, 0, none⟩ = some tv ∧ W.heap.size + 1 ≤ B.heap.size ∧ ¬ R B W.heap.size) := fun B hB =>
        have h1 := hB.both W.heap.size (by omega) hnH
        ⟨(World.cell?_of_block (w := W2) h1.1).trans hcell2, (World.frozen?_of_block (w := W2) h1.1).trans hfr2, (hst2.chg hat (by omega) hB).c3, Nat.le_trans hsz2 hB.size, fun e => h1.2 (Or.inl e)⟩
      clear hst hj hst1 hj1 hj2 hW1 hb12 hcell1 hfr1 hsz1 hbel1 hW12 hg2 hst2
      refine callsIn_of_wp_marks Tryd.func37 rfl hf90 ?_ hro
      simp only [Tryd.ntmps37, List.size_toArray, List.length_cons, List.length_nil, Nat.reduceAdd, Nat.reduceSub, Array.replicate_succ, Array.replicate_zero, List.push_toArray, List.append_toArray, List.nil_append, List.cons_append]
      gi_wp2_with ((try refine ⟨depthless hd _, ?_⟩); refine hRd.mono ?_; clear hRd; rintro e W3 ⟨hc3, (⟨rfl, hJ3⟩ | ⟨rfl, hJx3⟩)⟩ <;> obtain ⟨e1, e2, e3, e4, e5⟩ := HN.out W3 hc3)
      · -- the round went on
        have hst3 := HST2.out.chg hat (by omega) hc3
        have hc3' : Chg (fun A k => R A k ∨ k = l ∨ k = bM) W W3 := hc2.then hc3 (fun k _ e => Or.inl e)
        obtain ⟨x, hx⟩ : ∃ x, t[i]? = some x := ⟨_, List.getElem?_eq_getElem hit⟩
        have hxl := hks x (List.mem_of_getElem? hx)
        have hna : nodeAt t (i : Int) = x := by unfold nodeAt; rw [Int.toNat_natCast, hx]; rfl
        have hgo : Hid (goT t (f + 1) pre i = (kidsOf i x.2.2.2.2).foldl (goT t f) (pre ++ [i])) := by
          show goT t (f + 1) pre i = _
          rw [goT, if_neg hmem, hna]
        clear hna hcell2 hfr2 HN hlk k1 hup hk1 hy hy1 hc2 hc3 hmem
        refine (kids_in F hd _ hf45 hf40 hro tv t w0 W3 ha hst3.b i x hx hl).mono ?_
        rintro e W4 ⟨v, hkv, rfl, hW4⟩
        have hb34 : Below W3.heap.size W3 W4 := by rw [hW4]; exact ((Below.refl _ _).alloc (Nat.le_refl _) _).alloc (by simp) _
        have hs4 : W4.heap.size = W3.heap.size + 2 := by rw [hW4]; simp
        have hq1 : W4.cell? ⟨W3.heap.size, 0, none⟩ = some v := by rw [hW4, World.cell?_alloc_past _ _ _ (by simp), World.cell?_alloc_at _ _ _ _ rfl]; rfl
        have hq2 : W4.cell? ⟨W3.heap.size + 1, 0, none⟩ = some (.int .i64 (i : Int)) := by
          rw [hW4]
          rw [World.cell?_alloc_at _ _ _ _ (by simp)]; rfl
        clear hW4
        gi_wp2
        have hD0 : C0 ≤ W4.heap.size := by omega
        have hst4 := hst3.below hat (hb34.mono (by omega))
        have hj4 : J (pre ++ [i]) W4 := hJ _ _ _ hJ3 (Stp.all hb34 (by omega)) (by omega)
        have hc4 : Chg (fun A k => R A k ∨ k = l ∨ k = bM) W W4 := hc3'.of_below hDm hb34 (by omega) (by omega)
        have hr1' : W4.cell? ⟨W.heap.size, 0, none⟩ = some (.bool false) := (hb34.cell (p := ⟨W.heap.size, 0, none⟩) (by show W.heap.size < _; omega)).trans e1
        have hr2 : W4.frozen? ⟨W.heap.size, 0, none⟩ = false := (hb34.frozen (p := ⟨W.heap.size, 0, none⟩) (by show W.heap.size < _; omega)).trans e2
        have hHW : W.heap.size < W4.heap.size := by omega
        have hRR : ∀ A k, (R A k ∨ k = l ∨ k = bM ∨ k = W.heap.size) → w0.heap.size ≤ k := fun A k e => by
          have h2 := hat.l2
          have h1 := hat.l1
          have h3 := hat.m
          rcases e with e | e | e | e
          · exact hat.r _ k e
          · omega
          · omega
          · omega
        have hbm := hat.m
        have hl2' := hat.l2
        have hR4 : ∀ k, W3.heap.size ≤ k → ¬ R W4 k := fun k hk e => by have := hr1 _ _ hJ3 (by omega) k (hat.d _ _ (hb34.mono (by omega)) _ e); omega
        have hr5 : ¬ R W4 W.heap.size := fun e => e5 (hat.d _ _ (hb34.mono (by omega)) _ e)
        have hRH : ∀ k, k < W.heap.size → (k = l ∨ k = bM ∨ k = W.heap.size) → (k = l ∨ k = bM) := fun k hk e => by
          rcases e with e | e | e
          · exact Or.inl e
          · exact Or.inr e
          · omega
        have hput : ∀ (A : World) (D : Nat) (o : Obj), C0 ≤ D → Below C0 A (A.putObj D o) := fun A D o hD => ⟨rfl, rfl, rfl, by rw [World.putObj_size]; exact Nat.le_refl _, fun k hk => World.putObj_heap_other (by omega)⟩
        refine wpIn_rangeFunc_R hro (depthless hd _) (gf := 68) (lb := #[.pointer (some ⟨W3.heap.size, 0, none⟩), .pointer (some ⟨W3.heap.size + 1, 0, none⟩)]) rfl hf87 (enters_of Tryd.func68 (by kernel_rfl) rfl)
          (enc := fun x : Nat => #[.int .i64 (x : Int)]) (S := fun q => q <+: kidsOf i x.2.2.2.2) (Sd := fun q => q = kidsOf i x.2.2.2.2) (R := fun A k => R A k ∨ k = l ∨ k = bM ∨ k = W.heap.size) (hDH.mono (by omega))
          (ahead_gives F hd hro (n - 1) hf87 w0 v x.2.2.2.2 hkv hxl i W3.heap.size (W3.heap.size + 1) _ W4 (hDH.mono (by omega)) hst4.b hRR (by omega) (by omega) (fun e => e.elim (hR4 _ (by omega)) (fun e => by omega)) hq1 hq2)
          (fun _ => rfl)
          (fun q A => J (q.foldl (goT t f) (pre ++ [i])) A ∧ TellSt R w0 t tv l bT bY bTr bF bM (q.foldl (goT t f) (pre ++ [i])) A ∧ A.cell? ⟨W.heap.size, 0, none⟩ = some (.bool false) ∧ A.frozen? ⟨W.heap.size, 0, none⟩ = false ∧ ¬ R A W.heap.size)
          (fun c q A => c = .ret ∧ (∃ q, Jx q A) ∧ A.cell? ⟨W.heap.size, 0, none⟩ = some (.bool false))
          (fun q A ⟨u1, _⟩ hs k e => by
            rcases e with e | e | e | e
            · exact hr1 _ _ u1 (by omega) k e
            · omega
            · omega
            · omega)
          (fun q A B ⟨u1, u2, u3, u4, u5⟩ hST hs => have hB := hST.b
            ⟨hJ _ _ _ u1 (hST.less (by omega) (fun _ e => Or.inl e)) (by omega), u2.below hat (hB.mono hD0), (hB.cell (p := ⟨W.heap.size, 0, none⟩) hHW).trans u3, (hB.frozen (p := ⟨W.heap.size, 0, none⟩) hHW).trans u4, fun e => u5 (hat.d _ _ (hB.mono (by omega)) _ e)⟩)
          (fun c q A B ⟨u1, ⟨q2, u2⟩, u3⟩ hB hs => ⟨u1, ⟨q2, hJx _ _ _ u2 (hB.mono (by omega)) (by omega)⟩, (hB.cell (p := ⟨W.heap.size, 0, none⟩) hHW).trans u3⟩)
          ⟨hj4, hst4, hr1', hr2, hr5⟩
          (fun x => { tmps := #[.int .i64 (i : Int), .pointer (some ⟨bT, 0, none⟩), .pointer (some ⟨bY, 0, none⟩), .pointer (some ⟨bTr, 0, none⟩), .pointer (some ⟨bF, 0, none⟩), undef, .pointer (some ⟨W.heap.size, 0, none⟩), .int .i64 (x : Int), .map (some bM), .int .i64 (i : Int), .bool false, .map (some bM), .int .i64 (i : Int), .func (.yield l) #[] #[], .int .i64 (i : Int), .bool true, .bool false, tv, .int .i64 (i : Int), .func (.func 68) #[] #[.pointer (some ⟨W3.heap.size, 0, none⟩), .pointer (some ⟨W3.heap.size + 1, 0, none⟩)], .int .i64 (x : Int), undef, undef, undef, undef], defers := [] })
          ?assign ?body ?done ?stop
        case assign =>
          intro l x W K hK
          gi_wp2
          exact hK
        case body =>
          rintro l2 q k A ⟨u1, u2, u3, u4, u5⟩ hpre hsz
          have hkl : k < i := kidsOf_lt i x.2.2.2.2 k (hpre.subset (by simp))
          have hcall := (CallsIn.inRound l2 (ih k _ A (n - 1 - 1 - 1) (by omega) (by omega) (by omega) u2 u1)).mono (R' := fun e B => Chg (fun A k => R A k ∨ k = l ∨ k = bM) A B ∧ B.cell? ⟨W.heap.size, 0, none⟩ = some (.bool false) ∧ B.frozen? ⟨W.heap.size, 0, none⟩ = false ∧ ¬ R B W.heap.size ∧ ((e = .returned (.bool true) ∧ J ((q ++ [k]).foldl (goT t f) (pre ++ [i])) B ∧ TellSt R w0 t tv l bT bY bTr bF bM ((q ++ [k]).foldl (goT t f) (pre ++ [i])) B) ∨ (e = .returned (.bool false) ∧ ∃ q, Jx q B)))
            (fun e B ⟨hcB, hor⟩ => by
              have h1 := hcB.both W.heap.size (by omega) (fun e => e.elim u5 (fun e => by omega))
              exact ⟨hcB, (World.cell?_of_block (w := A) h1.1).trans u3, (World.frozen?_of_block (w := A) h1.1).trans u4, fun e => h1.2 (Or.inl e), by rw [List.foldl_append]; exact hor⟩)
          have d4 := u2.c4
          have HX : Hid (∀ B, Chg (fun A k => R A k ∨ k = l ∨ k = bM) A B → Chg (fun A k => R A k ∨ k = l ∨ k = bM ∨ k = W.heap.size) A B ∧ Chg (fun A k => R A k ∨ k = l ∨ k = bM ∨ k = W.heap.size) A (B.setCell ⟨W.heap.size, 0, none⟩ (.bool false)) ∧ ∀ q, Jx q B → Jx q (B.setCell ⟨W.heap.size, 0, none⟩ (.bool false))) := fun B hB =>
            have h1 : Chg (fun A k => R A k ∨ k = l ∨ k = bM ∨ k = W.heap.size) A B := hB.more (fun k _ e => by rcases e with e | e; exact Or.inl e; exact Or.inr (Or.inl e))
            ⟨h1, h1.setCell hDH (p := ⟨W.heap.size, 0, none⟩) (by show B0 ≤ W.heap.size; omega) (by have := hB.size; omega) (fun _ => Or.inr (Or.inr (Or.inr rfl))) _, fun q hq => hJx _ _ _ hq ((Below.refl B0 B).setCell (p := ⟨W.heap.size, 0, none⟩) (by show B0 ≤ W.heap.size; omega) _) (by have := hB.size; omega)⟩
          clear u1 u2 u3 u4 u5 hpre hsz hq1 hq2 hj4 hst4 hc4 hr1 hr1' hr2 hr5 hR4 hRH hRR hat hDl hDm hDH hb34 hJ hJx hY ih hst3 hJ3 hc3' hx hxl hkv e1 e2 e3 e5
          gi_wp2_with ((try refine ⟨depthless (F := F.inRound l2) hd _, ?_⟩); gi_at_call 37; refine hcall.mono ?_; clear hcall; rintro e B ⟨hcB, p1, p2, p0, (⟨rfl, p3, p4⟩ | ⟨rfl, ⟨q2, p5⟩⟩)⟩)
          · exact ⟨(HX.out B hcB).1, p3, p4, p1, p2, p0⟩
          · exact ⟨(HX.out B hcB).2.1, rfl, ⟨q2, (HX.out B hcB).2.2 _ p5⟩, World.cell?_setCell_same' _ _ _ (by rw [p1]; rfl)⟩
        case done =>
          rintro q A rfl ⟨u1, u2, u3, u4, u5⟩ hcA hK hnD
          have hA := hcA.size
          have hcW := hc4.then hcA hRH
          have HY : Hid (∀ B, B = (A.setCell ⟨W.heap.size, 0, none⟩ (.bool true)).putObj W4.heap.size (.deferred none) → Chg (fun A k => R A k ∨ k = l ∨ k = bM) W B ∧ J (goT t (f + 1) pre i) B ∧ TellSt R w0 t tv l bT bY bTr bF bM (goT t (f + 1) pre i) B ∧ B.cell? ⟨W.heap.size, 0, none⟩ = some (.bool true)) := fun B hB => by
            subst hB
            have hsz : (A.setCell ⟨W.heap.size, 0, none⟩ (.bool true)).heap.size = A.heap.size := by simp [World.setCell]
            have hb1 : Below C0 A (A.setCell ⟨W.heap.size, 0, none⟩ (.bool true)) := (Below.refl C0 A).setCell (p := ⟨W.heap.size, 0, none⟩) (by show C0 ≤ W.heap.size; omega) _
            have hb2 := hb1.trans (hput (A.setCell ⟨W.heap.size, 0, none⟩ (.bool true)) W4.heap.size (.deferred none) (by omega))
            rw [hgo.out]
            refine ⟨(hcW.setCell hDm (p := ⟨W.heap.size, 0, none⟩) (by show B0 ≤ W.heap.size; omega) (by omega) (fun h => absurd h (Nat.lt_irrefl _)) _).putObj hDm (l := W4.heap.size) (by omega) (by rw [hsz]; omega) (fun h => by omega) _, hJ _ _ _ (hJ _ _ _ u1 (Stp.setCell (p := ⟨W.heap.size, 0, none⟩) (by show B0 ≤ W.heap.size; omega) u5 (.bool true)) (by omega)) (Stp.putObj (by omega) (fun e => hnD (Or.inl (hat.d _ _ (hb1.mono hBC) _ e))) _) (by omega), u2.below hat hb2, ?_⟩
            rw [World.cell?_of_block (w := A.setCell ⟨W.heap.size, 0, none⟩ (.bool true)) (World.putObj_heap_other (by show W.heap.size ≠ _; omega))]
            exact World.cell?_setCell_same' _ _ _ (by rw [u3]; rfl)
          have hK2 : (A.setCell ⟨W.heap.size, 0, none⟩ (.bool true)).heap[W4.heap.size]? = some (.deferred (some [])) := (Below.heap_setCell A ⟨W.heap.size, 0, none⟩ _ W4.heap.size (by simp; omega)).trans hK
          clear u1 u2 u5 hq1 hq2 hj4 hst4 hc4 hr1 hr1' hr2 hr5 hR4 hRH hRR hat hDl hDm hDH hb34 hJ hJx hY ih hst3 hJ3 hc3' hx hxl hkv e1 e2 e3 e5 hcA hcW hK hnD
          gi_wp2
          refine ⟨by simp, .inl ⟨_, _, rfl, run_takeDeferred hK2, ?_⟩⟩
          obtain ⟨z1, z2, z3, z4⟩ := HY.out _ rfl
          exact ⟨_, results_bool rfl _ _ W.heap.size true rfl z4, z1, .inl ⟨rfl, z2, z3⟩⟩
        case stop =>
          rintro c q A ⟨rfl, ⟨q2, u2⟩, u3⟩ hcA hK
          have hA := hcA.size
          have hcW := hc4.then hcA hRH
          have HY : Hid (∀ B, B = A.putObj W4.heap.size (.deferred none) → Chg (fun A k => R A k ∨ k = l ∨ k = bM) W B ∧ Jx q2 B ∧ B.cell? ⟨W.heap.size, 0, none⟩ = some (.bool false)) := fun B hB => by
            subst hB
            refine ⟨hcW.putObj hDm (l := W4.heap.size) (by omega) (by omega) (fun h => by omega) _, hJx _ _ _ u2 ((hput A W4.heap.size (.deferred none) (by omega)).mono hBC) (by omega), ?_⟩
            rw [World.cell?_of_block (w := A) (World.putObj_heap_other (by show W.heap.size ≠ _; omega))]
            exact u3
          clear u2 hq1 hq2 hj4 hst4 hc4 hr1 hr1' hr2 hr5 hR4 hRH hRR hat hDl hDm hDH hb34 hJ hJx hY ih hst3 hJ3 hc3' hx hxl hkv e1 e2 e3 e5 hcA hcW
          gi_wp2
          refine ⟨by simp, .inl ⟨_, _, rfl, run_takeDeferred hK, ?_⟩⟩
          obtain ⟨z1, z2, z3⟩ := HY.out _ rfl
          exact ⟨_, results_bool rfl _ _ W.heap.size false rfl z3, z1, .inr ⟨rfl, q2, z2⟩⟩
      · refine ⟨_, results_bool rfl _ _ W.heap.size false rfl (World.cell?_setCell_same' _ _ _ (by rw [e1]; rfl)), ?_⟩
        refine ⟨(hc2.then hc3 (fun k _ e => Or.inl e)).setCell hDm (p := ⟨W.heap.size, 0, none⟩) (by show B0 ≤ W.heap.size; omega) (by omega) (fun h => absurd h (Nat.lt_irrefl _)) _, .inr ⟨rfl, _, hJx _ _ _ hJx3 ((Below.refl B0 W3).setCell (p := ⟨W.heap.size, 0, none⟩) (by show B0 ≤ W.heap.size; omega) _) (by omega)⟩⟩
end Go.Proofs.YtkmmcphiijolkaaDoor
