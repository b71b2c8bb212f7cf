/-
  A range over a function whose rounds write what they will: a law of the walk, for whatever program; nothing here speaks of one.
-/
import Derived.RangeFuncNested
import Derived.RangeFuncBound
import Derived.RangeFuncCalls
import Derived.RangeFuncLeaves
import Derived.Below
import Derived.Shelf.Abstract
set_option linter.unusedVariables false
set_option linter.unusedSimpArgs false
namespace Go.Proofs.Ytaghkidelbepnaa
open Go.RowKit Go.Shelf

/-- What may turn hangs on blocks below B alone. -/
def Dyn (R : World → Nat → Prop) (B : Nat) : Prop := ∀ A A', Below B A A' → ∀ k, R A' k → R A k
theorem Dyn.mono {R : World → Nat → Prop} {B B' : Nat} (h : Dyn R B) (hB : B ≤ B') : Dyn R B' := fun A A' hb k hk => h A A' (hb.mono hB) k hk
theorem Dyn.or {R : World → Nat → Prop} {B : Nat} (h : Dyn R B) (p : Nat → Prop) : Dyn (fun A k => R A k ∨ p k) B := fun A A' hb k hk => hk.elim (fun e => Or.inl (h A A' hb k e)) Or.inr
theorem Dyn.const (p : Nat → Prop) (B : Nat) : Dyn (fun _ k => p k) B := fun A A' hb k hk => hk
/-- What was there is as it was, but for blocks that may turn; and no other one may turn later. -/
structure Chg (R : World → Nat → Prop) (w w' : World) : Prop where
  os : w'.os = w.os
  tape : w'.tape = w.tape
  output : w'.output = w.output
  size : w.heap.size ≤ w'.heap.size
  both : ∀ k, k < w.heap.size → ¬ R w k → w'.heap[k]? = w.heap[k]? ∧ ¬ R w' k
theorem Chg.block {R : World → Nat → Prop} {w w' : World} (h : Chg R w w') (k : Nat) (hk : k < w.heap.size) (hr : ¬ R w k) : w'.heap[k]? = w.heap[k]? := (h.both k hk hr).1
theorem Chg.refl (R : World → Nat → Prop) (w : World) : Chg R w w := ⟨rfl, rfl, rfl, Nat.le_refl _, fun _ _ h => ⟨rfl, h⟩⟩
theorem Chg.trans {R : World → Nat → Prop} {a b c : World} (h : Chg R a b) (k : Chg R b c) : Chg R a c :=
  ⟨k.os.trans h.os, k.tape.trans h.tape, k.output.trans h.output, Nat.le_trans h.size k.size, fun i hi hr => ⟨((k.both i (Nat.lt_of_lt_of_le hi h.size) (h.both i hi hr).2).1).trans (h.both i hi hr).1, (k.both i (Nat.lt_of_lt_of_le hi h.size) (h.both i hi hr).2).2⟩⟩
/-- A change of what may turn: of what was there no more. -/
theorem Chg.mono {R R' : World → Nat → Prop} {a b : World} (h : Chg R a b) (hr : ∀ i, i < a.heap.size → R a i → R' a i) (hr' : ∀ i, i < a.heap.size → R' b i → R b i ∨ R' a i) : Chg R' a b :=
  ⟨h.os, h.tape, h.output, h.size, fun i hi hn => ⟨(h.both i hi (fun e => hn (hr i hi e))).1, fun e => (hr' i hi e).elim (h.both i hi (fun e => hn (hr i hi e))).2 hn⟩⟩
/-- .. where what may turn differs by blocks that never change their part. -/
theorem Chg.more {R : World → Nat → Prop} {p q : Nat → Prop} {a b : World} (h : Chg (fun A k => R A k ∨ p k) a b) (hr : ∀ i, i < a.heap.size → p i → q i) : Chg (fun A k => R A k ∨ q k) a b :=
  h.mono (fun i hi e => e.elim Or.inl (fun e => Or.inr (hr i hi e))) (fun i hi e => e.elim (fun e => Or.inl (Or.inl e)) (fun e => Or.inr (Or.inr e)))
theorem Chg.add {R : World → Nat → Prop} {q : Nat → Prop} {a b : World} (h : Chg R a b) : Chg (fun A k => R A k ∨ q k) a b :=
  h.mono (fun i hi e => Or.inl e) (fun i hi e => e.elim (fun e => Or.inl e) (fun e => Or.inr (Or.inr e)))
theorem Chg.drop {R : World → Nat → Prop} {q : Nat → Prop} {a b : World} (h : Chg (fun A k => R A k ∨ q k) a b) (hq : ∀ i, i < a.heap.size → ¬ q i) : Chg R a b :=
  h.mono (fun i hi e => e.elim id (fun e => absurd e (hq i hi))) (fun i hi e => Or.inl (Or.inl e))
/-- Two steps, of which the second one may turn more, but of what was there ahead of both no more. -/
theorem Chg.then {R : World → Nat → Prop} {p q : Nat → Prop} {a b c : World} (h : Chg (fun A k => R A k ∨ p k) a b) (k : Chg (fun A k => R A k ∨ q k) b c) (hr : ∀ i, i < a.heap.size → q i → p i) : Chg (fun A k => R A k ∨ p k) a c :=
  ⟨k.os.trans h.os, k.tape.trans h.tape, k.output.trans h.output, Nat.le_trans h.size k.size, fun i hi hn => by
    obtain ⟨h1, h2⟩ := h.both i hi hn
    obtain ⟨h3, h4⟩ := k.both i (Nat.lt_of_lt_of_le hi h.size) (fun e => e.elim (fun e => h2 (Or.inl e)) (fun e => h2 (Or.inr (hr i hi e))))
    exact ⟨h3.trans h1, fun e => e.elim (fun e => h4 (Or.inl e)) (fun e => hn (Or.inr e))⟩⟩
theorem Chg.of_below {R : World → Nat → Prop} {a w w' : World} (h : Chg R a w) {B B0 : Nat} (hD : Dyn R B0) (hb : Below B w w') (hB : a.heap.size ≤ B) (hB0 : B0 ≤ B) : Chg R a w' :=
  ⟨hb.os.trans h.os, hb.tape.trans h.tape, hb.output.trans h.output, Nat.le_trans h.size hb.size, fun k hk hn => ⟨(hb.block k (by omega)).trans (h.both k hk hn).1, fun e => (h.both k hk hn).2 (hD w w' (hb.mono hB0) k e)⟩⟩
/-- A turn of one block alone, that may turn, or that was not there. -/
theorem Chg.one {R : World → Nat → Prop} {a w w' : World} (h : Chg R a w) {B0 b : Nat} (hD : Dyn R B0) (hB0 : B0 ≤ b) (ho : w'.os = w.os) (ht : w'.tape = w.tape) (hp : w'.output = w.output) (hs : w.heap.size ≤ w'.heap.size) (hk : ∀ k, k < w.heap.size → k ≠ b → w'.heap[k]? = w.heap[k]?) (hsz : B0 ≤ w.heap.size) (hr : b < a.heap.size → R a b) : Chg R a w' :=
  ⟨ho.trans h.os, ht.trans h.tape, hp.trans h.output, Nat.le_trans h.size hs, fun k hka hn => ⟨(hk k (Nat.lt_of_lt_of_le hka h.size) (fun e => by subst e; exact hn (hr hka))).trans (h.both k hka hn).1,
    fun e => (h.both k hka hn).2 (hD w w' ⟨ho, ht, hp, hs, fun i hi => hk i (by omega) (by omega)⟩ k e)⟩⟩
theorem Chg.setCell {R : World → Nat → Prop} {a w : World} (h : Chg R a w) {B0 : Nat} (hD : Dyn R B0) {p : Addr} (hB0 : B0 ≤ p.block) (hsz : B0 ≤ w.heap.size) (hp : p.block < a.heap.size → R a p.block) (u : Value) : Chg R a (w.setCell p u) :=
  h.one (b := p.block) hD hB0 rfl rfl rfl (by simp [World.setCell]) (fun k hk hne => Below.heap_setCell _ _ _ _ hne) hsz hp
theorem Chg.putObj {R : World → Nat → Prop} {a w : World} (h : Chg R a w) {B0 : Nat} (hD : Dyn R B0) {l : Nat} (hB0 : B0 ≤ l) (hsz : B0 ≤ w.heap.size) (hp : l < a.heap.size → R a l) (o : Obj) : Chg R a (w.putObj l o) :=
  h.one (b := l) hD hB0 rfl rfl rfl (by rw [World.putObj_size]; exact Nat.le_refl _) (fun k hk hne => World.putObj_heap_other hne) hsz hp
theorem Chg.grown {R : World → Nat → Prop} {a w w' : World} (h : Chg R a w) {B0 b : Nat} (hD : Dyn R B0) (hB0 : B0 ≤ b) (hsz : B0 ≤ w.heap.size) (hg : w.grownBy w' (some b)) (hr : b < a.heap.size → R a b) : Chg R a w' :=
  h.one (b := b) hD hB0 hg.os hg.tape hg.output hg.size (fun k hk hne => hg.block k hk (by simpa using hne)) hsz hr
theorem Chg.below {R : World → Nat → Prop} {a w : World} (h : Chg R a w) {B : Nat} (hB : B ≤ a.heap.size) (hR : ∀ i, i < B → ¬ R a i) : Below B a w := ⟨h.os, h.tape, h.output, h.size, fun k hk => h.block k (by omega) (hR k hk)⟩

/-- A step of an iterator's own: of what rounds may turn nothing. -/
structure Stp (R : World → Nat → Prop) (B : Nat) (A A' : World) : Prop where
  b : Below B A A'
  k : ∀ k, k < A.heap.size → R A k → A'.heap[k]? = A.heap[k]?
theorem Stp.all {R : World → Nat → Prop} {B : Nat} {A A' : World} (h : Below A.heap.size A A') (hB : B ≤ A.heap.size) : Stp R B A A' := ⟨h.mono hB, fun k hk _ => h.block k hk⟩
theorem Stp.one {R : World → Nat → Prop} {B b : Nat} {A A' : World} (h : Below B A A') (hk : ∀ k, k < A.heap.size → k ≠ b → A'.heap[k]? = A.heap[k]?) (hn : ¬ R A b) : Stp R B A A' := ⟨h, fun k hka hr => hk k hka (fun e => hn (e ▸ hr))⟩
theorem Stp.setCell {R : World → Nat → Prop} {B : Nat} {A : World} {p : Addr} (hB : B ≤ p.block) (hn : ¬ R A p.block) (u : Value) : Stp R B A (A.setCell p u) :=
  Stp.one (b := p.block) ((Below.refl B A).setCell hB u) (fun k hk hne => Below.heap_setCell _ _ _ _ hne) hn
theorem below_putObj {B l : Nat} (A : World) (hB : B ≤ l) (o : Obj) : Below B A (A.putObj l o) := ⟨rfl, rfl, rfl, by rw [World.putObj_size]; exact Nat.le_refl _, fun k hk => World.putObj_heap_other (by omega)⟩
theorem Stp.putObj {R : World → Nat → Prop} {B l : Nat} {A : World} (hB : B ≤ l) (hn : ¬ R A l) (o : Obj) : Stp R B A (A.putObj l o) :=
  Stp.one (b := l) (below_putObj A hB o) (fun k hk hne => World.putObj_heap_other hne) hn
theorem Stp.grown {R : World → Nat → Prop} {B b : Nat} {A A' : World} (hB : B ≤ b) (hs : B ≤ A.heap.size) (hg : A.grownBy A' (some b)) (hn : ¬ R A b) : Stp R B A A' :=
  Stp.one (b := b) ((Below.refl B A).grown hg hs (fun k e => by cases e; exact hB)) (fun k hk hne => hg.block k hk (by simpa using hne)) hn
theorem Stp.less {R R' : World → Nat → Prop} {B B' : Nat} {A A' : World} (h : Stp R' B' A A') (hB : B ≤ B') (hr : ∀ k, R A k → R' A k) : Stp R B A A' := ⟨h.b.mono hB, fun k hk e => h.k k hk (hr k e)⟩

def roundPostR {α : Type} (R : World → Nat → Prop) (I : List α → World → Prop) (Ix : Code → List α → World → Prop) (xs : List α) (W : World) : Exit → Act → World → Prop
  | .normal, _, W' => Chg R W W' ∧ I xs W'
  | .ret, _, W' => Chg R W W' ∧ Ix .ret xs W'
  | .exit id, _, W' => Chg R W W' ∧ Ix (.exit id) xs W'
  | .goto t, _, W' => Chg R W W' ∧ Ix (.goto t) xs W'
  | .panic _, _, _ => False
  | .outgrown, _, _ => False

/-- What an iterator owes to rounds: J between two rounds, Jx behind a round that said no; rounds may turn what R says. -/
def GivesR {α : Type} (F : Fence) (n : Nat) (P : Program) (g : Nat) (lb : Array Value) (enc : α → Array Value) (S Sd : List α → Prop) (R : World → Nat → Prop) (w : World) : Prop :=
  ∀ (l : Nat) (J Jx : List α → World → Prop) (W : World), w.heap.size ≤ l → l < W.heap.size → Below w.heap.size w W → ¬ R W l → (∀ pre A, J pre A → W.heap.size ≤ A.heap.size → ∀ k, R A k → k < A.heap.size) →
    (∀ pre A B, J pre A → Stp R W.heap.size A B → W.heap.size ≤ A.heap.size → J pre B) → (∀ pre A B, Jx pre A → Below W.heap.size A B → W.heap.size ≤ A.heap.size → Jx pre B) →
    (∀ pre x A, J pre A → W.heap.size ≤ A.heap.size → S (pre ++ [x]) → YieldAt F (n - 1) P l (enc x) A fun e B => Chg (fun A k => R A k ∨ k = l) A B ∧ ((e = .returned (.bool true) ∧ J (pre ++ [x]) B) ∨ (e = .returned (.bool false) ∧ Jx (pre ++ [x]) B))) →
    J [] W →
    CallsIn F n P g (#[.func (.yield l) #[] #[]] ++ lb) W fun e B => (∃ v, e = .returned v) ∧ Chg (fun A k => R A k ∨ k = l) W B ∧ ((∃ xs, Sd xs ∧ J xs B) ∨ (∃ pre, Jx pre B))

variable {F : Fence} {n : Nat} {P : Program}
theorem wpIn_rangeFunc_R {α : Type} {g : Operand} {ps : Array Tmp} {assign body : Code} {Q : Exit → Act → World → Prop} {a : Act} {w : World}
    (hro : F.round = none) (h1 : F.depth.isSome = true → 1 ≤ n) {gf : Nat} {lb : Array Value} (hg : a.eval g = .func (.func gf) #[] lb) (hFg : F.fn gf) (eg : ∀ args w, (callFunc gf args).run P w = .ok (.enter gf args) w)
    {enc : α → Array Value} {S Sd : List α → Prop} {R : World → Nat → Prop} (hD : Dyn R w.heap.size) (hseq : GivesR F (n - 1) P gf lb enc S Sd R w) (hps : ∀ x, (enc x).size = ps.size)
    (I : List α → World → Prop) (Ix : Code → List α → World → Prop) (hR : ∀ pre A, I pre A → w.heap.size ≤ A.heap.size → ∀ k, R A k → k < A.heap.size)
    (hI : ∀ pre A B, I pre A → Stp R w.heap.size A B → w.heap.size ≤ A.heap.size → I pre B) (hIx : ∀ c pre A B, Ix c pre A → Below w.heap.size A B → w.heap.size ≤ A.heap.size → Ix c pre B) (h0 : I [] w) (a₁ : α → Act)
    (hassign : ∀ (l : Nat) (x : α) (W : World) (K : Act → World → Prop), K (a₁ x) W →
      assign.wpIn (F.inRound l) (n - 1 - 1) P (Exit.then K (fun _ _ _ => False)) { tmps := (ps.zip (enc x)).foldl (fun t (p, v) => t.setIfInBounds p v) a.tmps, defers := [] } W)
    (hbody : ∀ (l : Nat) (pre : List α) (x : α) (W : World), I pre W → S (pre ++ [x]) → w.heap.size + 2 ≤ W.heap.size → body.wpIn (F.inRound l) (n - 1 - 1) P (roundPostR R I Ix (pre ++ [x]) W) (a₁ x) W)
    (hdone : ∀ (xs : List α) (W : World), Sd xs → I xs W → Chg R w W → W.heap[w.heap.size]? = some (.deferred (some [])) → ¬ R W w.heap.size → Q .normal { a with defers := { target := .collected w.heap.size, args := #[] } :: a.defers } W)
    (hstop : ∀ (c : Code) (pre : List α) (W : World), Ix c pre W → Chg R w W → W.heap[w.heap.size]? = some (.deferred (some [])) → c.wpIn F n P Q { a with defers := { target := .collected w.heap.size, args := #[] } :: a.defers } W) :
    (Code.rangeFunc g ps assign body).wpIn F n P Q a w := by
  refine wpIn_rangeFunc ?_
  intro fn hfn
  rw [hro]
  obtain ⟨rec, hrec⟩ : ∃ rec : LoopState → Option Code → Loop, rec = fun st pe => { state := st, pending := pe, fn, tmps := a.tmps, params := ps, assign, body, defers := w.heap.size } := ⟨_, rfl⟩
  obtain ⟨W1, hW1⟩ : ∃ W1, (w.alloc (.deferred (some []))).alloc (.loop (rec .ready none)) = W1 := ⟨_, rfl⟩
  have hs1 : W1.heap.size = w.heap.size + 2 := by rw [← hW1]; simp
  have hL1 : W1.heap[w.heap.size + 1]? = some (.loop (rec .ready none)) := by
    rw [← hW1]; have := World.alloc_heap_new (w.alloc (.deferred (some []))) (.loop (rec .ready none)); rwa [World.size_alloc] at this
  have hK1 : W1.heap[w.heap.size]? = some (.deferred (some [])) := by
    rw [← hW1]; exact (Below.heap_alloc _ _ _ (by simp)).trans (World.alloc_heap_new w _)
  have hb1 : Below w.heap.size w W1 := by
    rw [← hW1]; exact ((Below.refl _ w).alloc (Nat.le_refl _) _).alloc (by simp) _
  have hI1 : I [] W1 := hI _ _ _ h0 (Stp.all hb1 (Nat.le_refl _)) (Nat.le_refl _)
  have hn1 : ∀ k, w.heap.size ≤ k → ¬ R W1 k := fun k hk e => by have := hR _ _ h0 (Nat.le_refl _) k (hD w W1 hb1 k e); omega
  -- what a turn of the loop's own record keeps
  have hput : ∀ (A : World) (o' : Obj), Below w.heap.size A (A.putObj (w.heap.size + 1) o') := fun A o' =>
    ⟨rfl, rfl, rfl, by rw [World.putObj_size]; exact Nat.le_refl _, fun k hk => World.putObj_heap_other (by omega)⟩
  refine ⟨w.heap.size + 1, [{ target := .collected w.heap.size, args := #[] }], W1, { target := .fn (.func gf) lb, args := #[.func (.yield (w.heap.size + 1)) #[] #[]] }, W1, gf,
    #[.func (.yield (w.heap.size + 1)) #[] #[]] ++ lb, W1, ?_, ?_, ?_, ?_, h1, ?_⟩
  · rw [← hW1, hrec]; exact run_enterLoop_outer _ _ _ _ _
  · simp only [resolve, hg]
    simp [go_sem]
  · intro f' hf'; simp [Target.leads] at hf'; subst hf'; exact hFg
  · simp [invoke, go_sem, eg]
  · refine (hseq (w.heap.size + 1)
      (fun pre W => I pre W ∧ Chg R w W ∧ W.heap[w.heap.size + 1]? = some (.loop (rec .ready none)) ∧ W.heap[w.heap.size]? = some (.deferred (some [])) ∧ ¬ R W w.heap.size ∧ ¬ R W (w.heap.size + 1))
      (fun pre W => ∃ c, Ix c pre W ∧ Chg R w W ∧ W.heap[w.heap.size + 1]? = some (.loop (rec .done (some c))) ∧ W.heap[w.heap.size]? = some (.deferred (some [])))
      W1 (by omega) (by omega) hb1 (hn1 _ (by omega)) ?_ ?_ ?_ ?_ ⟨hI1, (Chg.refl R w).of_below hD hb1 (Nat.le_refl _) (Nat.le_refl _), hL1, hK1, hn1 _ (by omega), hn1 _ (by omega)⟩).mono ?_
    · rintro pre A ⟨hi, _⟩ hs k hk
      exact hR _ _ hi (by omega) k hk
    · rintro pre A B ⟨hi, hc, hl, hk, hn, hn'⟩ hST hs
      have hB := hST.b
      have hB' : Below w.heap.size A B := hB.mono (by omega)
      exact ⟨hI _ _ _ hi (hST.less (by omega) (fun _ e => e)) (by omega), hc.of_below hD hB (by omega) (by omega), (hB.block _ (by omega)).trans hl, (hB.block _ (by omega)).trans hk, fun e => hn (hD _ _ hB' _ e), fun e => hn' (hD _ _ hB' _ e)⟩
    · rintro pre A B ⟨c, hi, hc, hl, hk⟩ hB hs
      exact ⟨c, hIx _ _ _ _ hi (hB.mono (by omega)) (by omega), hc.of_below hD hB (by omega) (by omega), (hB.block _ (by omega)).trans hl, (hB.block _ (by omega)).trans hk⟩
    · -- ONE ROUND
      rintro pre x W ⟨hi, hc, hl, hk, hn, hn'⟩ hsz hS
      have hsz2 : w.heap.size + 2 ≤ W.heap.size := by omega
      have hlt : w.heap.size + 1 < W.heap.size := by omega
      have hy := run_yield (P := P) (args := enc x) hl (by rw [hrec]; exact hps x)
      rw [hrec] at hy
      refine ⟨fn, _, assign, body, hy, roundIn_of_wpIn hfn (hassign _ x W _ ⟨_, run_beginRound hl (by rw [hrec]), ?_⟩)⟩
      obtain ⟨W2, hW2⟩ : ∃ W2, W2 = W.putObj (w.heap.size + 1) (.loop { rec .ready none with state := .busy }) := ⟨_, rfl⟩
      rw [← hW2]
      have hl2 : W2.heap[w.heap.size + 1]? = some (.loop { rec .ready none with state := .busy }) := by rw [hW2]; exact World.putObj_heap_same hlt
      have hk2 : W2.heap[w.heap.size]? = some (.deferred (some [])) := by rw [hW2]; exact (World.putObj_heap_other (by omega)).trans hk
      have hs2 : W2.heap.size = W.heap.size := by rw [hW2]; exact World.putObj_size
      have hb2 : Below w.heap.size W W2 := by rw [hW2]; exact hput W _
      have hc2 : Chg (fun A k => R A k ∨ k = w.heap.size + 1) W W2 := by rw [hW2]; exact (Chg.refl (fun A k => R A k ∨ k = w.heap.size + 1) W).putObj (hD.or fun k => k = w.heap.size + 1) (B0 := w.heap.size) (l := w.heap.size + 1) (by omega) (by omega) (fun _ => Or.inr rfl) _
      have hc3 : Chg R w W2 := by rw [hW2]; exact hc.putObj hD (by omega) (by omega) (fun h => by omega) _
      have hn2 : ¬ R W2 w.heap.size := fun e => hn (hD _ _ hb2 _ e)
      have hn2' : ¬ R W2 (w.heap.size + 1) := fun e => hn' (hD _ _ hb2 _ e)
      have hW2' := hW2
      clear hW2
      refine wpIn_mono (hbody _ pre x _ (hI _ _ _ hi (by rw [hW2'] ; exact Stp.putObj (by omega) hn' _) (by omega)) hS (by rw [hs2]; exact hsz2)) ?_
      have fin : ∀ (jump : Option Code) (W3 : World), Chg R W2 W3 → ∃ W4,
          (Instr.endRound (w.heap.size + 1) jump).run P W3 = .ok (.bool jump.isNone) W4 ∧
          W4.heap[w.heap.size + 1]? = some (.loop (rec (if jump.isNone then .ready else .done) jump)) ∧ W4.heap[w.heap.size]? = some (.deferred (some [])) ∧
          Chg (fun A k => R A k ∨ k = w.heap.size + 1) W W4 ∧ Chg R w W4 ∧ Below w.heap.size W3 W4 ∧ Stp R w.heap.size W3 W4 ∧ w.heap.size ≤ W3.heap.size ∧ ¬ R W4 w.heap.size ∧ ¬ R W4 (w.heap.size + 1) := fun jump W3 hk3 => by
        have hs3 := hk3.size
        rw [hs2] at hs3
        obtain ⟨hl3, hn3'⟩ := hk3.both (w.heap.size + 1) (by rw [hs2]; omega) hn2'
        obtain ⟨hk4, hn3⟩ := hk3.both w.heap.size (by rw [hs2]; omega) hn2
        rw [hl2] at hl3
        rw [hk2] at hk4
        have := run_endRound (P := P) jump hl3
        have hb4 := hput W3 (.loop (rec (if jump.isNone then .ready else .done) jump))
        rw [hrec] at this hb4 ⊢
        exact ⟨_, this, World.putObj_heap_same (by omega), (World.putObj_heap_other (by omega)).trans hk4,
          (hc2.trans hk3.add).putObj (hD.or fun k => k = w.heap.size + 1) (B0 := w.heap.size) (by omega) (by omega) (fun _ => Or.inr rfl) _, (hc3.trans hk3).putObj hD (by omega) (by omega) (fun h => by omega) _, hb4, Stp.putObj (by omega) hn3' _, by omega, fun e => hn3 (hD _ _ hb4 _ e), fun e => hn3' (hD _ _ hb4 _ e)⟩
      rintro e a3 W3 hp
      cases e with
      | normal =>
        obtain ⟨hk3, hi3⟩ := hp
        obtain ⟨W4, hr, hl4, hk4, hc4, hc5, hb4, ht4, hs4, hn4, hn4'⟩ := fin none W3 hk3
        exact ⟨_, _, hr, hc4, .inl ⟨rfl, hI _ _ _ hi3 ht4 hs4, hc5, hl4, hk4, hn4, hn4'⟩⟩
      | ret =>
        obtain ⟨hk3, hi3⟩ := hp
        obtain ⟨W4, hr, hl4, hk4, hc4, hc5, hb4, ht4, hs4, hn4, hn4'⟩ := fin (some .ret) W3 hk3
        exact ⟨_, _, hr, hc4, .inr ⟨rfl, .ret, hIx _ _ _ _ hi3 hb4 hs4, hc5, hl4, hk4⟩⟩
      | exit id =>
        obtain ⟨hk3, hi3⟩ := hp
        obtain ⟨W4, hr, hl4, hk4, hc4, hc5, hb4, ht4, hs4, hn4, hn4'⟩ := fin (some (.exit id)) W3 hk3
        exact ⟨_, _, hr, hc4, .inr ⟨rfl, .exit id, hIx _ _ _ _ hi3 hb4 hs4, hc5, hl4, hk4⟩⟩
      | goto t =>
        obtain ⟨hk3, hi3⟩ := hp
        obtain ⟨W4, hr, hl4, hk4, hc4, hc5, hb4, ht4, hs4, hn4, hn4'⟩ := fin (some (.goto t)) W3 hk3
        exact ⟨_, _, hr, hc4, .inr ⟨rfl, .goto t, hIx _ _ _ _ hi3 hb4 hs4, hc5, hl4, hk4⟩⟩
      | panic ch => exact hp.elim
      | outgrown => exact hp.elim
    · -- BEHIND THE ITERATOR
      rintro e W2 ⟨⟨v, rfl⟩, hch, (⟨xs, hS, hi, hc, hl, hk, hn, hn'⟩ | ⟨pre, c, hi, hc, hl, hk⟩)⟩
      · have hsz : w.heap.size + 2 ≤ W2.heap.size := by have := hch.size; omega
        exact ⟨none, _, by have := run_endLoop (P := P) hl (by rw [hrec]; simp); rw [hrec] at this; exact this, hdone xs _ hS (hI _ _ _ hi (Stp.putObj (by omega) hn' _) (by omega)) (hc.putObj hD (by omega) (by omega) (fun h => by omega) _) ((World.putObj_heap_other (by omega)).trans hk) (fun e => hn (hD _ _ (hput W2 _) _ e))⟩
      · have hsz : w.heap.size + 2 ≤ W2.heap.size := by have := hch.size; omega
        exact ⟨some c, _, by have := run_endLoop (P := P) hl (by rw [hrec]; simp); rw [hrec] at this; exact this, hstop c pre _ (hIx _ _ _ _ hi (hput W2 _) (by omega)) (hc.putObj hD (by omega) (by omega) (fun h => by omega) _) ((World.putObj_heap_other (by omega)).trans hk)⟩
end Go.Proofs.Ytaghkidelbepnaa
