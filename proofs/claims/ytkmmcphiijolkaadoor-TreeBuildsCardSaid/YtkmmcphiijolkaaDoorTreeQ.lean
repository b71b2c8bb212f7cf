/-
  A range over a function that turns boxes of its own, that were there: a law of the walk, for whatever program; nothing here speaks of one.
-/
import Derived.Test.YtkmmcphiijolkaaDoorTreeR
set_option linter.unusedVariables false
set_option linter.unusedSimpArgs false
namespace Go.Proofs.YtkmmcphiijolkaaDoor
open Go.RowKit Go.Shelf

/-- What was there is as it was, but for blocks of p. -/
abbrev But (p : Nat → Prop) (w w' : World) : Prop := Chg (fun _ k => p k) w w'
theorem dynC (p : Nat → Prop) : Dyn (fun _ k => p k) 0 := Dyn.const p 0
theorem But.more {p q : Nat → Prop} {a b : World} (h : But p a b) (hr : ∀ i, i < a.heap.size → p i → q i) : But q a b :=
  h.mono (fun i hi e => hr i hi e) (fun i hi e => Or.inr e)
theorem But.of_below {p : Nat → Prop} {a w w' : World} (h : But p a w) {B : Nat} (hb : Below B w w') (hB : a.heap.size ≤ B) : But p a w' := Chg.of_below h (dynC p) hb hB (Nat.zero_le _)
theorem But.setCell {p : Nat → Prop} {a w : World} (h : But p a w) {x : Addr} (hp : x.block < a.heap.size → p x.block) (u : Value) : But p a (w.setCell x u) := Chg.setCell h (dynC p) (Nat.zero_le _) (Nat.zero_le _) hp u
theorem But.putObj {p : Nat → Prop} {a w : World} (h : But p a w) {l : Nat} (hp : l < a.heap.size → p l) (o : Obj) : But p a (w.putObj l o) := Chg.putObj h (dynC p) (Nat.zero_le _) (Nat.zero_le _) hp o

def roundPostS {α : Type} (R : Nat → Prop) (I : List α → World → Prop) (Ix : Code → List α → World → Prop) (xs : List α) (W : World) : Exit → Act → World → Prop
  | .normal, _, W' => But R W W' ∧ I xs W'
  | .ret, _, W' => But R W W' ∧ Ix .ret xs W'
  | .exit id, _, W' => But R W W' ∧ Ix (.exit id) xs W'
  | .goto t, _, W' => But R W W' ∧ Ix (.goto t) xs W'
  | .panic _, _, _ => False
  | .outgrown, _, _ => False

/-- What an iterator with boxes of its own owes to rounds: J between two rounds, Jx behind a round that said no. -/
def GivesS {α : Type} (F : Fence) (n : Nat) (P : Program) (g : Nat) (lb : Array Value) (enc : α → Array Value) (S Sd : List α → Prop) (R own : Nat → Prop) (w : World) : Prop :=
  ∀ (l : Nat) (J Jx : List α → World → Prop) (W : World), w.heap.size ≤ l → l < W.heap.size → Below w.heap.size w W →
    (∀ pre A B, J pre A → But own A B → W.heap.size ≤ A.heap.size → J pre B) → (∀ pre A B, Jx pre A → But own A B → W.heap.size ≤ A.heap.size → Jx pre B) →
    (∀ pre x A, J pre A → W.heap.size ≤ A.heap.size → S (pre ++ [x]) → YieldAt F (n - 1) P l (enc x) A fun e B => But (fun k => R k ∨ k = l) A B ∧ ((e = .returned (.bool true) ∧ J (pre ++ [x]) B) ∨ (e = .returned (.bool false) ∧ Jx (pre ++ [x]) B))) →
    J [] W →
    CallsIn F n P g (#[.func (.yield l) #[] #[]] ++ lb) W fun e B => (∃ v, e = .returned v) ∧ W.heap.size ≤ B.heap.size ∧ ((∃ xs, Sd xs ∧ J xs B) ∨ (∃ pre, Jx pre B))

variable {F : Fence} {n : Nat} {P : Program}
theorem wpIn_rangeFunc_S {α : Type} {g : Operand} {ps : Array Tmp} {assign body : Code} {Q : Exit → Act → World → Prop} {a : Act} {w : World}
    (hro : F.round = none) (h1 : F.depth.isSome = true → 1 ≤ n) {gf : Nat} {lb : Array Value} (hg : a.eval g = .func (.func gf) #[] lb) (hFg : F.fn gf) (eg : ∀ args w, (callFunc gf args).run P w = .ok (.enter gf args) w)
    {enc : α → Array Value} {S Sd : List α → Prop} {R own : Nat → Prop} (hR : ∀ k, R k → k < w.heap.size) (hO : ∀ k, own k → k < w.heap.size) (hseq : GivesS F (n - 1) P gf lb enc S Sd R own w) (hps : ∀ x, (enc x).size = ps.size)
    (I : List α → World → Prop) (Ix : Code → List α → World → Prop)
    (hI : ∀ pre A B, I pre A → But (fun k => own k ∨ w.heap.size ≤ k) A B → w.heap.size ≤ A.heap.size → I pre B) (hIx : ∀ c pre A B, Ix c pre A → But (fun k => own k ∨ w.heap.size ≤ k) A B → w.heap.size ≤ A.heap.size → Ix c pre B) (h0 : I [] w) (a₁ : α → Act)
    (hassign : ∀ (l : Nat) (x : α) (W : World) (K : Act → World → Prop), K (a₁ x) W →
      assign.wpIn (F.inRound l) (n - 1 - 1) P (Exit.then K (fun _ _ _ => False)) { tmps := (ps.zip (enc x)).foldl (fun t (p, v) => t.setIfInBounds p v) a.tmps, defers := [] } W)
    (hbody : ∀ (l : Nat) (pre : List α) (x : α) (W : World), I pre W → S (pre ++ [x]) → w.heap.size + 2 ≤ W.heap.size → body.wpIn (F.inRound l) (n - 1 - 1) P (roundPostS R I Ix (pre ++ [x]) W) (a₁ x) W)
    (hdone : ∀ (xs : List α) (W : World), Sd xs → I xs W → But (fun k => R k ∨ own k) w W → W.heap[w.heap.size]? = some (.deferred (some [])) → Q .normal { a with defers := { target := .collected w.heap.size, args := #[] } :: a.defers } W)
    (hstop : ∀ (c : Code) (pre : List α) (W : World), Ix c pre W → But (fun k => R k ∨ own k) w W → W.heap[w.heap.size]? = some (.deferred (some [])) → c.wpIn F n P Q { a with defers := { target := .collected w.heap.size, args := #[] } :: a.defers } W) :
    (Code.rangeFunc g ps assign body).wpIn F n P Q a w := by
  refine wpIn_rangeFunc ?_
  intro fn hfn
  rw [hro]
  obtain ⟨rec, hrec⟩ : ∃ rec : LoopState → Option Code → Loop, rec = fun st pe => { state := st, pending := pe, fn, tmps := a.tmps, params := ps, assign, body, defers := w.heap.size } := ⟨_, rfl⟩
  obtain ⟨W1, hW1⟩ : ∃ W1, (w.alloc (.deferred (some []))).alloc (.loop (rec .ready none)) = W1 := ⟨_, rfl⟩
  have hs1 : W1.heap.size = w.heap.size + 2 := by rw [← hW1]; simp
  have hL1 : W1.heap[w.heap.size + 1]? = some (.loop (rec .ready none)) := by
    rw [← hW1]; have := World.alloc_heap_new (w.alloc (.deferred (some []))) (.loop (rec .ready none)); rwa [World.size_alloc] at this
  have hK1 : W1.heap[w.heap.size]? = some (.deferred (some [])) := by
    rw [← hW1]; exact (Below.heap_alloc _ _ _ (by simp)).trans (World.alloc_heap_new w _)
  have hb1 : Below w.heap.size w W1 := by
    rw [← hW1]; exact ((Below.refl _ w).alloc (Nat.le_refl _) _).alloc (by simp) _
  have hB1 : But (fun k => R k ∨ own k) w W1 := But.of_below (Chg.refl _ w) hb1 (Nat.le_refl _)
  have hI1 : I [] W1 := hI _ _ _ h0 (But.of_below (Chg.refl _ w) hb1 (Nat.le_refl _)) (Nat.le_refl _)
  have hn0 : ¬ R w.heap.size := fun e => by have := hR _ e; omega
  have hn1 : ¬ R (w.heap.size + 1) := fun e => by have := hR _ e; omega
  have ho0 : ¬ own w.heap.size := fun e => by have := hO _ e; omega
  have ho1 : ¬ own (w.heap.size + 1) := fun e => by have := hO _ e; omega
  refine ⟨w.heap.size + 1, [{ target := .collected w.heap.size, args := #[] }], W1, { target := .fn (.func gf) lb, args := #[.func (.yield (w.heap.size + 1)) #[] #[]] }, W1, gf,
    #[.func (.yield (w.heap.size + 1)) #[] #[]] ++ lb, W1, ?_, ?_, ?_, ?_, h1, ?_⟩
  · rw [← hW1, hrec]; exact run_enterLoop_outer _ _ _ _ _
  · simp only [resolve, hg]
    simp [go_sem]
  · intro f' hf'; simp [Target.leads] at hf'; subst hf'; exact hFg
  · simp [invoke, go_sem, eg]
  · refine (hseq (w.heap.size + 1)
      (fun pre W => I pre W ∧ But (fun k => R k ∨ own k) w W ∧ W.heap[w.heap.size + 1]? = some (.loop (rec .ready none)) ∧ W.heap[w.heap.size]? = some (.deferred (some [])))
      (fun pre W => ∃ c, Ix c pre W ∧ But (fun k => R k ∨ own k) w W ∧ W.heap[w.heap.size + 1]? = some (.loop (rec .done (some c))) ∧ W.heap[w.heap.size]? = some (.deferred (some [])))
      W1 (by omega) (by omega) hb1 ?_ ?_ ?_ ⟨hI1, hB1, hL1, hK1⟩).mono ?_
    · rintro pre A B ⟨hi, hc, hl, hk⟩ hST hs
      exact ⟨hI _ _ _ hi (hST.more fun _ _ e => Or.inl e) (by omega), hc.trans (hST.more fun _ _ e => Or.inr e), (hST.both _ (by omega) ho1).1.trans hl, (hST.both _ (by omega) ho0).1.trans hk⟩
    · rintro pre A B ⟨c, hi, hc, hl, hk⟩ hST hs
      exact ⟨c, hIx _ _ _ _ hi (hST.more fun _ _ e => Or.inl e) (by omega), hc.trans (hST.more fun _ _ e => Or.inr e), (hST.both _ (by omega) ho1).1.trans hl, (hST.both _ (by omega) ho0).1.trans hk⟩
    · -- ONE ROUND
      rintro pre x W ⟨hi, hc, hl, hk⟩ hsz hS
      have hlt : w.heap.size + 1 < W.heap.size := by omega
      have hy := run_yield (P := P) (args := enc x) hl (by rw [hrec]; exact hps x)
      rw [hrec] at hy
      refine ⟨fn, _, assign, body, hy, roundIn_of_wpIn hfn (hassign _ x W _ ⟨_, run_beginRound hl (by rw [hrec]), ?_⟩)⟩
      obtain ⟨W2, hW2⟩ : ∃ W2, W2 = W.putObj (w.heap.size + 1) (.loop { rec .ready none with state := .busy }) := ⟨_, rfl⟩
      rw [← hW2]
      have hl2 : W2.heap[w.heap.size + 1]? = some (.loop { rec .ready none with state := .busy }) := by rw [hW2]; exact World.putObj_heap_same hlt
      have hk2 : W2.heap[w.heap.size]? = some (.deferred (some [])) := by rw [hW2]; exact (World.putObj_heap_other (by omega)).trans hk
      have hs2 : W2.heap.size = W.heap.size := by rw [hW2]; exact World.putObj_size
      have hc2 : But (fun k => k = w.heap.size + 1) W W2 := by rw [hW2]; exact But.putObj (p := fun k => k = w.heap.size + 1) (Chg.refl _ W) (fun _ => rfl) _
      have hi2 : I pre W2 := hI _ _ _ hi (hc2.more fun k _ e => Or.inr (by omega)) (by omega)
      have hc3 : But (fun k => R k ∨ own k) w W2 := by rw [hW2]; exact But.putObj hc (fun h => by omega) _
      clear hW2
      refine wpIn_mono (hbody _ pre x _ hi2 hS (by omega)) ?_
      have fin : ∀ (jump : Option Code) (W3 : World), But R W2 W3 → ∃ W4,
          (Instr.endRound (w.heap.size + 1) jump).run P W3 = .ok (.bool jump.isNone) W4 ∧
          W4.heap[w.heap.size + 1]? = some (.loop (rec (if jump.isNone then .ready else .done) jump)) ∧ W4.heap[w.heap.size]? = some (.deferred (some [])) ∧
          But (fun k => R k ∨ k = w.heap.size + 1) W W4 ∧ But (fun k => R k ∨ own k) w W4 ∧ But (fun k => k = w.heap.size + 1) W3 W4 ∧ w.heap.size ≤ W3.heap.size := fun jump W3 hk3 => by
        have hs3 := hk3.size
        rw [hs2] at hs3
        have hl3 := (hk3.both (w.heap.size + 1) (by rw [hs2]; omega) hn1).1
        have hk4 := (hk3.both w.heap.size (by rw [hs2]; omega) hn0).1
        rw [hl2] at hl3
        rw [hk2] at hk4
        have := run_endRound (P := P) jump hl3
        have hb4 := But.putObj (p := fun k => k = w.heap.size + 1) (Chg.refl _ W3) (fun _ => rfl) (.loop (rec (if jump.isNone then .ready else .done) jump)) (l := w.heap.size + 1)
        rw [hrec] at this hb4 ⊢
        exact ⟨_, this, World.putObj_heap_same (by omega), (World.putObj_heap_other (by omega)).trans hk4,
          ((hc2.more fun _ _ e => Or.inr e).trans (hk3.more fun _ _ e => Or.inl e)).trans (hb4.more fun _ _ e => Or.inr e), But.putObj (hc3.trans (hk3.more fun _ _ e => Or.inl e)) (fun h => by omega) _, hb4, by omega⟩
      rintro e a3 W3 hp
      cases e with
      | normal =>
        obtain ⟨hk3, hi3⟩ := hp
        obtain ⟨W4, hr, hl4, hk4, hc4, hc5, hb4, hs4⟩ := fin none W3 hk3
        exact ⟨_, _, hr, hc4, .inl ⟨rfl, hI _ _ _ hi3 (hb4.more fun k _ e => Or.inr (by omega)) hs4, hc5, hl4, hk4⟩⟩
      | ret =>
        obtain ⟨hk3, hi3⟩ := hp
        obtain ⟨W4, hr, hl4, hk4, hc4, hc5, hb4, hs4⟩ := fin (some .ret) W3 hk3
        exact ⟨_, _, hr, hc4, .inr ⟨rfl, .ret, hIx _ _ _ _ hi3 (hb4.more fun k _ e => Or.inr (by omega)) hs4, hc5, hl4, hk4⟩⟩
      | exit id =>
        obtain ⟨hk3, hi3⟩ := hp
        obtain ⟨W4, hr, hl4, hk4, hc4, hc5, hb4, hs4⟩ := fin (some (.exit id)) W3 hk3
        exact ⟨_, _, hr, hc4, .inr ⟨rfl, .exit id, hIx _ _ _ _ hi3 (hb4.more fun k _ e => Or.inr (by omega)) hs4, hc5, hl4, hk4⟩⟩
      | goto t =>
        obtain ⟨hk3, hi3⟩ := hp
        obtain ⟨W4, hr, hl4, hk4, hc4, hc5, hb4, hs4⟩ := fin (some (.goto t)) W3 hk3
        exact ⟨_, _, hr, hc4, .inr ⟨rfl, .goto t, hIx _ _ _ _ hi3 (hb4.more fun k _ e => Or.inr (by omega)) hs4, hc5, hl4, hk4⟩⟩
      | panic ch => exact hp.elim
      | outgrown => exact hp.elim
    · -- BEHIND THE ITERATOR
      rintro e W2 ⟨⟨v, rfl⟩, hch, (⟨xs, hS, hi, hc, hl, hk⟩ | ⟨pre, c, hi, hc, hl, hk⟩)⟩
      · have hsz : w.heap.size + 2 ≤ W2.heap.size := by omega
        exact ⟨none, _, by have := run_endLoop (P := P) hl (by rw [hrec]; simp); rw [hrec] at this; exact this, hdone xs _ hS (hI _ _ _ hi (But.putObj (p := fun k => own k ∨ w.heap.size ≤ k) (Chg.refl _ W2) (fun _ => Or.inr (by omega)) _) (by omega)) (But.putObj hc (fun h => by omega) _) ((World.putObj_heap_other (by omega)).trans hk)⟩
      · have hsz : w.heap.size + 2 ≤ W2.heap.size := by omega
        exact ⟨some c, _, by have := run_endLoop (P := P) hl (by rw [hrec]; simp); rw [hrec] at this; exact this, hstop c pre _ (hIx _ _ _ _ hi (But.putObj (p := fun k => own k ∨ w.heap.size ≤ k) (Chg.refl _ W2) (fun _ => Or.inr (by omega)) _) (by omega)) (But.putObj hc (fun h => by omega) _) ((World.putObj_heap_other (by omega)).trans hk)⟩
end Go.Proofs.YtkmmcphiijolkaaDoor
