/-
  A range over a method of a value (a function with arguments of its own ahead) whose variables are made new in each round; nothing here speaks of a program.
-/
import Derived.Test.YtaghkidelbepnaaTreeR
set_option linter.unusedVariables false
set_option linter.unusedSimpArgs false
namespace Go.Proofs.Ytaghkidelbepnaa
open Go.RowKit
variable {F : Fence} {n : Nat} {P : Program}
/-- What an iterator with arguments of its own ahead owes to rounds. -/
def GivesB {α : Type} (F : Fence) (n : Nat) (P : Program) (g : Nat) (bd lb : Array Value) (enc : α → Array Value) (S Sd : List α → Prop) (R : World → Nat → Prop) (w : World) : Prop :=
  ∀ (l : Nat) (J Jx : List α → World → Prop) (W : World), w.heap.size ≤ l → l < W.heap.size → Below w.heap.size w W → ¬ R W l → (∀ pre A, J pre A → W.heap.size ≤ A.heap.size → ∀ k, R A k → k < A.heap.size) →
    (∀ pre A B, J pre A → Stp R W.heap.size A B → W.heap.size ≤ A.heap.size → J pre B) → (∀ pre A B, Jx pre A → Below W.heap.size A B → W.heap.size ≤ A.heap.size → Jx pre B) →
    (∀ pre x A, J pre A → W.heap.size ≤ A.heap.size → S (pre ++ [x]) → YieldAt F (n - 1) P l (enc x) A fun e B => Chg (fun A k => R A k ∨ k = l) A B ∧ ((e = .returned (.bool true) ∧ J (pre ++ [x]) B) ∨ (e = .returned (.bool false) ∧ Jx (pre ++ [x]) B))) →
    J [] W →
    CallsIn F n P g (bd ++ #[.func (.yield l) #[] #[]] ++ lb) W fun e B => (∃ v, e = .returned v) ∧ Chg (fun A k => R A k ∨ k = l) W B ∧ ((∃ xs, Sd xs ∧ J xs B) ∨ (∃ pre, Jx pre B))
theorem wpIn_rangeFunc_B {α : Type} {g : Operand} {ps : Array Tmp} {assign body : Code} {Q : Exit → Act → World → Prop} {a : Act} {w : World}
    (hro : F.round = none) (h1 : F.depth.isSome = true → 1 ≤ n) {gf : Nat} {bd lb : Array Value} (hg : a.eval g = .func (.func gf) bd lb) (hFg : F.fn gf) (eg : ∀ args w, (callFunc gf args).run P w = .ok (.enter gf args) w)
    {enc : α → Array Value} {S Sd : List α → Prop} {R : World → Nat → Prop} (hD : Dyn R w.heap.size) (hseq : GivesB F (n - 1) P gf bd lb enc S Sd R w) (hps : ∀ x, (enc x).size = ps.size)
    (I : List α → World → Prop) (Ix : Code → List α → World → Prop) (hR : ∀ pre A, I pre A → w.heap.size ≤ A.heap.size → ∀ k, R A k → k < A.heap.size)
    (hI : ∀ pre A B, I pre A → Stp R w.heap.size A B → w.heap.size ≤ A.heap.size → I pre B) (hIx : ∀ c pre A B, Ix c pre A → Below w.heap.size A B → w.heap.size ≤ A.heap.size → Ix c pre B) (h0 : I [] w) (J : α → World → World → Act → Prop) (hJb : ∀ x A A' a', J x A A' a' → Below A.heap.size A A')
    (hassign : ∀ (l : Nat) (pre : List α) (x : α) (W : World) (K : Act → World → Prop), I pre W → w.heap.size + 2 ≤ W.heap.size → (∀ W' a', J x W W' a' → K a' W') →
      assign.wpIn (F.inRound l) (n - 1 - 1) P (Exit.then K (fun _ _ _ => False)) { tmps := (ps.zip (enc x)).foldl (fun t (p, v) => t.setIfInBounds p v) a.tmps, defers := [] } W)
    (hbody : ∀ (l : Nat) (pre : List α) (x : α) (W0 W' W : World) (a' : Act), J x W0 W' a' → I pre W0 → I pre W → S (pre ++ [x]) → w.heap.size + 2 ≤ W0.heap.size → W.heap.size = W'.heap.size → (∀ k, k ≠ w.heap.size + 1 → W.heap[k]? = W'.heap[k]?) → body.wpIn (F.inRound l) (n - 1 - 1) P (roundPostR R I Ix (pre ++ [x]) W) a' W)
    (hdone : ∀ (xs : List α) (W : World), Sd xs → I xs W → Chg R w W → W.heap[w.heap.size]? = some (.deferred (some [])) → ¬ R W w.heap.size → Q .normal { a with defers := { target := .collected w.heap.size, args := #[] } :: a.defers } W)
    (hstop : ∀ (c : Code) (pre : List α) (W : World), Ix c pre W → Chg R w W → W.heap[w.heap.size]? = some (.deferred (some [])) → c.wpIn F n P Q { a with defers := { target := .collected w.heap.size, args := #[] } :: a.defers } W) :
    (Code.rangeFunc g ps assign body).wpIn F n P Q a w := by
  refine wpIn_rangeFunc ?_
  intro fn hfn
  rw [hro]
  obtain ⟨rec, hrec⟩ : ∃ rec : LoopState → Option Code → Loop, rec = fun st pe => { state := st, pending := pe, fn, tmps := a.tmps, params := ps, assign, body, defers := w.heap.size } := ⟨_, rfl⟩
  obtain ⟨W1, hW1⟩ : ∃ W1, (w.alloc (.deferred (some []))).alloc (.loop (rec .ready none)) = W1 := ⟨_, rfl⟩
  have hs1 : W1.heap.size = w.heap.size + 2 := by rw [← hW1]; simp
  have hL1 : W1.heap[w.heap.size + 1]? = some (.loop (rec .ready none)) := by
    rw [← hW1]; have := World.alloc_heap_new (w.alloc (.deferred (some []))) (.loop (rec .ready none)); rwa [World.size_alloc] at this
  have hK1 : W1.heap[w.heap.size]? = some (.deferred (some [])) := by
    rw [← hW1]; exact (Below.heap_alloc _ _ _ (by simp)).trans (World.alloc_heap_new w _)
  have hb1 : Below w.heap.size w W1 := by
    rw [← hW1]; exact ((Below.refl _ w).alloc (Nat.le_refl _) _).alloc (by simp) _
  have hI1 : I [] W1 := hI _ _ _ h0 (Stp.all hb1 (Nat.le_refl _)) (Nat.le_refl _)
  have hn1 : ∀ k, w.heap.size ≤ k → ¬ R W1 k := fun k hk e => by have := hR _ _ h0 (Nat.le_refl _) k (hD w W1 hb1 k e); omega
  -- what a turn of the loop's own record keeps
  have hput : ∀ (A : World) (o' : Obj), Below w.heap.size A (A.putObj (w.heap.size + 1) o') := fun A o' =>
    ⟨rfl, rfl, rfl, by rw [World.putObj_size]; exact Nat.le_refl _, fun k hk => World.putObj_heap_other (by omega)⟩
  refine ⟨w.heap.size + 1, [{ target := .collected w.heap.size, args := #[] }], W1, { target := .fn (.func gf) lb, args := bd ++ #[.func (.yield (w.heap.size + 1)) #[] #[]] }, W1, gf,
    bd ++ #[.func (.yield (w.heap.size + 1)) #[] #[]] ++ lb, W1, ?_, ?_, ?_, ?_, h1, ?_⟩
  · rw [← hW1, hrec]; exact run_enterLoop_outer _ _ _ _ _
  · simp only [resolve, hg]
    simp [go_sem]
  · intro f' hf'; simp [Target.leads] at hf'; subst hf'; exact hFg
  · simp [invoke, go_sem, eg]
  · refine (hseq (w.heap.size + 1)
      (fun pre W => I pre W ∧ Chg R w W ∧ W.heap[w.heap.size + 1]? = some (.loop (rec .ready none)) ∧ W.heap[w.heap.size]? = some (.deferred (some [])) ∧ ¬ R W w.heap.size ∧ ¬ R W (w.heap.size + 1))
      (fun pre W => ∃ c, Ix c pre W ∧ Chg R w W ∧ W.heap[w.heap.size + 1]? = some (.loop (rec .done (some c))) ∧ W.heap[w.heap.size]? = some (.deferred (some [])))
      W1 (by omega) (by omega) hb1 (hn1 _ (by omega)) ?_ ?_ ?_ ?_ ⟨hI1, (Chg.refl R w).of_below hD hb1 (Nat.le_refl _) (Nat.le_refl _), hL1, hK1, hn1 _ (by omega), hn1 _ (by omega)⟩).mono ?_
    · rintro pre A ⟨hi, _⟩ hs k hk
      exact hR _ _ hi (by omega) k hk
    · rintro pre A B ⟨hi, hc, hl, hk, hn, hn'⟩ hST hs
      have hB := hST.b
      have hB' : Below w.heap.size A B := hB.mono (by omega)
      exact ⟨hI _ _ _ hi (hST.less (by omega) (fun _ e => e)) (by omega), hc.of_below hD hB (by omega) (by omega), (hB.block _ (by omega)).trans hl, (hB.block _ (by omega)).trans hk, fun e => hn (hD _ _ hB' _ e), fun e => hn' (hD _ _ hB' _ e)⟩
    · rintro pre A B ⟨c, hi, hc, hl, hk⟩ hB hs
      exact ⟨c, hIx _ _ _ _ hi (hB.mono (by omega)) (by omega), hc.of_below hD hB (by omega) (by omega), (hB.block _ (by omega)).trans hl, (hB.block _ (by omega)).trans hk⟩
    · -- ONE ROUND
      rintro pre x W0 ⟨hi0, hc0, hl0, hk0, hn0, hn0'⟩ hsz hS
      have hsz20 : w.heap.size + 2 ≤ W0.heap.size := by omega
      have hy := run_yield (P := P) (args := enc x) hl0 (by rw [hrec]; exact hps x)
      rw [hrec] at hy
      refine ⟨fn, _, assign, body, hy, roundIn_of_wpIn hfn (hassign _ pre x W0 _ hi0 hsz20 (fun W a₁ hJ => ?_))⟩
      have hbJ := hJb _ _ _ _ hJ
      have hbJw : Below w.heap.size W0 W := hbJ.mono (by omega)
      have hi : I pre W := hI _ _ _ hi0 (Stp.all hbJ (by omega)) (by omega)
      have hc : Chg R w W := hc0.of_below hD hbJw (by omega) (by omega)
      have hl : W.heap[w.heap.size + 1]? = some (.loop (rec .ready none)) := (hbJ.block _ (by omega)).trans hl0
      have hk : W.heap[w.heap.size]? = some (.deferred (some [])) := (hbJ.block _ (by omega)).trans hk0
      have hn : ¬ R W w.heap.size := fun e => hn0 (hD _ _ hbJw _ e)
      have hn' : ¬ R W (w.heap.size + 1) := fun e => hn0' (hD _ _ hbJw _ e)
      have hJs := hbJ.size
      have hcJ : Chg (fun A k => R A k ∨ k = w.heap.size + 1) W0 W := (Chg.refl (fun A k => R A k ∨ k = w.heap.size + 1) W0).of_below ((hD.or fun k => k = w.heap.size + 1).mono (by omega)) hbJ (Nat.le_refl _) (Nat.le_refl _)
      have hsz2 : w.heap.size + 2 ≤ W.heap.size := by omega
      have hlt : w.heap.size + 1 < W.heap.size := by omega
      refine ⟨_, run_beginRound hl (by rw [hrec]), ?_⟩
      obtain ⟨W2, hW2⟩ : ∃ W2, W2 = W.putObj (w.heap.size + 1) (.loop { rec .ready none with state := .busy }) := ⟨_, rfl⟩
      rw [← hW2]
      have hl2 : W2.heap[w.heap.size + 1]? = some (.loop { rec .ready none with state := .busy }) := by rw [hW2]; exact World.putObj_heap_same hlt
      have hk2 : W2.heap[w.heap.size]? = some (.deferred (some [])) := by rw [hW2]; exact (World.putObj_heap_other (by omega)).trans hk
      have hs2 : W2.heap.size = W.heap.size := by rw [hW2]; exact World.putObj_size
      have hb2 : Below w.heap.size W W2 := by rw [hW2]; exact hput W _
      have hc2 : Chg (fun A k => R A k ∨ k = w.heap.size + 1) W W2 := by rw [hW2]; exact (Chg.refl (fun A k => R A k ∨ k = w.heap.size + 1) W).putObj (hD.or fun k => k = w.heap.size + 1) (B0 := w.heap.size) (l := w.heap.size + 1) (by omega) (by omega) (fun _ => Or.inr rfl) _
      have hc3 : Chg R w W2 := by rw [hW2]; exact hc.putObj hD (by omega) (by omega) (fun h => by omega) _
      have hn2 : ¬ R W2 w.heap.size := fun e => hn (hD _ _ hb2 _ e)
      have hn2' : ¬ R W2 (w.heap.size + 1) := fun e => hn' (hD _ _ hb2 _ e)
      have hW2' := hW2
      clear hW2
      refine wpIn_mono (hbody _ pre x _ _ _ _ hJ hi0 (hI _ _ _ hi (by rw [hW2'] ; exact Stp.putObj (by omega) hn' _) (by omega)) hS hsz20 hs2 (fun k hk => by rw [hW2']; exact World.putObj_heap_other hk)) ?_
      have fin : ∀ (jump : Option Code) (W3 : World), Chg R W2 W3 → ∃ W4,
          (Instr.endRound (w.heap.size + 1) jump).run P W3 = .ok (.bool jump.isNone) W4 ∧
          W4.heap[w.heap.size + 1]? = some (.loop (rec (if jump.isNone then .ready else .done) jump)) ∧ W4.heap[w.heap.size]? = some (.deferred (some [])) ∧
          Chg (fun A k => R A k ∨ k = w.heap.size + 1) W W4 ∧ Chg R w W4 ∧ Below w.heap.size W3 W4 ∧ Stp R w.heap.size W3 W4 ∧ w.heap.size ≤ W3.heap.size ∧ ¬ R W4 w.heap.size ∧ ¬ R W4 (w.heap.size + 1) := fun jump W3 hk3 => by
        have hs3 := hk3.size
        rw [hs2] at hs3
        obtain ⟨hl3, hn3'⟩ := hk3.both (w.heap.size + 1) (by rw [hs2]; omega) hn2'
        obtain ⟨hk4, hn3⟩ := hk3.both w.heap.size (by rw [hs2]; omega) hn2
        rw [hl2] at hl3
        rw [hk2] at hk4
        have := run_endRound (P := P) jump hl3
        have hb4 := hput W3 (.loop (rec (if jump.isNone then .ready else .done) jump))
        rw [hrec] at this hb4 ⊢
        exact ⟨_, this, World.putObj_heap_same (by omega), (World.putObj_heap_other (by omega)).trans hk4,
          (hc2.trans hk3.add).putObj (hD.or fun k => k = w.heap.size + 1) (B0 := w.heap.size) (by omega) (by omega) (fun _ => Or.inr rfl) _, (hc3.trans hk3).putObj hD (by omega) (by omega) (fun h => by omega) _, hb4, Stp.putObj (by omega) hn3' _, by omega, fun e => hn3 (hD _ _ hb4 _ e), fun e => hn3' (hD _ _ hb4 _ e)⟩
      rintro e a3 W3 hp
      cases e with
      | normal =>
        obtain ⟨hk3, hi3⟩ := hp
        obtain ⟨W4, hr, hl4, hk4, hc4, hc5, hb4, ht4, hs4, hn4, hn4'⟩ := fin none W3 hk3
        exact ⟨_, _, hr, hcJ.trans hc4, .inl ⟨rfl, hI _ _ _ hi3 ht4 hs4, hc5, hl4, hk4, hn4, hn4'⟩⟩
      | ret =>
        obtain ⟨hk3, hi3⟩ := hp
        obtain ⟨W4, hr, hl4, hk4, hc4, hc5, hb4, ht4, hs4, hn4, hn4'⟩ := fin (some .ret) W3 hk3
        exact ⟨_, _, hr, hcJ.trans hc4, .inr ⟨rfl, .ret, hIx _ _ _ _ hi3 hb4 hs4, hc5, hl4, hk4⟩⟩
      | exit id =>
        obtain ⟨hk3, hi3⟩ := hp
        obtain ⟨W4, hr, hl4, hk4, hc4, hc5, hb4, ht4, hs4, hn4, hn4'⟩ := fin (some (.exit id)) W3 hk3
        exact ⟨_, _, hr, hcJ.trans hc4, .inr ⟨rfl, .exit id, hIx _ _ _ _ hi3 hb4 hs4, hc5, hl4, hk4⟩⟩
      | goto t =>
        obtain ⟨hk3, hi3⟩ := hp
        obtain ⟨W4, hr, hl4, hk4, hc4, hc5, hb4, ht4, hs4, hn4, hn4'⟩ := fin (some (.goto t)) W3 hk3
        exact ⟨_, _, hr, hcJ.trans hc4, .inr ⟨rfl, .goto t, hIx _ _ _ _ hi3 hb4 hs4, hc5, hl4, hk4⟩⟩
      | panic ch => exact hp.elim
      | outgrown => exact hp.elim
    · -- BEHIND THE ITERATOR
      rintro e W2 ⟨⟨v, rfl⟩, hch, (⟨xs, hS, hi, hc, hl, hk, hn, hn'⟩ | ⟨pre, c, hi, hc, hl, hk⟩)⟩
      · have hsz : w.heap.size + 2 ≤ W2.heap.size := by have := hch.size; omega
        exact ⟨none, _, by have := run_endLoop (P := P) hl (by rw [hrec]; simp); rw [hrec] at this; exact this, hdone xs _ hS (hI _ _ _ hi (Stp.putObj (by omega) hn' _) (by omega)) (hc.putObj hD (by omega) (by omega) (fun h => by omega) _) ((World.putObj_heap_other (by omega)).trans hk) (fun e => hn (hD _ _ (hput W2 _) _ e))⟩
      · have hsz : w.heap.size + 2 ≤ W2.heap.size := by have := hch.size; omega
        exact ⟨some c, _, by have := run_endLoop (P := P) hl (by rw [hrec]; simp); rw [hrec] at this; exact this, hstop c pre _ (hIx _ _ _ _ hi (hput W2 _) (by omega)) (hc.putObj hD (by omega) (by omega) (fun h => by omega) _) ((World.putObj_heap_other (by omega)).trans hk)⟩
end Go.Proofs.Ytaghkidelbepnaa
