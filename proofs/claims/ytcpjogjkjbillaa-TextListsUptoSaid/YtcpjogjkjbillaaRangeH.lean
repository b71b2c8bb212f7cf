/-
  A region that draws its order: operations that tell one value in every world of a class, ahead of others that all of them come before; in a round of a range over a function, or not; nothing here speaks of a program.
-/
import Derived.Test.YtcpjogjkjbillaaRangeQ
set_option linter.unusedVariables false
set_option linter.unusedSimpArgs false
namespace Go.Proofs.Ytcpjogjkjbillaa
open Go.RowKit
section
variable {F : Fence} {n : Nat} {P : Program} {ops : Array Oper} {md : Region.Mode} {C : World → Prop} {LH : Array Bool}
/-- However the first ones come up, just they have come up behind them. -/
def headB (md : Region.Mode) (ops : Array Oper) (LH : Array Bool) : Nat → Array Bool → Bool
  | 0, listed => listed == LH
  | f + 1, listed => !(Region.ready md ops listed).isEmpty && (Region.ready md ops listed).all fun i => headB md ops LH f (listed.setIfInBounds i true)
/-- They may come up as they stand. -/
def lexHead (md : Region.Mode) (ops : Array Oper) : Nat → Nat → Array Bool → Bool
  | 0, _, _ => true
  | fuel + 1, k, listed => (Region.ready md ops listed).contains k && Region.free md ops listed k && lexHead md ops fuel (k + 1) (listed.setIfInBounds k true)
def wpAnyQL (F : Fence) (n : Nat) (P : Program) (md : Region.Mode) (ops : Array Oper) (C : World → Prop) (L : Act → Prop) : Nat → Array Bool → Act → Prop
  | 0, _, a => L a
  | f + 1, listed, a => ∀ i ∈ Region.ready md ops listed, qOpIn F n P ops C i (wpAnyQL F n P md ops C L f (listed.setIfInBounds i true)) a
theorem headB_all {f : Nat} {listed : Array Bool} (h : headB md ops LH (f + 1) listed = true) : Region.ready md ops listed ≠ [] ∧ ∀ i ∈ Region.ready md ops listed, headB md ops LH f (listed.setIfInBounds i true) = true := by
  rw [headB, Bool.and_eq_true] at h
  refine ⟨fun e => ?_, fun i hi => List.all_eq_true.1 h.2 i hi⟩
  rw [e] at h
  cases h.1
theorem any_of_QL {L : Act → Prop} {Q' : Exit → Act → World → Prop} {g : Nat} (hro : ∀ (i : Nat) (o : Oper), ops[i]? = some o → ∀ c, o.op ≠ .defer c) (hL : ∀ a w, C w → L a → wpAnyIn F n P md ops Q' g LH a w) : ∀ (f : Nat) (listed : Array Bool) (a : Act) (w : World), headB md ops LH f listed = true → C w →
    wpAnyQL F n P md ops C L f listed a → wpAnyIn F n P md ops Q' (f + g) listed a w
  | 0, listed, a, w, hB, hw, h => by
    have e : listed = LH := by simpa [headB] using hB
    rw [Nat.zero_add, e]
    exact hL _ _ hw h
  | f + 1, listed, a, w, hB, hw, h => by
    rw [show f + 1 + g = (f + g) + 1 by omega]
    obtain ⟨h1, h2⟩ := headB_all hB
    exact ⟨fun h0 => absurd h0 h1, fun i hi => qop_quiet_rnd hro hw (fun a' w' hw' h' => any_of_QL hro hL f _ a' w' (h2 i hi) hw' h') (h i hi)⟩
theorem anyQL_first {L : Act → Prop} {i : Nat} {oi : Oper} {v : Value} (hi : ops[i]? = some oi) (hsel : ∀ (j : Nat) (o : Oper) cs b, ops[j]? = some o → o.op ≠ .select cs b) :
    ∀ (fuel : Nat) (listed : Array Bool) (a : Act), headB md ops LH (fuel + 1) listed = true →
      (∀ j oj, ops[j]? = some oj → j ≠ i → listed.getD j true = false → (∀ e ∈ oj.after, Region.binds md e = true → e.on ≠ i) → oi.apart ops oj = true) →
      i ∈ Region.ready md ops listed → YieldsQuiet F n P ops C oi v a →
      wpAnyQL F n P md ops C L fuel (listed.setIfInBounds i true) (a.put oi.dst v) → wpAnyQL F n P md ops C L (fuel + 1) listed a := by
  intro fuel
  induction fuel with
  | zero =>
    intro listed a hB _ hr hy H j hj
    by_cases hji : j = i
    · subst hji; exact hy.qOpIn hi H
    · exfalso
      obtain ⟨_, h2⟩ := headB_all hB
      have e1 : listed.setIfInBounds i true = LH := by simpa [headB] using h2 i hr
      have e2 : listed.setIfInBounds j true = LH := by simpa [headB] using h2 j hj
      have h0 := (mem_ready.1 hj).1
      have hjs : j < listed.size := by
        rcases Nat.lt_or_ge j listed.size with h | h
        · exact h
        · simp [Array.getElem?_eq_none h] at h0
      have e3 : (listed.setIfInBounds i true).getD j true = (listed.setIfInBounds j true).getD j true := by rw [e1, e2]
      rw [getD_set_ne true (Ne.symm hji), h0] at e3
      simp [hjs] at e3
  | succ fuel ih =>
    intro listed a hB hfree hr hy H j hj
    by_cases hji : j = i
    · subst hji; exact hy.qOpIn hi H
    · have h1 := H j (ready_mono hj hji)
      obtain ⟨hjun, oj, hoj, hall⟩ := mem_ready.1 hj
      have hnot : ∀ e ∈ oj.after, Region.binds md e = true → e.on ≠ i := fun e he hb heq => by
        have h1 := hall e he hb
        have h0 := (mem_ready.1 hr).1
        rw [heq] at h1
        rcases Nat.lt_or_ge i listed.size with h' | h'
        · simp [h'] at h0 h1; rw [h0] at h1; cases h1
        · simp [Array.getElem?_eq_none h'] at h1
      have h2 := qOpIn_put hoj (hfree j oj hoj hji hjun hnot) (fun cs b => hsel i oi cs b hi) (fun cs b => hsel j oj cs b hoj) hy h1
      have hfree' : ∀ k ok, ops[k]? = some ok → k ≠ i → (listed.setIfInBounds j true).getD k true = false →
          (∀ e ∈ ok.after, Region.binds md e = true → e.on ≠ i) → oi.apart ops ok = true := fun k ok hk hki hun hno => by
        refine hfree k ok hk hki ?_ hno
        by_cases hjk : j = k
        · subst hjk; exact hjun
        · rw [getD_set_ne true hjk] at hun; exact hun
      refine qOpIn_mono (fun a' h3 => ih (listed.setIfInBounds j true) a' ((headB_all hB).2 j hj) hfree' (ready_mono hr (Ne.symm hji)) h3.1 ?_) h2
      rw [Array.setIfInBounds_comm _ _ hji]
      exact h3.2
theorem anyQL_lex {L : Act → Prop} (hs : Region.noSelect ops = true) : ∀ (l : List Oper) (k : Nat) (listed : Array Bool) (a : Act), (∀ j, j < l.length → l[j]? = ops[k + j]?) →
    lexHead md ops l.length k listed = true → headB md ops LH l.length listed = true → wpQuietIn F n P ops C L l a → wpAnyQL F n P md ops C L l.length listed a
  | [], _, _, _, _, _, _, h => h
  | o :: l, k, listed, a, hl, hB, hH, h => by
    have h0 : ops[k]? = some o := by simpa using (hl 0 (by simp)).symm
    simp only [List.length_cons, lexHead, Bool.and_eq_true] at hB
    obtain ⟨⟨hr, hf⟩, hB'⟩ := hB
    have hr' : k ∈ Region.ready md ops listed := by simpa using hr
    have hst : qOpIn F n P ops C k (wpQuietIn F n P ops C L l) a := by unfold qOpIn; simp only [h0]; exact h
    obtain ⟨v, hy, hK⟩ := yieldsQuiet_of_qOpIn h0 hst
    exact anyQL_first h0 (Region.noSelect_spec hs) l.length listed a hH (Region.free_spec h0 hf) hr' hy
      (anyQL_lex hs l (k + 1) _ _ (fun j hj => by have := hl (j + 1) (by simp; omega); simpa [Nat.add_assoc, Nat.add_comm 1 j] using this) hB' ((headB_all hH).2 k hr') hK)
/-- A region whose first h operations tell one value in every world of the class; the k others come behind them. -/
theorem wpIn_region_head {id : Nat} {Q : Exit → Act → World → Prop} {a : Act} {w : World} {l : List Oper} (h k : Nat) (hk : l.length = h + k) (LH : Array Bool) (hm : P.follows .mixedOrders = true) (hn : noDefer l = true) (hs : Region.noSelect l.toArray = true)
    (hB : lexHead .any l.toArray h 0 (Array.replicate l.length false) = true) (hH : headB .any l.toArray LH h (Array.replicate l.length false) = true) (C : World → Prop) (hC : C w.drew)
    (hq : wpQuietIn F n P l.toArray C (fun a' => ∀ w', C w' → wpAnyIn F n P .any l.toArray Q k LH a' w') (l.take h) a) : (Code.region id l.toArray true).wpIn F n P Q a w := by
  refine wpIn_region_any hm ?_
  have hlen : (l.take h).length = h := by rw [List.length_take]; omega
  have h2 := anyQL_lex (F := F) (n := n) (P := P) (C := C) (md := .any) (ops := l.toArray) (LH := LH) hs (l.take h) 0 (Array.replicate l.length false) a (fun j hj => by rw [hlen] at hj; simp [List.getElem?_take_of_lt hj]) (by rw [hlen]; exact hB) (by rw [hlen]; exact hH) hq
  rw [hlen] at h2
  have h3 := any_of_QL (LH := LH) (g := k) (Q' := Q) (noDefer_at hn) (fun a w hw h => h w hw) _ _ _ _ hH hC h2
  rw [← hk] at h3
  simpa using h3
end
end Go.Proofs.Ytcpjogjkjbillaa
