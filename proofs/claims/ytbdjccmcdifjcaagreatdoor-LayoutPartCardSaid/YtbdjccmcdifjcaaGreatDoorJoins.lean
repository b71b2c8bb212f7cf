/-
  The tokens of a line, a blank, and what stands behind: plain facts on bytes.
-/
import Derived.Test.YtbdjccmcdifjcaaGreatDoorX
set_option linter.unusedVariables false
set_option linter.unusedSimpArgs false
namespace Go.Proofs.YtbdjccmcdifjcaaGreatDoor
namespace Sp

theorem find_same {α : Type} {p q : α → Bool} : ∀ (l : List α), (∀ x ∈ l, p x = q x) → l.find? p = l.find? q := by
  intro l
  induction l with
  | nil => intro _; rfl
  | cons x l ih =>
    intro h
    rw [List.find?_cons, List.find?_cons, h x (by simp), ih (fun y hy => h y (by simp [hy]))]
theorem pre_stop (u : Bs) : ∀ (o l : Bs), (32 : UInt8) ∉ o → o.isPrefixOf (l ++ 32 :: u) = o.isPrefixOf l := by
  intro o
  induction o with
  | nil => intro l _; simp
  | cons c o ih =>
    intro l h
    cases l with
    | nil =>
      have : ¬ c = 32 := fun e => h (by simp [e])
      simp [List.isPrefixOf, this]
    | cons d l =>
      simp only [List.cons_append, List.isPrefixOf]
      rw [ih l (fun e => h (by simp [e]))]
theorem tokOp_stop (l u : Bs) : tokOp (l ++ 32 :: u) = tokOp l := by
  unfold tokOp opsFrom
  have h : (opsL.drop 0).find? (fun o => o.isPrefixOf (l ++ 32 :: u)) = (opsL.drop 0).find? (fun o => o.isPrefixOf l) := by
    apply find_same
    intro o ho
    have h32 : ∀ x ∈ opsL, (32 : UInt8) ∉ x := by decide
    exact pre_stop u o l (h32 o (by simpa using ho))
  rw [h]
theorem wordLen_stop (u : Bs) : ∀ l : Bs, wordLen (l ++ 32 :: u) = wordLen l := by
  intro l
  induction l with
  | nil => rfl
  | cons c r ih => rw [List.cons_append, wordLen, wordLen, ih]
theorem esc_stop {r v : Bs} {b : UInt8} {k : Nat} (h : esc (r ++ 32 :: v) = some (b, k)) : k ≤ r.length ∧ ∀ u, esc (r ++ 32 :: u) = some (b, k) := by
  have h32 : hexv 32 = none := by decide
  match r, h with
  | [], h =>
    have h1 : simp1 32 = none := by decide
    unfold esc at h
    simp only [List.nil_append, h1] at h
    rw [if_neg (by decide)] at h
    cases h
  | c :: r, h =>
    cases h3 : simp1 c with
    | some x =>
      unfold esc at h
      simp only [List.cons_append, h3] at h
      cases h
      refine ⟨by simp, fun u => ?_⟩
      unfold esc
      simp only [List.cons_append, h3]
    | none =>
      unfold esc at h
      simp only [List.cons_append, h3] at h
      by_cases hx : c.toNat = 120
      · rw [if_pos hx] at h
        match r, h with
        | [], h => cases v with
          | nil => simp at h
          | cons a v => simp [h32] at h
        | [a], h =>
          cases ha : hexv a with
          | none => simp [ha] at h
          | some m => simp [ha, h32] at h
        | a :: b :: r, h =>
          refine ⟨?_, fun u => ?_⟩
          · cases ha : hexv a with
            | none => simp [ha] at h
            | some m =>
              cases hb : hexv b with
              | none => simp [ha, hb] at h
              | some n => simp only [List.cons_append, ha, hb] at h; cases h; simp
          · unfold esc
            simp only [List.cons_append, h3]
            rw [if_pos hx]
            exact h
      · rw [if_neg hx] at h; cases h
theorem strAt_stop (q : UInt8) (hq : q.toNat = 39 ∨ q.toNat = 34) : ∀ (f : Nat) (r t : Bs) (n : Nat), r.length ≤ f → strAt q (r ++ [32, 120]) = some (t, n) → n ≤ r.length ∧ ∀ u, strAt q (r ++ 32 :: u) = some (t, n) := by
  have q32 : ¬ (32 : UInt8) = q := by intro e; rw [← e] at hq; revert hq; decide
  have q120 : ¬ (120 : UInt8) = q := by intro e; rw [← e] at hq; revert hq; decide
  have hnil : strAt q [32, 120] = none := by
    rw [strAt_cons, if_neg q32, if_neg (by decide), if_neg (by decide), strAt_cons, if_neg q120, if_neg (by decide), if_neg (by decide), strAt_nil]
    rfl
  intro f
  induction f with
  | zero =>
    intro r t n hl h
    have : r = [] := by cases r with | nil => rfl | cons => simp at hl
    subst this
    rw [List.nil_append, hnil] at h
    cases h
  | succ f ih =>
    intro r t n hl h
    cases r with
    | nil => rw [List.nil_append, hnil] at h; cases h
    | cons c r =>
      simp only [List.length_cons] at hl
      rw [List.cons_append, strAt_cons] at h
      by_cases h1 : c = q
      · rw [if_pos h1] at h
        cases h
        refine ⟨by simp, fun u => ?_⟩
        rw [List.cons_append, strAt_cons, if_pos h1]
      · rw [if_neg h1] at h
        by_cases h2 : c.toNat < 32
        · rw [if_pos h2] at h; cases h
        · rw [if_neg h2] at h
          by_cases h3 : c.toNat = 92
          · rw [if_pos h3] at h
            cases he : esc (r ++ [32, 120]) with
            | none => rw [he] at h; cases h
            | some x =>
              obtain ⟨b, k⟩ := x
              rw [he] at h
              simp only [] at h
              obtain ⟨hk, hu⟩ := esc_stop he
              rw [List.drop_append_of_le_length hk, Option.map_eq_some_iff] at h
              obtain ⟨⟨t', n'⟩, h4, h5⟩ := h
              cases h5
              obtain ⟨i1, i2⟩ := ih (r.drop k) t' n' (by simp; omega) h4
              simp only [List.length_drop] at i1
              refine ⟨by simp; omega, fun u => ?_⟩
              rw [List.cons_append, strAt_cons, if_neg h1, if_neg h2, if_pos h3, hu u]
              simp only []
              rw [List.drop_append_of_le_length hk, i2 u]
              rfl
          · rw [if_neg h3, Option.map_eq_some_iff] at h
            obtain ⟨⟨t', n'⟩, h4, h5⟩ := h
            cases h5
            obtain ⟨i1, i2⟩ := ih r t' n' (by omega) h4
            refine ⟨by simp; omega, fun u => ?_⟩
            rw [List.cons_append, strAt_cons, if_neg h1, if_neg h2, if_neg h3, i2 u]
            rfl
theorem tok1_plain (c : UInt8) (r u : Bs) (h : ¬ (c.toNat = 39 ∨ c.toNat = 34)) : tok1 (c :: r ++ 32 :: u) = tok1 (c :: r) := by
  have hw : wordLen (c :: r ++ 32 :: u) = wordLen (c :: r) := wordLen_stop u (c :: r)
  have hle := wordLen_le (c :: r)
  have ht : (c :: r ++ 32 :: u).take (wordLen (c :: r ++ 32 :: u)) = (c :: r).take (wordLen (c :: r)) := by
    rw [hw, List.take_append_of_le_length hle]
  have ho := tokOp_stop (c :: r) u
  rw [List.cons_append] at ht ho ⊢
  rw [tok1, tok1, if_neg h, if_neg h, ht, ho]
theorem tok1_stop_ok {c : UInt8} {r : Bs} {t : Tk} (h : tok1 (c :: r ++ [32, 120]) = .ok t) : t.size ≤ (c :: r).length ∧ ∀ u, tok1 (c :: r ++ 32 :: u) = .ok t := by
  by_cases hq : c.toNat = 39 ∨ c.toNat = 34
  · rw [List.cons_append, tok1, if_pos hq] at h
    unfold tokStr at h
    cases hs : strAt c (r ++ [32, 120]) with
    | none => rw [hs] at h; cases h
    | some x =>
      obtain ⟨t', n⟩ := x
      obtain ⟨i1, i2⟩ := strAt_stop c hq r.length r t' n (Nat.le_refl _) hs
      rw [hs] at h
      simp only [] at h
      split at h
      · rename_i hlen
        cases h
        refine ⟨by simp; omega, fun u => ?_⟩
        rw [List.cons_append, tok1, if_pos hq]
        unfold tokStr
        rw [i2 u]
        simp only []
        rw [if_pos hlen]
      · cases h
  · rw [tok1_plain c r [120] hq] at h
    have := tok1_size h
    exact ⟨this.2, fun u => by rw [tok1_plain c r u hq]; exact h⟩
theorem tok1_stop_err {c : UInt8} {r : Bs} {e : Int} (h : tok1 (c :: r ++ [32, 120]) = .error e) : e = 12 ∨ ∀ u, tok1 (c :: r ++ 32 :: u) = .error e := by
  by_cases hq : c.toNat = 39 ∨ c.toNat = 34
  · left
    rw [List.cons_append, tok1, if_pos hq] at h
    exact tokStr_err _ _ _ h
  · right
    intro u
    rw [tok1_plain c r [120] hq] at h
    rw [tok1_plain c r u hq]
    exact h

theorem lexAt_join : ∀ (f : Nat) (r : Bs) (pos : Nat), r.length ≤ f →
    (∀ p er, lexAt pos (r ++ [32, 120]) = .error (p, er) → er = 12 ∨ ∀ u, lexAt pos (r ++ 32 :: u) = .error (p, er)) ∧
    (∀ ts, lexAt pos (r ++ [32, 120]) = .ok ts → (∃ z ∈ ts, z.1 = pos + r.length + 1) → ∃ ts' z, ts = ts' ++ [z] ∧ ∀ u, lexAt pos (r ++ 32 :: u) = ahead ts' (lexAt (pos + r.length + 1) u)) := by
  have base : ∀ pos, lexAt pos [32, 120] = .ok [(pos + 1, ⟨1, [120], 0, 1⟩)] := by
    intro pos
    rw [lexAt_blank pos 32 _ (by decide)]
    have h1 : tok1 [120] = .ok ⟨1, [120], 0, 1⟩ := rfl
    rw [lexAt_tok (pos + 1) 120 [] (by decide) (by decide) _ h1]
    rfl
  intro f
  induction f with
  | zero =>
    intro r pos hl
    have : r = [] := by cases r with | nil => rfl | cons => simp at hl
    subst this
    rw [List.nil_append, base]
    refine ⟨fun p er h => (by cases h), fun ts h _ => ?_⟩
    cases h
    refine ⟨[], _, rfl, fun u => ?_⟩
    rw [List.nil_append, lexAt_blank pos 32 _ (by decide), ahead_nil]
    rfl
  | succ f ih =>
    intro r pos hl
    cases r with
    | nil =>
      rw [List.nil_append, base]
      refine ⟨fun p er h => (by cases h), fun ts h _ => ?_⟩
      cases h
      refine ⟨[], _, rfl, fun u => ?_⟩
      rw [List.nil_append, lexAt_blank pos 32 _ (by decide), ahead_nil]
      rfl
    | cons c r =>
      simp only [List.length_cons] at hl
      by_cases h32 : c.toNat = 32
      · obtain ⟨i1, i2⟩ := ih r (pos + 1) (by omega)
        have e : ∀ v, lexAt pos (c :: r ++ v) = lexAt (pos + 1) (r ++ v) := fun v => by rw [List.cons_append, lexAt_blank _ _ _ h32]
        refine ⟨fun p er h => ?_, fun ts h hz => ?_⟩
        · rw [e] at h
          rcases i1 p er h with h | h
          · exact Or.inl h
          · exact Or.inr fun u => by rw [e]; exact h u
        · rw [e] at h
          obtain ⟨z, hz1, hz2⟩ := hz
          obtain ⟨ts', z', h1, h2⟩ := i2 ts h ⟨z, hz1, by rw [hz2]; simp; omega⟩
          refine ⟨ts', z', h1, fun u => ?_⟩
          rw [e, h2 u]
          congr 2
          simp
          omega
      · by_cases h35 : c.toNat = 35
        · have e : ∀ v, lexAt pos (c :: r ++ v) = .ok [] := fun v => by rw [List.cons_append, lexAt_hash _ _ _ h35]
          refine ⟨fun p er h => (by rw [e] at h; cases h), fun ts h hz => ?_⟩
          rw [e] at h
          cases h
          obtain ⟨z, hz1, _⟩ := hz
          cases hz1
        · cases ht : tok1 (c :: r ++ [32, 120]) with
          | error er =>
            have e1 : lexAt pos (c :: r ++ [32, 120]) = .error (pos, er) := by
              rw [List.cons_append] at ht ⊢
              exact lexAt_err _ _ _ h32 h35 er ht
            refine ⟨fun p er' h => ?_, fun ts h hz => (by rw [e1] at h; cases h)⟩
            rw [e1] at h
            cases h
            rcases tok1_stop_err ht with h | h
            · exact Or.inl h
            · refine Or.inr fun u => ?_
              have hu := h u
              rw [List.cons_append] at hu ⊢
              exact lexAt_err _ _ _ h32 h35 er hu
          | ok t =>
            obtain ⟨hsz, hu⟩ := tok1_stop_ok ht
            have hs1 := (tok1_size ht).1
            have e : ∀ v, tok1 (c :: r ++ v) = .ok t → lexAt pos (c :: r ++ v) = ahead [(pos, t)] (lexAt (pos + t.size) ((c :: r).drop t.size ++ v)) := by
              intro v hv
              rw [List.cons_append] at hv ⊢
              rw [lexAt_tok pos c (r ++ v) h32 h35 t hv, ← List.cons_append, List.drop_append_of_le_length hsz]
            obtain ⟨i1, i2⟩ := ih ((c :: r).drop t.size) (pos + t.size) (by simp; omega)
            refine ⟨fun p er h => ?_, fun ts h hz => ?_⟩
            · rw [e _ ht] at h
              cases hr : lexAt (pos + t.size) ((c :: r).drop t.size ++ [32, 120]) with
              | ok us => rw [hr] at h; cases h
              | error y =>
                rw [hr] at h
                cases h
                rcases i1 p er hr with h | h
                · exact Or.inl h
                · refine Or.inr fun u => ?_
                  rw [e _ (hu u), h u]
                  rfl
            · rw [e _ ht] at h
              cases hr : lexAt (pos + t.size) ((c :: r).drop t.size ++ [32, 120]) with
              | error y => rw [hr] at h; cases h
              | ok us =>
                rw [hr] at h
                cases h
                obtain ⟨z, hz1, hz2⟩ := hz
                have hzl : pos + t.size + ((c :: r).drop t.size).length + 1 = pos + (c :: r).length + 1 := by
                  simp only [List.length_drop]
                  omega
                have hzu : ∃ z ∈ us, z.1 = pos + t.size + ((c :: r).drop t.size).length + 1 := by
                  rcases List.mem_append.1 hz1 with hz1 | hz1
                  · simp at hz1
                    subst hz1
                    simp at hz2
                    omega
                  · exact ⟨z, hz1, by rw [hz2, hzl]⟩
                obtain ⟨ts', z', h1, h2⟩ := i2 us hr hzu
                refine ⟨[(pos, t)] ++ ts', z', by rw [h1, List.append_assoc], fun u => ?_⟩
                rw [e _ (hu u), h2 u, ahead_ahead, hzl]

/-- So much added to all places. -/
def moved (d : Nat) (ts : List (Nat × Tk)) : List (Nat × Tk) := ts.map fun x => (x.1 + d, x.2)
def movedX (d : Nat) : Except (Nat × Int) (List (Nat × Tk)) → Except (Nat × Int) (List (Nat × Tk))
  | .error (p, e) => .error (p + d, e)
  | .ok ts => .ok (moved d ts)
theorem lexAt_move (d : Nat) : ∀ (f : Nat) (l : Bs) (pos : Nat), l.length ≤ f → lexAt (pos + d) l = movedX d (lexAt pos l) := by
  intro f
  induction f with
  | zero =>
    intro l pos hl
    have : l = [] := by cases l with | nil => rfl | cons => simp at hl
    subst this
    rfl
  | succ f ih =>
    intro l pos hl
    cases l with
    | nil => rfl
    | cons c r =>
      simp only [List.length_cons] at hl
      by_cases h32 : c.toNat = 32
      · rw [lexAt_blank _ _ _ h32, lexAt_blank _ _ _ h32, ← ih r (pos + 1) (by omega)]
        congr 1
        omega
      · by_cases h35 : c.toNat = 35
        · rw [lexAt_hash _ _ _ h35, lexAt_hash _ _ _ h35]; rfl
        · cases ht : tok1 (c :: r) with
          | error e => rw [lexAt_err _ _ _ h32 h35 e ht, lexAt_err _ _ _ h32 h35 e ht]; rfl
          | ok t =>
            have hs := tok1_size ht
            rw [lexAt_tok _ _ _ h32 h35 t ht, lexAt_tok _ _ _ h32 h35 t ht]
            have h1 := ih ((c :: r).drop t.size) (pos + t.size) (by simp; omega)
            rw [show pos + d + t.size = pos + t.size + d by omega, h1]
            cases lexAt (pos + t.size) ((c :: r).drop t.size) with
            | error y => rfl
            | ok us => rfl
theorem lexAt_from (d : Nat) (l : Bs) : lexAt d l = movedX d (lex l) := by
  have := lexAt_move d l.length l 0 (Nat.le_refl _)
  rw [Nat.zero_add] at this
  exact this

theorem lex_join_err {x : Bs} {p : Nat} {er : Int} (h : lex (x ++ [32, 120]) = .error (p, er)) : er = 12 ∨ ∀ u, lex (x ++ 32 :: u) = .error (p, er) := (lexAt_join x.length x 0 (Nat.le_refl _)).1 p er h
theorem lex_join_ok {x : Bs} {ts : List (Nat × Tk)} (h : lex (x ++ [32, 120]) = .ok ts) {z : Nat × Tk} (hz : z ∈ ts) (hp : z.1 = x.length + 1) : ∃ ts' z', ts = ts' ++ [z'] ∧ ∀ u, lex (x ++ 32 :: u) = ahead ts' (movedX (x.length + 1) (lex u)) := by
  obtain ⟨ts', z', h1, h2⟩ := (lexAt_join x.length x 0 (Nat.le_refl _)).2 ts h ⟨z, hz, by omega⟩
  refine ⟨ts', z', h1, fun u => ?_⟩
  have := h2 u
  rw [Nat.zero_add, lexAt_from (x.length + 1)] at this
  exact this
end Sp
end Go.Proofs.YtbdjccmcdifjcaaGreatDoor
