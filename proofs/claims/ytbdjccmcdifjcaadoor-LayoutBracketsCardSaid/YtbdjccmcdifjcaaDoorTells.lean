/-
  What holds of all that is told of a source: its kinds, its places, its blocks: plain; nothing here speaks of a program.
-/
import Derived.Test.YtbdjccmcdifjcaaDoorLayP
set_option linter.unusedVariables false
set_option linter.unusedSimpArgs false
namespace Go.Proofs.YtbdjccmcdifjcaaDoor
open Go.RowKit Go.Shelf
namespace Sp

theorem tok1_kind {c : UInt8} {r : Bs} {t : Tk} (h : tok1 (c :: r) = .ok t) : 1 ≤ t.kind ∧ t.kind ≤ 4 ∧ (t.kind = 1 → ∃ u, t.text = c :: u) := by
  rw [tok1] at h
  split at h
  · unfold tokStr at h
    split at h
    · split at h
      · cases h; simp
      · cases h
    · cases h
  · split at h
    · unfold tokInt at h
      split at h
      · cases h
      · split at h
        · cases h; simp
        · cases h
    · split at h
      · rename_i hw
        unfold tokName at h
        cases h
        refine ⟨by simp, by simp, fun _ => ?_⟩
        rw [wordLen, if_pos hw]
        exact ⟨_, rfl⟩
      · unfold tokOp opsFrom at h
        split at h
        · cases h; simp
        · cases h

/-- What holds of each token of a line that begins at a place. -/
theorem lexAt_all : ∀ (f : Nat) (l : Bs) (pos : Nat) (ts : List (Nat × Tk)), l.length ≤ f → lexAt pos l = .ok ts → ∀ x ∈ ts, pos ≤ x.1 ∧ x.1 < pos + l.length ∧ 1 ≤ x.2.kind ∧ x.2.kind ≤ 4 ∧ (x.2.kind = 1 → ∃ c u, x.2.text = c :: u ∧ l[x.1 - pos]? = some c) := by
  intro f
  induction f with
  | zero =>
    intro l pos ts hl h
    have : l = [] := by cases l with | nil => rfl | cons => simp at hl
    subst this
    cases h
    simp
  | succ f ih =>
    intro l pos ts hl h
    cases l with
    | nil => cases h; simp
    | cons c r =>
      simp only [List.length_cons] at hl
      by_cases h32 : c.toNat = 32
      · rw [lexAt_blank _ _ _ h32] at h
        intro x hx
        obtain ⟨h1, h2, h3, h4, h5⟩ := ih r (pos + 1) ts (by omega) h x hx
        refine ⟨by omega, by simp; omega, h3, h4, fun hk => ?_⟩
        obtain ⟨d, u, hu, hd⟩ := h5 hk
        refine ⟨d, u, hu, ?_⟩
        rw [show x.1 - pos = (x.1 - (pos + 1)) + 1 by omega, List.getElem?_cons_succ]
        exact hd
      · by_cases h35 : c.toNat = 35
        · rw [lexAt_hash _ _ _ h35] at h; cases h; simp
        · cases ht : tok1 (c :: r) with
          | error e => rw [lexAt_err _ _ _ h32 h35 e ht] at h; cases h
          | ok t =>
            rw [lexAt_tok _ _ _ h32 h35 t ht] at h
            have hs := tok1_size ht
            cases hr : lexAt (pos + t.size) ((c :: r).drop t.size) with
            | error y => rw [hr] at h; cases h
            | ok us =>
              rw [hr] at h
              cases h
              simp only [List.length_cons] at hs
              intro x hx
              rcases List.mem_append.1 hx with hx | hx
              · simp at hx
                subst hx
                obtain ⟨h1, h2, h3⟩ := tok1_kind ht
                refine ⟨Nat.le_refl _, by simp, h1, h2, fun hk => ?_⟩
                obtain ⟨u, hu⟩ := h3 hk
                exact ⟨c, u, hu, by simp⟩
              · obtain ⟨h1, h2, h3, h4, h5⟩ := ih ((c :: r).drop t.size) (pos + t.size) us (by simp; omega) hr x hx
                simp only [List.length_drop, List.length_cons] at h2
                refine ⟨by omega, by simp; omega, h3, h4, fun hk => ?_⟩
                obtain ⟨d, u, hu, hd⟩ := h5 hk
                refine ⟨d, u, hu, ?_⟩
                rw [List.getElem?_drop] at hd
                rw [← hd]
                congr 1
                omega
theorem lex_some {c : UInt8} {r : Bs} {ts : List (Nat × Tk)} (h32 : ¬ c.toNat = 32) (h35 : ¬ c.toNat = 35) (h : lex (c :: r) = .ok ts) : ts ≠ [] := by
  have h' : lexAt 0 (c :: r) = .ok ts := h
  cases ht : tok1 (c :: r) with
  | error e => rw [lexAt_err _ _ _ h32 h35 e ht] at h'; cases h'
  | ok t =>
    rw [lexAt_tok _ _ _ h32 h35 t ht] at h'
    cases hr : lexAt (0 + t.size) ((c :: r).drop t.size) with
    | error y => rw [hr] at h'; cases h'
    | ok us =>
      rw [hr] at h'
      cases h'
      simp

theorem drop_blanks : ∀ l : Bs, ∀ c r, l.drop (blanksOf l) = c :: r → ¬ c.toNat = 32
  | [], c, r, h => by simp at h
  | b :: l, c, r, h => by
    unfold blanksOf at h
    split at h
    · rw [List.drop_succ_cons] at h
      exact drop_blanks l c r h
    · rename_i hb
      simp at h
      rw [← h.1]
      exact hb

/-- How a line that is well goes on. -/
theorem lineStep_shape {st st' : LS} {x : Nat × Bs} (h : lineStep st x = .ok st') :
    (st' = st ∧ st.opn = []) ∨ ∃ (m : List T4) (ts : List (Nat × Tk)), lex (x.2.drop (blanksOf x.2)) = .ok ts ∧
      brk st.opn (ts.map (abs4 ((x.1 + blanksOf x.2 : Nat) : Int))) = .ok st'.opn ∧
      st'.out = st.out ++ m ++ ts.map (abs4 ((x.1 + blanksOf x.2 : Nat) : Int)) ++ (if st'.opn = [] then [mark 5 ((x.1 + x.2.length : Nat) : Int)] else []) ∧
      ((st.opn ≠ [] ∧ m = [] ∧ st'.blk = st.blk) ∨ (st.opn = [] ∧ indent st.blk (blanksOf x.2) ((x.1 + blanksOf x.2 : Nat) : Int) = .ok (m, st'.blk) ∧ ts ≠ [])) := by
  have rest : ∀ {m : List T4} {blk : List Nat}, lineRest st m blk x = .ok st' → ∃ ts : List (Nat × Tk), lex (x.2.drop (blanksOf x.2)) = .ok ts ∧
      brk st.opn (ts.map (abs4 ((x.1 + blanksOf x.2 : Nat) : Int))) = .ok st'.opn ∧
      st'.out = st.out ++ m ++ ts.map (abs4 ((x.1 + blanksOf x.2 : Nat) : Int)) ++ (if st'.opn = [] then [mark 5 ((x.1 + x.2.length : Nat) : Int)] else []) ∧ st'.blk = blk := by
    intro m blk h
    unfold lineRest at h
    cases hl : lex (x.2.drop (blanksOf x.2)) with
    | error e => rw [hl] at h; cases h
    | ok ts =>
      rw [hl] at h
      simp only at h
      cases hb : brk st.opn (ts.map (abs4 ((x.1 + blanksOf x.2 : Nat) : Int))) with
      | error e => rw [hb] at h; cases h
      | ok o =>
        rw [hb] at h
        cases h
        exact ⟨ts, rfl, hb, rfl, rfl⟩
  unfold lineStep at h
  split at h
  · rename_i hop
    split at h
    · cases h; exact Or.inl ⟨rfl, hop⟩
    · rename_i c r hd
      split at h
      · cases h; exact Or.inl ⟨rfl, hop⟩
      · rename_i h35
        cases hi : indent st.blk (blanksOf x.2) ((x.1 + blanksOf x.2 : Nat) : Int) with
        | error e => rw [hi] at h; cases h
        | ok mb =>
          obtain ⟨m, b⟩ := mb
          rw [hi] at h
          obtain ⟨ts, h1, h2, h3, h4⟩ := rest h
          refine Or.inr ⟨m, ts, h1, h2, h3, Or.inr ⟨hop, by rw [h4], ?_⟩⟩
          rw [hd] at h1
          exact lex_some (drop_blanks _ _ _ hd) h35 h1
  · rename_i hop
    obtain ⟨ts, h1, h2, h3, h4⟩ := rest h
    exact Or.inr ⟨[], ts, h1, h2, h3, Or.inl ⟨hop, rfl, h4⟩⟩

/-- The blocks of what is told: the last kind, and how many go on. -/
def aut1 (s : Int × Nat) (t : T4) : Option (Int × Nat) :=
  if t.1 = 6 then (if s.1 = 0 ∨ s.1 = 5 then some (6, s.2 + 1) else none)
  else if t.1 = 7 then (if s.1 = 6 ∨ s.1 = 8 ∨ s.2 = 0 then none else some (7, s.2 - 1))
  else if t.1 = 8 then (if s.1 = 6 ∨ s.1 = 8 then none else some (8, s.2))
  else if t.1 = 5 then (if s.1 = 6 ∨ s.1 = 8 then none else some (5, s.2))
  else if 1 ≤ t.1 ∧ t.1 ≤ 4 then (if s.1 = 8 then none else some (t.1, s.2))
  else none
def aut : Int × Nat → List T4 → Option (Int × Nat)
  | s, [] => some s
  | s, t :: ts => (aut1 s t).bind fun s' => aut s' ts
theorem aut_append : ∀ (xs ys : List T4) (s : Int × Nat), aut s (xs ++ ys) = (aut s xs).bind fun s' => aut s' ys
  | [], ys, s => rfl
  | x :: xs, ys, s => by
    rw [List.cons_append, aut, aut]
    cases aut1 s x with
    | none => rfl
    | some s' => exact aut_append xs ys s'
theorem aut_toks (q : Int) : ∀ (ts : List (Nat × Tk)) (s : Int × Nat), (∀ x ∈ ts, 1 ≤ x.2.kind ∧ x.2.kind ≤ 4) → s.1 ≠ 8 → ∃ k, aut s (ts.map (abs4 q)) = some (k, s.2) ∧ k ≠ 8 ∧ (ts ≠ [] → 1 ≤ k ∧ k ≤ 4) ∧ (ts = [] → k = s.1)
  | [], s, _, h => ⟨s.1, rfl, h, fun h => absurd rfl h, fun _ => rfl⟩
  | x :: ts, s, hk, h => by
    obtain ⟨h1, h2⟩ := hk x (List.mem_cons_self ..)
    have e : aut1 s (abs4 q x) = some (x.2.kind, s.2) := by
      unfold aut1 abs4
      simp only
      rw [if_neg (by omega), if_neg (by omega), if_neg (by omega), if_neg (by omega), if_pos ⟨h1, h2⟩, if_neg h]
    obtain ⟨k, a1, a2, a3, a4⟩ := aut_toks q ts (x.2.kind, s.2) (fun y hy => hk y (List.mem_cons_of_mem _ hy)) (by simp; omega)
    rw [List.map_cons, aut, e]
    refine ⟨k, a1, a2, fun _ => ?_, fun h => by simp at h⟩
    cases ts with
    | nil => rw [a4 rfl]; exact ⟨h1, h2⟩
    | cons => exact a3 (by simp)
theorem aut_outs (q : Int) : ∀ (n : Nat) (s : Int × Nat), n ≤ s.2 → s.1 ≠ 6 → s.1 ≠ 8 → ∃ k, aut s (List.replicate n (mark 7 q)) = some (k, s.2 - n) ∧ k ≠ 6 ∧ k ≠ 8
  | 0, s, _, h1, h2 => ⟨s.1, rfl, h1, h2⟩
  | n + 1, s, hn, h1, h2 => by
    have e : aut1 s (mark 7 q) = some (7, s.2 - 1) := by
      unfold aut1 mark
      simp only
      rw [if_neg (by omega), if_pos trivial, if_neg (by omega)]
    obtain ⟨k, a1, a2, a3⟩ := aut_outs q n (7, s.2 - 1) (by simp; omega) (by simp) (by simp)
    rw [List.replicate_succ, aut, e]
    refine ⟨k, ?_, a2, a3⟩
    show aut (7, s.2 - 1) _ = _
    rw [a1]
    simp
    omega

/-- Blocks' own bottom: the source itself. -/
theorem pops_base (n : Nat) : ∀ l : List Nat, (∃ bs, l = bs ++ [0]) → ∃ bs, (pops n l).1 = bs ++ [0] := by
  rintro l ⟨bs, rfl⟩
  induction bs with
  | nil => exact ⟨[], rfl⟩
  | cons b bs ih =>
    rw [List.cons_append, pops]
    split
    · exact ih
    · exact ⟨b :: bs, rfl⟩
theorem indent_base {blk b : List Nat} {n : Nat} {q : Int} {m : List T4} (h : indent blk n q = .ok (m, b)) (hb : ∃ bs, blk = bs ++ [0]) : ∃ bs, b = bs ++ [0] := by
  unfold indent at h
  split at h
  · cases h
    obtain ⟨bs, rfl⟩ := hb
    exact ⟨n :: bs, rfl⟩
  · split at h
    · cases h; exact pops_base n blk hb
    · cases h

/-- What holds of the blocks while lines are read. -/
structure BInv (st : LS) : Prop where
  base : ∃ bs, st.blk = bs ++ [0]
  run : ∃ k, aut (0, 0) st.out = some (k, st.blk.length - 1) ∧ k ≠ 8 ∧ k ≠ 6 ∧ (st.opn = [] → (k = 0 ∨ k = 5)) ∧ (k = 0 → st.blk.length = 1)

theorem binv0 : BInv st0 := ⟨⟨[], rfl⟩, 0, rfl, by omega, by omega, fun _ => Or.inl rfl, fun _ => rfl⟩
theorem binv_step {st st' : LS} {x : Nat × Bs} (h : BInv st) (e : lineStep st x = .ok st') : BInv st' := by
  rcases lineStep_shape e with ⟨rfl, _⟩ | ⟨m, ts, hl, hb, ho, hm⟩
  · exact h
  · obtain ⟨k, hk, k8, k6, hko, hk0⟩ := h.run
    obtain ⟨bs, hbs⟩ := h.base
    have hkinds : ∀ y ∈ ts, 1 ≤ y.2.kind ∧ y.2.kind ≤ 4 := fun y hy => by
      have := lexAt_all _ _ _ _ (Nat.le_refl _) hl y hy
      exact ⟨this.2.2.1, this.2.2.2.1⟩
    -- what the indentation told
    have step : ∃ k1, aut (0, 0) (st.out ++ m) = some (k1, st'.blk.length - 1) ∧ k1 ≠ 8 ∧ (ts = [] → k1 = k ∧ st'.blk = st.blk) ∧ (∃ bs', st'.blk = bs' ++ [0]) := by
      rcases hm with ⟨_, rfl, hblk⟩ | ⟨hop, hi, hne⟩
      · rw [List.append_nil, hblk]
        exact ⟨k, hk, k8, fun _ => ⟨rfl, rfl⟩, h.base⟩
      · have hbase := indent_base hi h.base
        rw [aut_append, hk]
        unfold indent at hi
        split at hi
        · obtain ⟨rfl, hbb⟩ := Prod.mk.inj (Except.ok.inj hi)
          rw [← hbb] at hbase ⊢
          refine ⟨6, ?_, by omega, fun h => absurd h hne, hbase⟩
          show (aut1 (k, st.blk.length - 1) (mark 6 _)).bind _ = _
          have : aut1 (k, st.blk.length - 1) (mark 6 ((x.1 + blanksOf x.2 : Nat) : Int)) = some (6, st.blk.length - 1 + 1) := by
            unfold aut1 mark
            simp only
            rw [if_pos trivial, if_pos (hko hop)]
          rw [this]
          show aut _ [] = _
          rw [aut]
          congr 2
          rw [hbs]
          simp
        · split at hi
          · have hsum := pops_sum (blanksOf x.2) st.blk
            obtain ⟨bs', hb'⟩ := pops_base (blanksOf x.2) st.blk h.base
            have hlen : 1 ≤ (pops (blanksOf x.2) st.blk).1.length := by rw [hb']; simp
            obtain ⟨rfl, hbb⟩ := Prod.mk.inj (Except.ok.inj hi)
            rw [← hbb] at hbase ⊢
            obtain ⟨k2, a1, a2, a3⟩ := aut_outs ((x.1 + blanksOf x.2 : Nat) : Int) (pops (blanksOf x.2) st.blk).2 (k, st.blk.length - 1) (by simp; omega) k6 k8
            refine ⟨k2, ?_, a3, fun h => absurd h hne, hbase⟩
            show aut _ _ = _
            rw [a1]
            simp only [Option.some.injEq, Prod.mk.injEq, true_and]
            omega
          · cases hi
    obtain ⟨k1, h1, h18, h1e, hbase⟩ := step
    obtain ⟨k2, h2, h28, h2n, h2e⟩ := aut_toks ((x.1 + blanksOf x.2 : Nat) : Int) ts (k1, st'.blk.length - 1) hkinds h18
    have h3 : aut (0, 0) (st.out ++ m ++ ts.map (abs4 ((x.1 + blanksOf x.2 : Nat) : Int))) = some (k2, st'.blk.length - 1) := by
      rw [aut_append, h1]
      exact h2
    have h26 : k2 ≠ 6 := by
      by_cases hts : ts = []
      · rw [h2e hts]
        show k1 ≠ 6
        rw [(h1e hts).1]
        exact k6
      · have := h2n hts
        omega
    refine ⟨hbase, ?_⟩
    rw [ho]
    by_cases hop' : st'.opn = []
    · rw [if_pos hop', aut_append, h3]
      refine ⟨5, ?_, by omega, by omega, fun _ => Or.inr rfl, fun h => by omega⟩
      show (aut1 _ _).bind _ = _
      have : aut1 (k2, st'.blk.length - 1) (mark 5 ((x.1 + x.2.length : Nat) : Int)) = some (5, st'.blk.length - 1) := by
        unfold aut1 mark
        simp only
        rw [if_neg (by omega), if_neg (by omega), if_neg (by omega), if_pos trivial, if_neg (by omega)]
      rw [this]
      rfl
    · rw [if_neg hop', List.append_nil]
      refine ⟨k2, h3, h28, h26, fun h => absurd h hop', fun h0 => ?_⟩
      by_cases hts : ts = []
      · obtain ⟨e1, e2⟩ := h1e hts
        have := h2e hts
        simp only at this
        rw [e2]
        exact hk0 (by omega)
      · have := h2n hts
        omega
theorem binv_run : ∀ (xs : List (Nat × Bs)) (st st' : LS), BInv st → runL st xs = .ok st' → BInv st'
  | [], st, st', h, e => by rw [runL] at e; cases e; exact h
  | x :: xs, st, st', h, e => by
    rw [runL] at e
    cases hs : lineStep st x with
    | error y => rw [hs] at e; cases e
    | ok s2 => rw [hs] at e; exact binv_run xs s2 st' (binv_step h hs) e
/-- **All blocks that begin end, and the last token, it alone, says that the source ends.** -/
theorem layL_blocks {s : Bs} {ts : List T4} (h : layL s = .ok ts) : aut (0, 0) ts = some (8, 0) := by
  unfold layL at h
  cases hr : runL st0 (linesL s) with
  | error e => rw [hr] at h; cases h
  | ok st =>
    rw [hr] at h
    obtain ⟨⟨bs, hbs⟩, k, hk, k8, k6, hko, _⟩ := binv_run _ _ _ binv0 hr
    simp only at h
    unfold finish at h
    cases ho : st.opn with
    | cons o os => rw [ho] at h; cases h
    | nil =>
      rw [ho] at h
      cases h
      rw [aut_append, aut_append, hk]
      obtain ⟨k2, a1, a2, a3⟩ := aut_outs (s.length : Int) (st.blk.length - 1) (k, st.blk.length - 1) (Nat.le_refl _) k6 k8
      simp only [Option.bind_some]
      rw [a1]
      show (aut1 _ _).bind _ = _
      have : aut1 (k2, st.blk.length - 1 - (st.blk.length - 1)) (mark 8 (s.length : Int)) = some (8, 0) := by
        unfold aut1 mark
        simp only
        rw [if_neg (by omega), if_neg (by omega), if_pos trivial, if_neg (by omega), Nat.sub_self]
      rw [this]
      rfl

/-- What may be wrong. -/
def Code1 (e : Int) : Prop := e = 10 ∨ e = 11 ∨ e = 12 ∨ e = 20 ∨ e = 21
theorem lineStep_code {st : LS} {x : Nat × Bs} {p e : Int} (h : lineStep st x = .error (p, e)) : Code1 e := by
  have rest : ∀ {m : List T4} {blk : List Nat}, lineRest st m blk x = .error (p, e) → Code1 e := by
    intro m blk h
    unfold lineRest at h
    cases hl : lex (x.2.drop (blanksOf x.2)) with
    | error pe =>
      obtain ⟨q, er⟩ := pe
      rw [hl] at h
      cases h
      have := (lex_err hl).1
      unfold Code1
      omega
    | ok ts =>
      rw [hl] at h
      simp only at h
      cases hb : brk st.opn (ts.map (abs4 ((x.1 + blanksOf x.2 : Nat) : Int))) with
      | error q => rw [hb] at h; cases h; simp [Code1]
      | ok o => rw [hb] at h; cases h
  unfold lineStep at h
  split at h
  · split at h
    · cases h
    · split at h
      · cases h
      · split at h
        · rename_i er hi
          cases h
          unfold indent at hi
          split at hi
          · cases hi
          · split at hi
            · cases hi
            · cases hi; simp [Code1]
        · exact rest h
  · exact rest h
theorem runL_code : ∀ (xs : List (Nat × Bs)) (st : LS) (p e : Int), runL st xs = .error (p, e) → Code1 e
  | [], st, p, e, h => by cases h
  | x :: xs, st, p, e, h => by
    rw [runL] at h
    cases hs : lineStep st x with
    | error y => rw [hs] at h; cases h; exact lineStep_code hs
    | ok s2 => rw [hs] at h; exact runL_code xs s2 p e h
theorem layL_code {s : Bs} {p e : Int} (h : layL s = .error (p, e)) : Code1 e := by
  unfold layL at h
  cases hr : runL st0 (linesL s) with
  | error y => rw [hr] at h; cases h; exact runL_code _ _ _ _ hr
  | ok st =>
    rw [hr] at h
    simp only at h
    unfold finish at h
    split at h
    · cases h; simp [Code1]
    · cases h

theorem aut1_kind {s s' : Int × Nat} {t : T4} (h : aut1 s t = some s') : s'.1 = t.1 ∧ 1 ≤ t.1 ∧ t.1 ≤ 8 := by
  unfold aut1 at h
  split at h
  · rename_i e; split at h <;> cases h; exact ⟨e.symm, by omega, by omega⟩
  · split at h
    · rename_i e; split at h <;> cases h; exact ⟨e.symm, by omega, by omega⟩
    · split at h
      · rename_i e; split at h <;> cases h; exact ⟨e.symm, by omega, by omega⟩
      · split at h
        · rename_i e; split at h <;> cases h; exact ⟨e.symm, by omega, by omega⟩
        · split at h
          · rename_i e; split at h <;> cases h; exact ⟨rfl, by omega, by omega⟩
          · cases h
theorem aut_last : ∀ (xs : List T4) (z : T4) (s s' : Int × Nat), aut s (xs ++ [z]) = some s' → s'.1 = z.1 ∧ 1 ≤ z.1 := by
  intro xs z s s' h
  rw [aut_append] at h
  cases hx : aut s xs with
  | none => rw [hx] at h; cases h
  | some t =>
    rw [hx] at h
    simp only [Option.bind_some] at h
    rw [aut] at h
    cases ha : aut1 t z with
    | none => rw [ha] at h; cases h
    | some u =>
      rw [ha] at h
      cases h
      have := aut1_kind ha
      exact ⟨this.1, this.2.1⟩
/-- What a place in the middle says of what comes. -/
theorem aut_at {ts : List T4} {i : Nat} {x : T4} (h : aut (0, 0) ts = some (8, 0)) (hx : ts[i]? = some x) : ∃ k d k' d', aut (0, 0) (ts.take i) = some (k, d) ∧ aut1 (k, d) x = some (k', d') ∧ aut (0, 0) (ts.take (i + 1)) = some (k', d') ∧ aut (k', d') (ts.drop (i + 1)) = some (8, 0) := by
  have hi := (List.getElem?_eq_some_iff.1 hx).1
  have e : ts = ts.take i ++ x :: ts.drop (i + 1) := by
    conv => lhs; rw [← List.take_append_drop i ts]
    congr 1
    rw [List.drop_eq_getElem_cons hi]
    congr 1
    rw [List.getElem?_eq_getElem hi] at hx
    exact Option.some.inj hx
  have h0 := h
  rw [e, aut_append] at h
  cases h1 : aut (0, 0) (ts.take i) with
  | none => rw [h1] at h; cases h
  | some s =>
    rw [h1] at h
    simp only [Option.bind_some] at h
    rw [aut] at h
    cases h2 : aut1 s x with
    | none => rw [h2] at h; cases h
    | some s' =>
      rw [h2] at h
      refine ⟨s.1, s.2, s'.1, s'.2, rfl, h2, ?_, h⟩
      rw [List.take_add_one, hx, aut_append, h1]
      show aut s [x] = _
      rw [aut, h2]
      rfl
theorem aut_begin {d : Nat} {ts : List T4} (h : aut (6, d) ts = some (8, 0)) : ∃ y r, ts = y :: r ∧ 1 ≤ y.1 ∧ y.1 ≤ 4 := by
  cases ts with
  | nil => simp [aut] at h
  | cons y r =>
    refine ⟨y, r, rfl, ?_⟩
    rw [aut] at h
    cases ha : aut1 (6, d) y with
    | none => rw [ha] at h; cases h
    | some u =>
      unfold aut1 at ha
      simp at ha
      exact ha.2.2.2.2.1
theorem aut_none {d : Nat} {ts : List T4} (h : aut (8, d) ts = some (8, 0)) : ts = [] := by
  cases ts with
  | nil => rfl
  | cons y r =>
    exfalso
    rw [aut] at h
    have : aut1 (8, d) y = none := by
      unfold aut1
      simp
    rw [this] at h
    cases h
end Sp
end Go.Proofs.YtbdjccmcdifjcaaDoor
