/-
  What is told of lines hangs on no line behind them: with one more line all tokens are the same up to the end of the last line, and an error is the same, where it is none of a bracket that is left (layer 2, P2.1), at this program: the tied card of LayoutPart. No condition.
-/
import Derived.Test.YtbdjccmcdifjcaaGreatDoorLayP
import Derived.Test.YtbdjccmcdifjcaaGreatDoorLsAll
import Derived.Test.YtbdjccmcdifjcaaGreatDoorShown
import Derived.Deep.DeepCutAuto
import Derived.Deep.QuietTactic
import Derived.Test.YtbdjccmcdifjcaaGreatDoorCards
import Derived.Test.YtbdjccmcdifjcaaGreatDoorTie
import Derived.SevenTiedAt
set_option linter.unusedVariables false
set_option linter.unusedSimpArgs false
namespace Go.Proofs.YtbdjccmcdifjcaaGreatDoor
open Go.RowKit Go.Shelf
namespace Sp

theorem tok1_kind {c : UInt8} {r : Bs} {t : Tk} (h : tok1 (c :: r) = .ok t) : 1 ≤ t.kind ∧ t.kind ≤ 4 ∧ (t.kind = 1 → ∃ u, t.text = c :: u) := by
  rw [tok1] at h
  split at h
  · unfold tokStr at h
    split at h
    · split at h
      · cases h; simp
      · cases h
    · cases h
  · split at h
    · unfold tokInt at h
      split at h
      · cases h
      · split at h
        · cases h; simp
        · cases h
    · split at h
      · rename_i hw
        unfold tokName at h
        cases h
        refine ⟨by simp, by simp, fun _ => ?_⟩
        rw [wordLen, if_pos hw]
        exact ⟨_, rfl⟩
      · unfold tokOp opsFrom at h
        split at h
        · cases h; simp
        · cases h

/-- What holds of each token of a line that begins at a place. -/
theorem lexAt_all : ∀ (f : Nat) (l : Bs) (pos : Nat) (ts : List (Nat × Tk)), l.length ≤ f → lexAt pos l = .ok ts → ∀ x ∈ ts, pos ≤ x.1 ∧ x.1 < pos + l.length ∧ 1 ≤ x.2.kind ∧ x.2.kind ≤ 4 ∧ (x.2.kind = 1 → ∃ c u, x.2.text = c :: u ∧ l[x.1 - pos]? = some c) := by
  intro f
  induction f with
  | zero =>
    intro l pos ts hl h
    have : l = [] := by cases l with | nil => rfl | cons => simp at hl
    subst this
    cases h
    simp
  | succ f ih =>
    intro l pos ts hl h
    cases l with
    | nil => cases h; simp
    | cons c r =>
      simp only [List.length_cons] at hl
      by_cases h32 : c.toNat = 32
      · rw [lexAt_blank _ _ _ h32] at h
        intro x hx
        obtain ⟨h1, h2, h3, h4, h5⟩ := ih r (pos + 1) ts (by omega) h x hx
        refine ⟨by omega, by simp; omega, h3, h4, fun hk => ?_⟩
        obtain ⟨d, u, hu, hd⟩ := h5 hk
        refine ⟨d, u, hu, ?_⟩
        rw [show x.1 - pos = (x.1 - (pos + 1)) + 1 by omega, List.getElem?_cons_succ]
        exact hd
      · by_cases h35 : c.toNat = 35
        · rw [lexAt_hash _ _ _ h35] at h; cases h; simp
        · cases ht : tok1 (c :: r) with
          | error e => rw [lexAt_err _ _ _ h32 h35 e ht] at h; cases h
          | ok t =>
            rw [lexAt_tok _ _ _ h32 h35 t ht] at h
            have hs := tok1_size ht
            cases hr : lexAt (pos + t.size) ((c :: r).drop t.size) with
            | error y => rw [hr] at h; cases h
            | ok us =>
              rw [hr] at h
              cases h
              simp only [List.length_cons] at hs
              intro x hx
              rcases List.mem_append.1 hx with hx | hx
              · simp at hx
                subst hx
                obtain ⟨h1, h2, h3⟩ := tok1_kind ht
                refine ⟨Nat.le_refl _, by simp, h1, h2, fun hk => ?_⟩
                obtain ⟨u, hu⟩ := h3 hk
                exact ⟨c, u, hu, by simp⟩
              · obtain ⟨h1, h2, h3, h4, h5⟩ := ih ((c :: r).drop t.size) (pos + t.size) us (by simp; omega) hr x hx
                simp only [List.length_drop, List.length_cons] at h2
                refine ⟨by omega, by simp; omega, h3, h4, fun hk => ?_⟩
                obtain ⟨d, u, hu, hd⟩ := h5 hk
                refine ⟨d, u, hu, ?_⟩
                rw [List.getElem?_drop] at hd
                rw [← hd]
                congr 1
                omega
theorem lex_some {c : UInt8} {r : Bs} {ts : List (Nat × Tk)} (h32 : ¬ c.toNat = 32) (h35 : ¬ c.toNat = 35) (h : lex (c :: r) = .ok ts) : ts ≠ [] := by
  have h' : lexAt 0 (c :: r) = .ok ts := h
  cases ht : tok1 (c :: r) with
  | error e => rw [lexAt_err _ _ _ h32 h35 e ht] at h'; cases h'
  | ok t =>
    rw [lexAt_tok _ _ _ h32 h35 t ht] at h'
    cases hr : lexAt (0 + t.size) ((c :: r).drop t.size) with
    | error y => rw [hr] at h'; cases h'
    | ok us =>
      rw [hr] at h'
      cases h'
      simp

theorem drop_blanks : ∀ l : Bs, ∀ c r, l.drop (blanksOf l) = c :: r → ¬ c.toNat = 32
  | [], c, r, h => by simp at h
  | b :: l, c, r, h => by
    unfold blanksOf at h
    split at h
    · rw [List.drop_succ_cons] at h
      exact drop_blanks l c r h
    · rename_i hb
      simp at h
      rw [← h.1]
      exact hb

/-- How a line that is well goes on. -/
theorem lineStep_shape {st st' : LS} {x : Nat × Bs} (h : lineStep st x = .ok st') :
    (st' = st ∧ st.opn = []) ∨ ∃ (m : List T4) (ts : List (Nat × Tk)), lex (x.2.drop (blanksOf x.2)) = .ok ts ∧
      brk st.opn (ts.map (abs4 ((x.1 + blanksOf x.2 : Nat) : Int))) = .ok st'.opn ∧
      st'.out = st.out ++ m ++ ts.map (abs4 ((x.1 + blanksOf x.2 : Nat) : Int)) ++ (if st'.opn = [] then [mark 5 ((x.1 + x.2.length : Nat) : Int)] else []) ∧
      ((st.opn ≠ [] ∧ m = [] ∧ st'.blk = st.blk) ∨ (st.opn = [] ∧ indent st.blk (blanksOf x.2) ((x.1 + blanksOf x.2 : Nat) : Int) = .ok (m, st'.blk) ∧ ts ≠ [])) := by
  have rest : ∀ {m : List T4} {blk : List Nat}, lineRest st m blk x = .ok st' → ∃ ts : List (Nat × Tk), lex (x.2.drop (blanksOf x.2)) = .ok ts ∧
      brk st.opn (ts.map (abs4 ((x.1 + blanksOf x.2 : Nat) : Int))) = .ok st'.opn ∧
      st'.out = st.out ++ m ++ ts.map (abs4 ((x.1 + blanksOf x.2 : Nat) : Int)) ++ (if st'.opn = [] then [mark 5 ((x.1 + x.2.length : Nat) : Int)] else []) ∧ st'.blk = blk := by
    intro m blk h
    unfold lineRest at h
    cases hl : lex (x.2.drop (blanksOf x.2)) with
    | error e => rw [hl] at h; cases h
    | ok ts =>
      rw [hl] at h
      simp only at h
      cases hb : brk st.opn (ts.map (abs4 ((x.1 + blanksOf x.2 : Nat) : Int))) with
      | error e => rw [hb] at h; cases h
      | ok o =>
        rw [hb] at h
        cases h
        exact ⟨ts, rfl, hb, rfl, rfl⟩
  unfold lineStep at h
  split at h
  · rename_i hop
    split at h
    · cases h; exact Or.inl ⟨rfl, hop⟩
    · rename_i c r hd
      split at h
      · cases h; exact Or.inl ⟨rfl, hop⟩
      · rename_i h35
        cases hi : indent st.blk (blanksOf x.2) ((x.1 + blanksOf x.2 : Nat) : Int) with
        | error e => rw [hi] at h; cases h
        | ok mb =>
          obtain ⟨m, b⟩ := mb
          rw [hi] at h
          obtain ⟨ts, h1, h2, h3, h4⟩ := rest h
          refine Or.inr ⟨m, ts, h1, h2, h3, Or.inr ⟨hop, by rw [h4], ?_⟩⟩
          rw [hd] at h1
          exact lex_some (drop_blanks _ _ _ hd) h35 h1
  · rename_i hop
    obtain ⟨ts, h1, h2, h3, h4⟩ := rest h
    exact Or.inr ⟨[], ts, h1, h2, h3, Or.inl ⟨hop, rfl, h4⟩⟩

/-- The blocks of what is told: the last kind, and how many go on. -/
def aut1 (s : Int × Nat) (t : T4) : Option (Int × Nat) :=
  if t.1 = 6 then (if s.1 = 0 ∨ s.1 = 5 then some (6, s.2 + 1) else none)
  else if t.1 = 7 then (if s.1 = 6 ∨ s.1 = 8 ∨ s.2 = 0 then none else some (7, s.2 - 1))
  else if t.1 = 8 then (if s.1 = 6 ∨ s.1 = 8 then none else some (8, s.2))
  else if t.1 = 5 then (if s.1 = 6 ∨ s.1 = 8 then none else some (5, s.2))
  else if 1 ≤ t.1 ∧ t.1 ≤ 4 then (if s.1 = 8 then none else some (t.1, s.2))
  else none
def aut : Int × Nat → List T4 → Option (Int × Nat)
  | s, [] => some s
  | s, t :: ts => (aut1 s t).bind fun s' => aut s' ts
theorem aut_append : ∀ (xs ys : List T4) (s : Int × Nat), aut s (xs ++ ys) = (aut s xs).bind fun s' => aut s' ys
  | [], ys, s => rfl
  | x :: xs, ys, s => by
    rw [List.cons_append, aut, aut]
    cases aut1 s x with
    | none => rfl
    | some s' => exact aut_append xs ys s'
theorem aut_toks (q : Int) : ∀ (ts : List (Nat × Tk)) (s : Int × Nat), (∀ x ∈ ts, 1 ≤ x.2.kind ∧ x.2.kind ≤ 4) → s.1 ≠ 8 → ∃ k, aut s (ts.map (abs4 q)) = some (k, s.2) ∧ k ≠ 8 ∧ (ts ≠ [] → 1 ≤ k ∧ k ≤ 4) ∧ (ts = [] → k = s.1)
  | [], s, _, h => ⟨s.1, rfl, h, fun h => absurd rfl h, fun _ => rfl⟩
  | x :: ts, s, hk, h => by
    obtain ⟨h1, h2⟩ := hk x (List.mem_cons_self ..)
    have e : aut1 s (abs4 q x) = some (x.2.kind, s.2) := by
      unfold aut1 abs4
      simp only
      rw [if_neg (by omega), if_neg (by omega), if_neg (by omega), if_neg (by omega), if_pos ⟨h1, h2⟩, if_neg h]
    obtain ⟨k, a1, a2, a3, a4⟩ := aut_toks q ts (x.2.kind, s.2) (fun y hy => hk y (List.mem_cons_of_mem _ hy)) (by simp; omega)
    rw [List.map_cons, aut, e]
    refine ⟨k, a1, a2, fun _ => ?_, fun h => by simp at h⟩
    cases ts with
    | nil => rw [a4 rfl]; exact ⟨h1, h2⟩
    | cons => exact a3 (by simp)
theorem aut_outs (q : Int) : ∀ (n : Nat) (s : Int × Nat), n ≤ s.2 → s.1 ≠ 6 → s.1 ≠ 8 → ∃ k, aut s (List.replicate n (mark 7 q)) = some (k, s.2 - n) ∧ k ≠ 6 ∧ k ≠ 8
  | 0, s, _, h1, h2 => ⟨s.1, rfl, h1, h2⟩
  | n + 1, s, hn, h1, h2 => by
    have e : aut1 s (mark 7 q) = some (7, s.2 - 1) := by
      unfold aut1 mark
      simp only
      rw [if_neg (by omega), if_pos trivial, if_neg (by omega)]
    obtain ⟨k, a1, a2, a3⟩ := aut_outs q n (7, s.2 - 1) (by simp; omega) (by simp) (by simp)
    rw [List.replicate_succ, aut, e]
    refine ⟨k, ?_, a2, a3⟩
    show aut (7, s.2 - 1) _ = _
    rw [a1]
    simp
    omega

/-- Blocks' own bottom: the source itself. -/
theorem pops_base (n : Nat) : ∀ l : List Nat, (∃ bs, l = bs ++ [0]) → ∃ bs, (pops n l).1 = bs ++ [0] := by
  rintro l ⟨bs, rfl⟩
  induction bs with
  | nil => exact ⟨[], rfl⟩
  | cons b bs ih =>
    rw [List.cons_append, pops]
    split
    · exact ih
    · exact ⟨b :: bs, rfl⟩
theorem indent_base {blk b : List Nat} {n : Nat} {q : Int} {m : List T4} (h : indent blk n q = .ok (m, b)) (hb : ∃ bs, blk = bs ++ [0]) : ∃ bs, b = bs ++ [0] := by
  unfold indent at h
  split at h
  · cases h
    obtain ⟨bs, rfl⟩ := hb
    exact ⟨n :: bs, rfl⟩
  · split at h
    · cases h; exact pops_base n blk hb
    · cases h

/-- What holds of the blocks while lines are read. -/
structure BInv (st : LS) : Prop where
  base : ∃ bs, st.blk = bs ++ [0]
  run : ∃ k, aut (0, 0) st.out = some (k, st.blk.length - 1) ∧ k ≠ 8 ∧ k ≠ 6 ∧ (st.opn = [] → (k = 0 ∨ k = 5)) ∧ (k = 0 → st.blk.length = 1)

theorem binv0 : BInv st0 := ⟨⟨[], rfl⟩, 0, rfl, by omega, by omega, fun _ => Or.inl rfl, fun _ => rfl⟩
theorem binv_step {st st' : LS} {x : Nat × Bs} (h : BInv st) (e : lineStep st x = .ok st') : BInv st' := by
  rcases lineStep_shape e with ⟨rfl, _⟩ | ⟨m, ts, hl, hb, ho, hm⟩
  · exact h
  · obtain ⟨k, hk, k8, k6, hko, hk0⟩ := h.run
    obtain ⟨bs, hbs⟩ := h.base
    have hkinds : ∀ y ∈ ts, 1 ≤ y.2.kind ∧ y.2.kind ≤ 4 := fun y hy => by
      have := lexAt_all _ _ _ _ (Nat.le_refl _) hl y hy
      exact ⟨this.2.2.1, this.2.2.2.1⟩
    -- what the indentation told
    have step : ∃ k1, aut (0, 0) (st.out ++ m) = some (k1, st'.blk.length - 1) ∧ k1 ≠ 8 ∧ (ts = [] → k1 = k ∧ st'.blk = st.blk) ∧ (∃ bs', st'.blk = bs' ++ [0]) := by
      rcases hm with ⟨_, rfl, hblk⟩ | ⟨hop, hi, hne⟩
      · rw [List.append_nil, hblk]
        exact ⟨k, hk, k8, fun _ => ⟨rfl, rfl⟩, h.base⟩
      · have hbase := indent_base hi h.base
        rw [aut_append, hk]
        unfold indent at hi
        split at hi
        · obtain ⟨rfl, hbb⟩ := Prod.mk.inj (Except.ok.inj hi)
          rw [← hbb] at hbase ⊢
          refine ⟨6, ?_, by omega, fun h => absurd h hne, hbase⟩
          show (aut1 (k, st.blk.length - 1) (mark 6 _)).bind _ = _
          have : aut1 (k, st.blk.length - 1) (mark 6 ((x.1 + blanksOf x.2 : Nat) : Int)) = some (6, st.blk.length - 1 + 1) := by
            unfold aut1 mark
            simp only
            rw [if_pos trivial, if_pos (hko hop)]
          rw [this]
          show aut _ [] = _
          rw [aut]
          congr 2
          rw [hbs]
          simp
        · split at hi
          · have hsum := pops_sum (blanksOf x.2) st.blk
            obtain ⟨bs', hb'⟩ := pops_base (blanksOf x.2) st.blk h.base
            have hlen : 1 ≤ (pops (blanksOf x.2) st.blk).1.length := by rw [hb']; simp
            obtain ⟨rfl, hbb⟩ := Prod.mk.inj (Except.ok.inj hi)
            rw [← hbb] at hbase ⊢
            obtain ⟨k2, a1, a2, a3⟩ := aut_outs ((x.1 + blanksOf x.2 : Nat) : Int) (pops (blanksOf x.2) st.blk).2 (k, st.blk.length - 1) (by simp; omega) k6 k8
            refine ⟨k2, ?_, a3, fun h => absurd h hne, hbase⟩
            show aut _ _ = _
            rw [a1]
            simp only [Option.some.injEq, Prod.mk.injEq, true_and]
            omega
          · cases hi
    obtain ⟨k1, h1, h18, h1e, hbase⟩ := step
    obtain ⟨k2, h2, h28, h2n, h2e⟩ := aut_toks ((x.1 + blanksOf x.2 : Nat) : Int) ts (k1, st'.blk.length - 1) hkinds h18
    have h3 : aut (0, 0) (st.out ++ m ++ ts.map (abs4 ((x.1 + blanksOf x.2 : Nat) : Int))) = some (k2, st'.blk.length - 1) := by
      rw [aut_append, h1]
      exact h2
    have h26 : k2 ≠ 6 := by
      by_cases hts : ts = []
      · rw [h2e hts]
        show k1 ≠ 6
        rw [(h1e hts).1]
        exact k6
      · have := h2n hts
        omega
    refine ⟨hbase, ?_⟩
    rw [ho]
    by_cases hop' : st'.opn = []
    · rw [if_pos hop', aut_append, h3]
      refine ⟨5, ?_, by omega, by omega, fun _ => Or.inr rfl, fun h => by omega⟩
      show (aut1 _ _).bind _ = _
      have : aut1 (k2, st'.blk.length - 1) (mark 5 ((x.1 + x.2.length : Nat) : Int)) = some (5, st'.blk.length - 1) := by
        unfold aut1 mark
        simp only
        rw [if_neg (by omega), if_neg (by omega), if_neg (by omega), if_pos trivial, if_neg (by omega)]
      rw [this]
      rfl
    · rw [if_neg hop', List.append_nil]
      refine ⟨k2, h3, h28, h26, fun h => absurd h hop', fun h0 => ?_⟩
      by_cases hts : ts = []
      · obtain ⟨e1, e2⟩ := h1e hts
        have := h2e hts
        simp only at this
        rw [e2]
        exact hk0 (by omega)
      · have := h2n hts
        omega
theorem binv_run : ∀ (xs : List (Nat × Bs)) (st st' : LS), BInv st → runL st xs = .ok st' → BInv st'
  | [], st, st', h, e => by rw [runL] at e; cases e; exact h
  | x :: xs, st, st', h, e => by
    rw [runL] at e
    cases hs : lineStep st x with
    | error y => rw [hs] at e; cases e
    | ok s2 => rw [hs] at e; exact binv_run xs s2 st' (binv_step h hs) e
/-- **All blocks that begin end, and the last token, it alone, says that the source ends.** -/
theorem layL_blocks {s : Bs} {ts : List T4} (h : layL s = .ok ts) : aut (0, 0) ts = some (8, 0) := by
  unfold layL at h
  cases hr : runL st0 (linesL s) with
  | error e => rw [hr] at h; cases h
  | ok st =>
    rw [hr] at h
    obtain ⟨⟨bs, hbs⟩, k, hk, k8, k6, hko, _⟩ := binv_run _ _ _ binv0 hr
    simp only at h
    unfold finish at h
    cases ho : st.opn with
    | cons o os => rw [ho] at h; cases h
    | nil =>
      rw [ho] at h
      cases h
      rw [aut_append, aut_append, hk]
      obtain ⟨k2, a1, a2, a3⟩ := aut_outs (s.length : Int) (st.blk.length - 1) (k, st.blk.length - 1) (Nat.le_refl _) k6 k8
      simp only [Option.bind_some]
      rw [a1]
      show (aut1 _ _).bind _ = _
      have : aut1 (k2, st.blk.length - 1 - (st.blk.length - 1)) (mark 8 (s.length : Int)) = some (8, 0) := by
        unfold aut1 mark
        simp only
        rw [if_neg (by omega), if_neg (by omega), if_pos trivial, if_neg (by omega), Nat.sub_self]
      rw [this]
      rfl

/-- What may be wrong. -/
def Code1 (e : Int) : Prop := e = 10 ∨ e = 11 ∨ e = 12 ∨ e = 20 ∨ e = 21
theorem lineStep_code {st : LS} {x : Nat × Bs} {p e : Int} (h : lineStep st x = .error (p, e)) : Code1 e := by
  have rest : ∀ {m : List T4} {blk : List Nat}, lineRest st m blk x = .error (p, e) → Code1 e := by
    intro m blk h
    unfold lineRest at h
    cases hl : lex (x.2.drop (blanksOf x.2)) with
    | error pe =>
      obtain ⟨q, er⟩ := pe
      rw [hl] at h
      cases h
      have := (lex_err hl).1
      unfold Code1
      omega
    | ok ts =>
      rw [hl] at h
      simp only at h
      cases hb : brk st.opn (ts.map (abs4 ((x.1 + blanksOf x.2 : Nat) : Int))) with
      | error q => rw [hb] at h; cases h; simp [Code1]
      | ok o => rw [hb] at h; cases h
  unfold lineStep at h
  split at h
  · split at h
    · cases h
    · split at h
      · cases h
      · split at h
        · rename_i er hi
          cases h
          unfold indent at hi
          split at hi
          · cases hi
          · split at hi
            · cases hi
            · cases hi; simp [Code1]
        · exact rest h
  · exact rest h
theorem runL_code : ∀ (xs : List (Nat × Bs)) (st : LS) (p e : Int), runL st xs = .error (p, e) → Code1 e
  | [], st, p, e, h => by cases h
  | x :: xs, st, p, e, h => by
    rw [runL] at h
    cases hs : lineStep st x with
    | error y => rw [hs] at h; cases h; exact lineStep_code hs
    | ok s2 => rw [hs] at h; exact runL_code xs s2 p e h
theorem layL_code {s : Bs} {p e : Int} (h : layL s = .error (p, e)) : Code1 e := by
  unfold layL at h
  cases hr : runL st0 (linesL s) with
  | error y => rw [hr] at h; cases h; exact runL_code _ _ _ _ hr
  | ok st =>
    rw [hr] at h
    simp only at h
    unfold finish at h
    split at h
    · cases h; simp [Code1]
    · cases h

theorem aut1_kind {s s' : Int × Nat} {t : T4} (h : aut1 s t = some s') : s'.1 = t.1 ∧ 1 ≤ t.1 ∧ t.1 ≤ 8 := by
  unfold aut1 at h
  split at h
  · rename_i e; split at h <;> cases h; exact ⟨e.symm, by omega, by omega⟩
  · split at h
    · rename_i e; split at h <;> cases h; exact ⟨e.symm, by omega, by omega⟩
    · split at h
      · rename_i e; split at h <;> cases h; exact ⟨e.symm, by omega, by omega⟩
      · split at h
        · rename_i e; split at h <;> cases h; exact ⟨e.symm, by omega, by omega⟩
        · split at h
          · rename_i e; split at h <;> cases h; exact ⟨rfl, by omega, by omega⟩
          · cases h
theorem aut_last : ∀ (xs : List T4) (z : T4) (s s' : Int × Nat), aut s (xs ++ [z]) = some s' → s'.1 = z.1 ∧ 1 ≤ z.1 := by
  intro xs z s s' h
  rw [aut_append] at h
  cases hx : aut s xs with
  | none => rw [hx] at h; cases h
  | some t =>
    rw [hx] at h
    simp only [Option.bind_some] at h
    rw [aut] at h
    cases ha : aut1 t z with
    | none => rw [ha] at h; cases h
    | some u =>
      rw [ha] at h
      cases h
      have := aut1_kind ha
      exact ⟨this.1, this.2.1⟩
/-- What a place in the middle says of what comes. -/
theorem aut_at {ts : List T4} {i : Nat} {x : T4} (h : aut (0, 0) ts = some (8, 0)) (hx : ts[i]? = some x) : ∃ k d k' d', aut (0, 0) (ts.take i) = some (k, d) ∧ aut1 (k, d) x = some (k', d') ∧ aut (0, 0) (ts.take (i + 1)) = some (k', d') ∧ aut (k', d') (ts.drop (i + 1)) = some (8, 0) := by
  have hi := (List.getElem?_eq_some_iff.1 hx).1
  have e : ts = ts.take i ++ x :: ts.drop (i + 1) := by
    conv => lhs; rw [← List.take_append_drop i ts]
    congr 1
    rw [List.drop_eq_getElem_cons hi]
    congr 1
    rw [List.getElem?_eq_getElem hi] at hx
    exact Option.some.inj hx
  have h0 := h
  rw [e, aut_append] at h
  cases h1 : aut (0, 0) (ts.take i) with
  | none => rw [h1] at h; cases h
  | some s =>
    rw [h1] at h
    simp only [Option.bind_some] at h
    rw [aut] at h
    cases h2 : aut1 s x with
    | none => rw [h2] at h; cases h
    | some s' =>
      rw [h2] at h
      refine ⟨s.1, s.2, s'.1, s'.2, rfl, h2, ?_, h⟩
      rw [List.take_add_one, hx, aut_append, h1]
      show aut s [x] = _
      rw [aut, h2]
      rfl
theorem aut_begin {d : Nat} {ts : List T4} (h : aut (6, d) ts = some (8, 0)) : ∃ y r, ts = y :: r ∧ 1 ≤ y.1 ∧ y.1 ≤ 4 := by
  cases ts with
  | nil => simp [aut] at h
  | cons y r =>
    refine ⟨y, r, rfl, ?_⟩
    rw [aut] at h
    cases ha : aut1 (6, d) y with
    | none => rw [ha] at h; cases h
    | some u =>
      unfold aut1 at ha
      simp at ha
      exact ha.2.2.2.2.1
theorem aut_none {d : Nat} {ts : List T4} (h : aut (8, d) ts = some (8, 0)) : ts = [] := by
  cases ts with
  | nil => rfl
  | cons y r =>
    exfalso
    rw [aut] at h
    have : aut1 (8, d) y = none := by
      unfold aut1
      simp
    rw [this] at h
    cases h
end Sp
end Go.Proofs.YtbdjccmcdifjcaaGreatDoor

set_option linter.unusedVariables false
set_option linter.unusedSimpArgs false
namespace Go.Proofs.YtbdjccmcdifjcaaGreatDoor
open Go.RowKit Go.Shelf
namespace Sp

theorem linesGo_more (t : Bs) (ht : ∀ c ∈ t, ¬ c.toNat = 10) : ∀ (s : Bs) (start : Nat) (cur : Bs) (pos : Nat), linesGo start cur pos (s ++ 10 :: t) = linesGo start cur pos s ++ [(pos + s.length + 1, t)]
  | [], start, cur, pos => by
    have e : linesGo start cur pos (10 :: t) = (start, cur) :: linesGo (pos + 1) [] (pos + 1) t := by rw [linesGo, if_pos (by decide)]
    rw [List.nil_append, e, linesGo_last _ _ _ _ ht]
    rfl
  | c :: s, start, cur, pos => by
    rw [List.cons_append, linesGo, linesGo]
    have e : ∀ q, q + 1 + s.length + 1 = q + (c :: s).length + 1 := fun q => by rw [List.length_cons]; omega
    split
    · rw [linesGo_more t ht s, e]
      rfl
    · rw [linesGo_more t ht s, e]
theorem pops_nought : ∀ l : List Nat, (pops 0 l).1.headD 0 = 0
  | [] => rfl
  | b :: bs => by
    rw [pops]
    split
    · exact pops_nought bs
    · show b = 0
      omega
theorem indent_nought (blk : List Nat) (q : Int) : ∃ m b, indent blk 0 q = .ok (m, b) := by
  unfold indent
  rw [if_neg (by omega), if_pos (pops_nought blk)]
  exact ⟨_, _, rfl⟩
/-- No token told of a line ends the source; a block that ends there ends within the line. -/
def Inn (n : Nat) (ts : List T4) : Prop := ∀ t ∈ ts, ¬ t.1 = 8 ∧ (t.1 = 7 → t.2.1 < (n : Int))
theorem Inn.append {n : Nat} {a b : List T4} (h : Inn n a) (h' : Inn n b) : Inn n (a ++ b) := by
  intro t ht
  rcases List.mem_append.1 ht with ht | ht
  · exact h t ht
  · exact h' t ht
theorem inn_step {n : Nat} {st st' : LS} {x : Nat × Bs} (hx : x.1 + x.2.length ≤ n) (h : Inn n st.out) (e : lineStep st x = .ok st') : Inn n st'.out := by
  rcases lineStep_shape e with ⟨rfl, _⟩ | ⟨m, ts, hl, _, ho, hm⟩
  · exact h
  · rw [ho]
    have hm2 : Inn n m := by
      rcases hm with ⟨_, rfl, _⟩ | ⟨_, hi, hts⟩
      · intro t ht; cases ht
      · have hlt : blanksOf x.2 < x.2.length := by
          rcases Nat.lt_or_ge (blanksOf x.2) x.2.length with h | h
          · exact h
          · rw [List.drop_of_length_le h] at hl
            have : lex ([] : Bs) = .ok [] := rfl
            rw [this] at hl
            cases hl
            exact absurd rfl hts
        unfold indent at hi
        split at hi
        · simp only [Except.ok.injEq, Prod.mk.injEq] at hi
          obtain ⟨rfl, _⟩ := hi
          intro t ht
          rw [List.mem_singleton.1 ht]
          exact ⟨by show ¬ (6 : Int) = 8; decide, fun h => by cases h⟩
        · split at hi
          · simp only [Except.ok.injEq, Prod.mk.injEq] at hi
            obtain ⟨rfl, _⟩ := hi
            intro t ht
            rw [(List.mem_replicate.1 ht).2]
            refine ⟨by show ¬ (7 : Int) = 8; decide, fun _ => ?_⟩
            show ((x.1 + blanksOf x.2 : Nat) : Int) < n
            omega
          · cases hi
    refine ((h.append hm2).append ?_).append ?_
    · intro t ht
      obtain ⟨z, hz, rfl⟩ := List.mem_map.1 ht
      obtain ⟨_, _, k1, k4, _⟩ := lexAt_all _ _ _ _ (Nat.le_refl _) hl z hz
      exact ⟨fun h => by have : z.2.kind = 8 := h; omega, fun h => by have : z.2.kind = 7 := h; omega⟩
    · split
      · intro t ht
        rw [List.mem_singleton.1 ht]
        exact ⟨by show ¬ (5 : Int) = 8; decide, fun h => by cases h⟩
      · intro t ht; cases ht
theorem inn_run {n : Nat} : ∀ (xs : List (Nat × Bs)) (st st' : LS), (∀ x ∈ xs, x.1 + x.2.length ≤ n) → Inn n st.out → runL st xs = .ok st' → Inn n st'.out
  | [], st, st', _, h, e => by rw [runL] at e; cases e; exact h
  | x :: xs, st, st', hx, h, e => by
    rw [runL] at e
    cases hs : lineStep st x with
    | error er => rw [hs] at e; cases e
    | ok s2 =>
      rw [hs] at e
      exact inn_run xs s2 st' (fun y hy => hx y (by simp [hy])) (inn_step (hx x (by simp)) h hs) e
/-- WHAT IS TOLD OF A SOURCE HANGS ON NO LINE BEHIND IT. -/
def PartOf (n : Nat) (x y : Except (Int × Int) (List T4)) : Prop :=
  match x with
  | .error e => ∃ p, y = .error (p, e.2) ∧ (¬ e.2 = 21 → p = e.1)
  | .ok a => ∃ (out : List T4) (z z' : T4) (r r' : List T4), a = out ++ z :: r ∧ y = .ok (out ++ z' :: r') ∧ Inn n out ∧ (z.1 = 8 ∨ z.1 = 7 ∧ ¬ z.2.1 < (n : Int))
theorem layL_part (s : Bs) {x : LineD} (hx : x.2.2.1 = false) : PartOf s.length (layL s) (layL (s ++ 10 :: ln 0 x)) := by
  have e : linesL (s ++ 10 :: ln 0 x) = linesL s ++ [(s.length + 1, ln 0 x)] := by
    unfold linesL
    rw [linesGo_more _ (ln_no10 0 x), Nat.zero_add]
  unfold layL
  rw [e, runL_append]
  cases hr : runL st0 (linesL s) with
  | error er => exact ⟨er.1, rfl, fun _ => rfl⟩
  | ok st =>
    simp only
    have hin : Inn s.length st.out := inn_run _ _ _ (linesL_in s) (fun t ht => by cases ht) hr
    cases ho : st.opn with
    | cons o os =>
      have h := step_within (st := st) (by rw [ho]; simp) (s.length + 1) 0 x
      rw [runL, h, ho]
      simp only [runL, finish, ho]
      exact ⟨_, rfl, fun h => absurd rfl h⟩
    | nil =>
      have h := step_full ho (s.length + 1) 0 hx
      obtain ⟨m, b, hi⟩ := indent_nought st.blk ((s.length + 1 + 0 : Nat) : Int)
      rw [hi] at h
      rw [runL, h]
      simp only [runL, finish, ho]
      obtain ⟨z, r, hz, hzk⟩ : ∃ z r, List.replicate (st.blk.length - 1) (mark 7 (s.length : Int)) ++ [mark 8 (s.length : Int)] = z :: r ∧ (z.1 = 8 ∨ z.1 = 7 ∧ ¬ z.2.1 < (s.length : Int)) := by
        cases st.blk.length - 1 with
        | zero => exact ⟨_, _, rfl, Or.inl rfl⟩
        | succ j => exact ⟨_, _, by rw [List.replicate_succ, List.cons_append], Or.inr ⟨rfl, by show ¬ (s.length : Int) < s.length; omega⟩⟩
      obtain ⟨z', r', hz'⟩ : ∃ z' r', m ++ (coreT x).map (abs4 ((s.length + 1 + 0 : Nat) : Int)) ++ [mark 5 ((s.length + 1 + (ln 0 x).length : Nat) : Int)] ++ List.replicate (b.length - 1) (mark 7 ((s ++ 10 :: ln 0 x).length : Int)) ++ [mark 8 ((s ++ 10 :: ln 0 x).length : Int)] = z' :: r' := by
        cases hh : m ++ (coreT x).map (abs4 ((s.length + 1 + 0 : Nat) : Int)) ++ [mark 5 ((s.length + 1 + (ln 0 x).length : Nat) : Int)] ++ List.replicate (b.length - 1) (mark 7 ((s ++ 10 :: ln 0 x).length : Int)) ++ [mark 8 ((s ++ 10 :: ln 0 x).length : Int)] with
        | nil => simp at hh
        | cons z' r' => exact ⟨z', r', rfl⟩
      refine ⟨st.out, z, z', r, r', ?_, ?_, hin, hzk⟩
      · rw [← hz, List.append_assoc]
      · rw [← hz']
        simp only [List.append_assoc]
end Sp
end Go.Proofs.YtbdjccmcdifjcaaGreatDoor

set_option linter.unusedVariables false
set_option linter.unusedSimpArgs false
namespace Go.Proofs.YtbdjccmcdifjcaaGreatDoor
open Go.RowKit Go.Shelf
namespace lawPart

set_option maxHeartbeats 2000000 in
theorem same2_self (B B' : Nat) (va vb : Value) (l : List T4) (w : World) (ha : Row4 B va l w) (hb : Row4 B' vb l w) (hl : l.length ≤ 1000000) :
    Calls Tryz.prog 17 #[va, vb] w fun e w' => e = .returned (.bool true) ∧ ∃ m, w' = w.drewN m := by
  obtain ⟨pa, ca, rfl, fa⟩ := ha.form
  obtain ⟨pb, cb, rfl, fb⟩ := hb.form
  have gl : ((l.length : Int) != (l.length : Int)) = false := by simp
  have FA := Lib.hid fa
  have FB := Lib.hid fb
  clear fa fb ha hb
  go_enter Tryz.func17, Tryz.ntmps17
  go_wp2_with fail
  go_loopw [5] (fun i wr => ∃ k : Nat, i = .int .i64 k ∧ k ≤ l.length ∧ ∃ q, wr = w.drewN q) (fun i wr => l.length - (intOf i).toNat)
  case atStart => exact ⟨0, rfl, Nat.zero_le _, 0, rfl⟩
  case round =>
    obtain ⟨k, rfl, hk, q, rfl⟩ := hrel
    by_cases hlt : k < l.length
    · obtain ⟨x, hx⟩ : ∃ x, l[k]? = some x := ⟨_, List.getElem?_eq_getElem hlt⟩
      obtain ⟨ga, rfl, hga, _, a0, a1, a2, a3⟩ := FA.out k x hx
      obtain ⟨gb, rfl, hgb, _, b0, b1, b2, b3⟩ := FB.out k x hx
      have hcmp := fun w => same_cmp x x w
      have hxx : decide (x = x) = true := by simp
      rw [hxx] at hcmp
      clear hx FA FB hga hgb hxx
      go_wp2_with fail
      go_quiet (fail)
      go_wp2_with fail
      refine ⟨⟨k + 1, by go_num, by omega, _, rfl⟩, by simp [intOf]; omega⟩
    · clear FA FB
      go_wp2_with fail
      go_ret
      exact ⟨rfl, _, rfl⟩

set_option maxHeartbeats 16000000 in
set_option maxRecDepth 100000 in
theorem walk (s : ByteArray) (hs : s.size ≤ maxLen) (v : Value) (x : Sp.LineD) (w : World) (ha : ArgL v x w) (hbx : Bnd x) (hE : Env w) : Calls Tryz.prog 8 #[.string s, v] w fun e w' => e = .returned (.bool true) ∧ Below w.heap.size w w' := by
  obtain ⟨f, HF⟩ := hid_ex (s.extract 0 (min s.size 500))
  have hf : f.size ≤ 500 := by rw [← HF.out]; simp [ByteArray.size_extract]; omega
  have hfe : Hid (s.extract 0 (min (s.size : Int) 500).toNat = f) := by
    show _ = _
    rw [← HF.out]
    congr 1
    omega
  have HE := Lib.hid hE
  have hEs := hE.size
  obtain ⟨n0, l0, em0, c0⟩ := x
  obtain ⟨vt, rfl, h4⟩ := ha
  obtain ⟨pu, cu, hvu, _⟩ := id h4
  obtain ⟨x, hx⟩ : ∃ x : Sp.LineD, x = (0, l0, false, c0) := ⟨_, rfl⟩
  have hx3 : x.2.2.1 = false := by rw [hx]
  have hbx' : Bnd x := by rw [hx]; exact hbx
  obtain ⟨tb, htb⟩ : ∃ tb : ByteArray, tb = ⟨(Sp.txt x).toArray⟩ := ⟨_, rfl⟩
  have htl : tb.data.toList = Sp.ln 0 x := by rw [htb]; show Sp.txt x = _; rw [hx]; rfl
  have hts : tb.size ≤ 687 := by
    rw [← size_list, htl]
    have := Sp.ln_size 0 x
    omega
  have HLT : Hid (∀ w', Below w.heap.size w w' → Calls Tryz.prog 12 #[.agg #[.int .i64 0, vt, .bool false, .string ⟨c0.toArray⟩]] w' fun e w'' => e = .returned (.string tb) ∧ Below w'.heap.size w' w'') := by
    intro w' hb
    rw [htb]
    refine ltext_any _ x w' ⟨vt, by rw [hx], ?_⟩ hbx'
    rw [hx]
    exact h4.below hb
  obtain ⟨m, hm⟩ : ∃ m : ByteArray, m = f ++ (⟨#[10]⟩ : ByteArray) ++ tb := ⟨_, rfl⟩
  have hml : m.data.toList = f.data.toList ++ 10 :: Sp.ln 0 x := by rw [hm, ← htl]; simp
  have hms : m.size ≤ 2000 := by
    rw [hm]
    simp only [ByteArray.size_append]
    show f.size + 1 + tb.size ≤ _
    omega
  have hpart := Sp.layL_part f.data.toList hx3
  rw [← hml, size_list] at hpart
  obtain ⟨Y, HY⟩ := hid_ex (Sp.layL f.data.toList)
  obtain ⟨Z, HZ⟩ := hid_ex (Sp.layL m.data.toList)
  rw [HY.out, HZ.out] at hpart
  have HYL : Hid (∀ ts, Y = .ok ts → ts.length ≤ 1000000) := by
    intro ts h
    have := Sp.layL_len (HY.out.trans h)
    rw [size_list] at this
    omega
  have HZL : Hid (∀ ts, Z = .ok ts → ts.length ≤ 1000000) := by
    intro ts h
    have := Sp.layL_len (HZ.out.trans h)
    rw [size_list] at this
    omega
  have HCO : Hid (∀ p e, Y = .error (p, e) → Sp.Code1 e) := fun p e h => Sp.layL_code (HY.out.trans h)
  have HT1 : Hid (∀ w', Below w.heap.size w w' → Calls Tryz.prog 13 #[.string f] w' fun e w'' => LayEnd w'.heap.size Y e w'' ∧ Below w'.heap.size w' w'') := by
    intro w' hb
    have := tokens_any f (by omega) w' (hE.below hb hEs)
    rwa [HY.out] at this
  have HT2 : Hid (∀ w', Below w.heap.size w w' → Calls Tryz.prog 13 #[.string m] w' fun e w'' => LayEnd w'.heap.size Z e w'' ∧ Below w'.heap.size w' w'') := by
    intro w' hb
    have := tokens_any m (by omega) w' (hE.below hb hEs)
    rwa [HZ.out] at this
  have HPART := Lib.hid hpart
  have HM := Lib.hid hm
  have hb0 : Below w.heap.size w (w.alloc (Obj.cells #[.int .i64 n0, vt, .bool em0, .string ⟨c0.toArray⟩] 27)) := (Below.refl _ w).alloc (Nat.le_refl _) _
  have HSH := Lib.hid (shown_any2 _ (hE.below hb0 hE.size))
  obtain ⟨cb, hcb⟩ : ∃ cb : ByteArray, cb = ⟨c0.toArray⟩ := ⟨_, rfl⟩
  rw [← hcb] at HLT HSH hb0 ⊢
  obtain ⟨ny, hny⟩ : ∃ ny, ny = l0.length := ⟨_, rfl⟩
  simp only at hvu
  rw [← hny] at hvu
  subst hvu
  clear hE h4 hbx hbx' hx htb htl hm hx3 hml hpart HY HZ hcb hny HE
  go_enter Tryz.func8, Tryz.ntmps8
  go_wp2_with fail
  refine HSH.out.mono ?_
  rintro e w1 ⟨rfl, hb1⟩
  have hh : w1.heap[w.heap.size]? = some (.cells #[.int .i64 n0, .slice pu ny cu, .bool em0, .string cb] 27) := by
    rw [hb1.block w.heap.size (by simp)]
    show (w.heap.push _)[w.heap.size]? = _
    simp
  have k0 : w1.cell? ⟨w.heap.size, 0, none⟩ = some (.int .i64 n0) := by simp [World.cell?, hh]
  have k1 : w1.cell? ⟨w.heap.size, 1, none⟩ = some (.slice pu ny cu) := by simp [World.cell?, hh]
  have k2 : w1.cell? ⟨w.heap.size, 2, none⟩ = some (.bool em0) := by simp [World.cell?, hh]
  have k3 : w1.cell? ⟨w.heap.size, 3, none⟩ = some (.string cb) := by simp [World.cell?, hh]
  have z0 : w1.frozen? ⟨w.heap.size, 0, none⟩ = false := Lib.frozen_of_heap hh 0
  have z2 : w1.frozen? ⟨w.heap.size, 2, none⟩ = false := Lib.frozen_of_heap hh 2
  have hbw1 : Below w.heap.size w w1 := hb0.trans (hb1.mono (by simp))
  have hbw2 : Below w.heap.size w ((w1.setCell ⟨w.heap.size, 0, none⟩ (.int .i64 0)).setCell ⟨w.heap.size, 2, none⟩ (.bool false)) := (hbw1.setCell (p := ⟨w.heap.size, 0, none⟩) (Nat.le_refl _) _).setCell (p := ⟨w.heap.size, 2, none⟩) (Nat.le_refl _) _
  obtain ⟨W2, hW2⟩ : ∃ W2, W2 = ((w1.setCell ⟨w.heap.size, 0, none⟩ (.int .i64 0)).setCell ⟨w.heap.size, 2, none⟩ (.bool false)) := ⟨_, rfl⟩
  have HW2 := Lib.hid hW2
  have q0 : W2.cell? ⟨w.heap.size, 0, none⟩ = some (.int .i64 0) := by
    rw [hW2, World.cell?_setCell_other _ _ _ _ (by simp)]
    exact World.cell?_setCell_same _ _ _ k0
  have q1 : W2.cell? ⟨w.heap.size, 1, none⟩ = some (.slice pu ny cu) := by
    rw [hW2, World.cell?_setCell_other _ _ _ _ (by simp), World.cell?_setCell_other _ _ _ _ (by simp)]
    exact k1
  have q2 : W2.cell? ⟨w.heap.size, 2, none⟩ = some (.bool false) := by
    rw [hW2]
    have hold : (w1.setCell ⟨w.heap.size, 0, none⟩ (.int .i64 0)).cell? ⟨w.heap.size, 2, none⟩ = some (.bool em0) := by
      rw [World.cell?_setCell_other _ _ _ _ (by simp)]
      exact k2
    exact World.cell?_setCell_same _ _ _ hold
  have q3 : W2.cell? ⟨w.heap.size, 3, none⟩ = some (.string cb) := by
    rw [hW2, World.cell?_setCell_other _ _ _ _ (by simp), World.cell?_setCell_other _ _ _ _ (by simp)]
    exact k3
  rw [← hW2] at hbw2
  have hlt2 : w.heap.size < W2.heap.size := by
    rw [hW2]
    have := heap_of_some hh
    simpa using this
  have H1 := Lib.hid (HT1.out W2 hbw2)
  clear hb1 hb0 hh hW2 HSH HT1
  simp only []
  go_wp2_with fail
  rw [hfe.out, ← HW2.out]
  refine H1.out.mono ?_
  rintro e w3 ⟨he1, hb3⟩
  have hB3 : Below w.heap.size w w3 := hbw2.trans (hb3.mono hbw2.size)
  have r0 := (hb3.cell (p := ⟨w.heap.size, 0, none⟩) hlt2).trans q0
  have r1 := (hb3.cell (p := ⟨w.heap.size, 1, none⟩) hlt2).trans q1
  have r2 := (hb3.cell (p := ⟨w.heap.size, 2, none⟩) hlt2).trans q2
  have r3 := (hb3.cell (p := ⟨w.heap.size, 3, none⟩) hlt2).trans q3
  obtain ⟨v1, p1, er1, rfl, hc1⟩ : ∃ v1 p1 er1, e = .returned (.tuple #[v1, .int .i64 p1, .int .i64 er1]) ∧ (Y = .error (p1, er1) ∨ (er1 = 0 ∧ p1 = 0 ∧ ∃ ts, Y = .ok ts ∧ Row4 W2.heap.size v1 ts w3)) := by
    cases Y with
    | error q =>
      obtain rfl : e = _ := he1
      exact ⟨_, _, _, rfl, Or.inl rfl⟩
    | ok ts =>
      obtain ⟨va, rfl, hr⟩ := he1
      exact ⟨_, _, _, rfl, Or.inr ⟨rfl, rfl, ts, rfl, hr⟩⟩
  have HC1 := Lib.hid hc1
  have HB3 := Lib.hid hB3
  have HL0 := Lib.hid (HLT.out w3 hB3)
  clear he1 hb3 hc1 q0 q1 q2 q3 k0 k1 k2 k3 z0 z2 H1 HLT hbw1 hbw2 hB3 HW2 hlt2 HF hfe
  simp only []
  go_wp2_with fail
  refine HL0.out.mono ?_
  rintro e w4 ⟨rfl, hb4⟩
  have HB4 : Hid (Below w.heap.size w w4) := HB3.out.trans (hb4.mono HB3.out.size)
  have HB34 : Hid (Below w3.heap.size w3 w4) := hb4
  have H2 := Lib.hid (HT2.out w4 HB4.out)
  clear hb4 HL0 HT2 r0 r1 r2 r3
  simp only []
  go_wp2_with fail
  rw [← HM.out]
  refine H2.out.mono ?_
  rintro e w5 ⟨he2, hb5⟩
  have HB5 : Hid (Below w.heap.size w w5) := HB4.out.trans (hb5.mono HB4.out.size)
  obtain ⟨v2, p2, er2, rfl, hc2⟩ : ∃ v2 p2 er2, e = .returned (.tuple #[v2, .int .i64 p2, .int .i64 er2]) ∧ (Z = .error (p2, er2) ∨ (er2 = 0 ∧ p2 = 0 ∧ ∃ ts, Z = .ok ts ∧ Row4 w4.heap.size v2 ts w5)) := by
    cases Z with
    | error q =>
      obtain rfl : e = _ := he2
      exact ⟨_, _, _, rfl, Or.inl rfl⟩
    | ok ts =>
      obtain ⟨va, rfl, hr⟩ := he2
      exact ⟨_, _, _, rfl, Or.inr ⟨rfl, rfl, ts, rfl, hr⟩⟩
  have HC2 := Lib.hid hc2
  have HB35 : Hid (Below w3.heap.size w3 w5) := HB34.out.trans (hb5.mono HB34.out.size)
  clear he2 hb5 hc2 H2 HM HB4 HB34 HB3
  rcases HC1.out with hY | ⟨rfl, rfl, ts, hY, hr1⟩
  · have hcode := HCO.out p1 er1 hY
    have hp := HPART.out
    rw [hY] at hp
    obtain ⟨p', hZ, hpp⟩ := hp
    obtain ⟨rfl, rfl⟩ : p2 = p' ∧ er2 = er1 := by
      rcases HC2.out with h | ⟨_, _, ts, h, _⟩
      · rw [hZ] at h
        simp only [Except.error.injEq, Prod.mk.injEq] at h
        exact ⟨h.1.symm, h.2.symm⟩
      · rw [hZ] at h
        cases h
    clear HC1 HC2 HCO HPART hY hZ HYL HZL HB35
    rcases hcode with rfl | rfl | rfl | rfl | rfl
    · have hq : p2 = p1 := hpp (by simp)
      subst hq
      simp only []
      go_wp2_with fail
      go_ret
      exact ⟨rfl, HB5.out⟩
    · have hq : p2 = p1 := hpp (by simp)
      subst hq
      simp only []
      go_wp2_with fail
      go_ret
      exact ⟨rfl, HB5.out⟩
    · have hq : p2 = p1 := hpp (by simp)
      subst hq
      simp only []
      go_wp2_with fail
      go_ret
      exact ⟨rfl, HB5.out⟩
    · have hq : p2 = p1 := hpp (by simp)
      subst hq
      simp only []
      go_wp2_with fail
      go_ret
      exact ⟨rfl, HB5.out⟩
    · clear hpp
      simp only []
      go_wp2_with fail
      go_ret
      exact ⟨rfl, HB5.out⟩
  · have hp := HPART.out
    rw [hY] at hp
    obtain ⟨out, z, z', r, r', hts, hZ, hinn, hzk⟩ := hp
    have hl1 := HYL.out ts hY
    obtain ⟨rfl, rfl, hr2⟩ : er2 = 0 ∧ p2 = 0 ∧ Row4 w4.heap.size v2 (out ++ z' :: r') w5 := by
      rcases HC2.out with h | ⟨h1, h2, ts2, h, hr⟩
      · rw [hZ] at h
        cases h
      · rw [hZ] at h
        cases h
        exact ⟨h1, h2, hr⟩
    have hl2 := HZL.out _ hZ
    have hr1' := hr1.below HB35.out
    subst hts
    obtain ⟨y1, hy1⟩ : ∃ y1, (out ++ z :: r)[0]? = some y1 := ⟨_, List.getElem?_eq_getElem (by simp; omega)⟩
    obtain ⟨y2, hy2⟩ : ∃ y2, (out ++ z' :: r')[0]? = some y2 := ⟨_, List.getElem?_eq_getElem (by simp; omega)⟩
    obtain ⟨g1, c1, rfl, hc1⟩ := hr1'.there hy1
    obtain ⟨g2, c2, rfl, hc2⟩ := hr2.there hy2
    have cut1 := hr1'.cut (m := out.length) (by simp)
    have cut2 := hr2.cut (m := out.length) (by simp)
    rw [List.take_left'] at cut1 cut2
    rotate_left
    · rfl
    · rfl
    have hol : out.length ≤ 1000000 := by have := hl1; simp at this; omega
    have hsame : ∀ n, Calls Tryz.prog 17 #[.slice (some ⟨g1, 0, none⟩) out.length c1, .slice (some ⟨g2, 0, none⟩) out.length c2] (w5.drewN n) fun e w' => e = .returned (.bool true) ∧ ∃ m, w' = (w5.drewN n).drewN m := fun n =>
      same2_self _ _ _ _ out _ (cut1.below (below_drewN (Below.refl _ _) n)) (cut2.below (below_drewN (Below.refl _ _) n)) hol
    have HSAME := Lib.hid hsame
    obtain ⟨pa', ca', ea, fa⟩ := hr1'.form
    cases ea
    have FA := Lib.hid fa
    have HINN := Lib.hid hinn
    have hlen1 : (out ++ z :: r).length = out.length + (r.length + 1) := by simp
    have hlen2 : (out ++ z' :: r').length = out.length + (r'.length + 1) := by simp
    rw [hlen1] at hc1 hl1 ⊢
    rw [hlen2] at hc2 hl2 ⊢
    obtain ⟨L1, hL1⟩ : ∃ L1, L1 = out.length + (r.length + 1) := ⟨_, rfl⟩
    obtain ⟨L2, hL2⟩ : ∃ L2, L2 = out.length + (r'.length + 1) := ⟨_, rfl⟩
    obtain ⟨O, hO⟩ : ∃ O, O = out.length := ⟨_, rfl⟩
    have hOL1 : O < L1 := by omega
    have hOL2 : O < L2 := by omega
    rw [← hL1] at hc1 hl1 ⊢
    rw [← hL2] at hc2 hl2 ⊢
    rw [← hO] at HSAME
    have HO := Lib.hid hO
    have HZK := Lib.hid hzk
    clear hol hsame fa hinn cut1 cut2 hy1 hy2 hr1 hr1' hr2 hY hZ HC1 HC2 HCO HPART HYL HZL HB35 hlen1 hlen2 hL1 hL2 hO hzk
    simp only []
    go_wp2_with fail
    go_loop [12] (fun v12 => ∃ k : Nat, v12 = .int .i64 (k : Int) ∧ k ≤ O) (fun v12 => O - (intOf v12).toNat)
    case atStart => exact ⟨0, rfl, Nat.zero_le _⟩
    case round =>
      obtain ⟨k, rfl, hk⟩ := hrel
      by_cases hlt : k < O
      · obtain ⟨t, ht⟩ : ∃ t, out[k]? = some t := ⟨_, List.getElem?_eq_getElem (by rw [← HO.out]; exact hlt)⟩
        have ht2 : (out ++ z :: r)[k]? = some t := by rw [List.getElem?_append_left (by rw [← HO.out]; exact hlt)]; exact ht
        obtain ⟨gg, eg, hgg, _, a0, a1, a2, a3⟩ := FA.out k t ht2
        cases eg
        obtain ⟨h8, h7⟩ := HINN.out t (List.mem_of_getElem? ht)
        obtain ⟨K, at_, tt, tn⟩ := t
        simp only at a0 a1 h8 h7
        have hkl : k < L1 := by omega
        clear ht ht2 FA HINN HSAME HO HZK a2 a3
        by_cases hK : K = 7
        · subst hK
          have h9 := h7 rfl
          clear h7 h8
          go_wp2_with fail
          exact ⟨⟨k + 1, by go_num, by omega⟩, by simp [intOf]; omega⟩
        · clear h7
          go_wp2_with fail
          exact ⟨⟨k + 1, by go_num, by omega⟩, by simp [intOf]; omega⟩
      · obtain rfl : k = O := by omega
        have ht2 : (out ++ z :: r)[k]? = some z := by
          rw [List.getElem?_append_right (by rw [← HO.out]; omega), ← HO.out]
          simp
        obtain ⟨gg, eg, hgg, _, a0, a1, a2, a3⟩ := FA.out k z ht2
        cases eg
        have hk1 : k ≤ c1 := by omega
        have hk2 : k ≤ c2 := by omega
        have hzz := HZK.out
        obtain ⟨K, at_, tt, tn⟩ := z
        simp only at a0 a1 hzz
        clear ht2 FA HINN HO HZK a2 a3
        rcases hzz with rfl | ⟨rfl, h9⟩
        all_goals
          go_wp2_with fail
          go_quiet ((go_at_call 17; exact Calls.quiet_of (HSAME.out _)))
          go_wp2_with fail
          go_ret
          exact ⟨rfl, below_drewN HB5.out _⟩
end lawPart
end Go.Proofs.YtbdjccmcdifjcaaGreatDoor

set_option linter.unusedVariables false
set_option linter.unusedSimpArgs false
namespace Go.Proofs.YtbdjccmcdifjcaaGreatDoor
namespace lawPart
open Go.ChangeShapes Go.WideShapes Go.ChangeAt Go.WideMaps Go.WideElems Go.RowKit
open Go.ChangeMaps (open_string shut_string)
open A2

set_option maxRecDepth 100000 in
theorem lifted (os : Os) (started : os.Started) (H : Type) (enc : TypeId × Value → H) :
    ReturnsInHanded {} Tryz.checked os 8 .any (fun w args => (Rows.layoutPartSpec.pre enc Tryz.prog Tryz.f8 [] false w args ∧ laidMetH Tryz.prog laidL w) ∧ sizedMet enc Tryz.prog Tryz.f8 (OpenSpec.ofChange Rows.layoutPartSpec) false w args)
      (Rows.layoutPartSpec.post enc Tryz.prog Tryz.f8 false true false false) := by
  refine handed_both (C := Tryz.checked) (X := fun w _ => laidMetH Tryz.prog laidL w) (fun _ _ _ hh h => h.of_heap hh) own started (by kernel_rfl) Tryz.func8
    (ChangeSpec.witness_shaped (enc := enc) (C := Tryz.checked) (os := os) (X := fun w _ => laidMetH Tryz.prog laidL w) false (World.laidAll Tryz.prog os laidL) #[.string ⟨#[]⟩, .agg #[.int .i64 0, .slice none 0 0, .bool false, .string ⟨#[]⟩]] 8 (door_os os) (door_shaped os _) (by kernel_rfl) (by kernel_rfl) (by kernel_rfl) (door_met os _)) ?_
  intro W base args ds gs before hval0 hW _ _ hL hsh _
  have hval : ∀ (j : Nat) t v, Tryz.f8.params[j]? = some t → args[j]? = some v → Value.okWide Tryz.prog W .any base t v := hval0
  have hW' := hW
  obtain ⟨p, q, hA0, hV, rfl, hfz, hnd⟩ := hW
  have hA : DataW.TrodAll enc Tryz.prog W 0 (fun _ => true) true Tryz.f8.params.toList args.toList ds p := hA0
  rw [Tryz.params8] at hA hval
  obtain ⟨v0, v1, d0, d1, p0, p1, rfl, rfl, rfl, h0, h1⟩ := trodAll_two hA
  obtain ⟨rfl, rfl⟩ := trodVars_none hV
  obtain ⟨x0, rfl, rfl, rfl, w0⟩ := open_string Tryz.underlying9 (hval 0 9 v0 rfl rfl) h0
  have h1k := h1
  obtain ⟨x1, a1, b1⟩ := line_of (hval 1 27 v1 rfl rfl) h1
  clear hA0 hval0
  simp only [List.append_nil] at hW'
  refine (walk x0 w0 v1 x1 W a1 b1 (env_of hL hsh)).mono fun e W' ⟨he, hb⟩ => ?_
  subst he
  have hlt : ∀ x ∈ p1, x.block < W.heap.size := fun x hx => hW'.lt x (by simpa using hx)
  exact ⟨_, rfl, post_true_at hW' (by kernel_rfl) rfl rfl rfl rfl (by have h := trodAll_mk2 (shut_string Tryz.underlying9 w0) (Below.trod laidOut (by kernel_rfl) (of_decide_eq_true (by kernel_rfl)) h1k hb (fun x hx => hlt x (by simp [hx]))); (try simp only [List.append_nil, List.nil_append] at h); exact h) hb⟩

theorem row_holds : Rows.LayoutPartSaid :=
  OpenClaim.holds_of_wide 8 Tryz.f8 rfl rfl rfl rfl rfl rfl rfl ⟨rfl, rfl, rfl, rfl, rfl⟩ rfl rfl rfl rfl rfl (by kernel_rfl) Tryz.func8 (by kernel_rfl)
    (of_decide_eq_true (by kernel_rfl)) (by unfold Func.isWrapper; first | (rw [if_pos (by decide +kernel)]; kernel_rfl) | (rw [if_neg (by decide +kernel)]; exact ⟨rfl, rfl⟩))
    (fun os started H enc _ => lifted os started H enc)

theorem card_holds : Rows.LayoutPartCardSaid :=
  Claim7.holds_tied_plain_at .later [] [.data, .data, .data, .data, .sentinel, .sentinel, .data, .pinned] true (true, "88ce31af55d7e15b8eb372d6691e0e677d11b1df154c7967afde70b805ca128e") true
    row_holds (fun _ h => by cases h) (by kernel_rfl) (fun _ h => by cases h) layoutPart_row_tie rfl ⟨rfl, rfl⟩ (by kernel_rfl) rfl
    (fun f fn hf hfn => by
      obtain rfl : f = 8 := Option.some.inj ((show Tryz.prog.funcNamed "krait/kraitlaw02.LayoutPart" = some 8 by kernel_rfl).symm.trans hf) |>.symm
      obtain rfl : fn = Tryz.f8 := (Option.some.inj (Tryz.func8.symm.trans hfn)).symm
      exact ⟨by kernel_rfl, fun j t ht => by
        rw [Tryz.params8] at ht
        have hm : t ∈ [9, 27] := by simpa using Array.mem_of_getElem? ht
        have hall : ([9, 27].all fun u => !Tryz.prog.wantsStandIn u) = true := by kernel_rfl
        exact (show Tryz.prog.wantsStandIn t = false by simpa using List.all_eq_true.1 hall t hm)⟩)
    (by kernel_rfl)
end lawPart
end Go.Proofs.YtbdjccmcdifjcaaGreatDoor
