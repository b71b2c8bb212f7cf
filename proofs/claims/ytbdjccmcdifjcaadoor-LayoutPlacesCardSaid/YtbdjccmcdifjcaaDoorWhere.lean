/-
  Where all that is told of a source lies: plain; nothing here speaks of a program.
-/
import Derived.Test.YtbdjccmcdifjcaaDoorTells
set_option linter.unusedVariables false
set_option linter.unusedSimpArgs false
namespace Go.Proofs.YtbdjccmcdifjcaaDoor
open Go.RowKit Go.Shelf
namespace Sp

theorem linesGo_lies : ∀ (r : Bs) (start : Nat) (cur : Bs) (pos : Nat), start + cur.length = pos → ∀ x ∈ linesGo start cur pos r, start ≤ x.1 ∧
    ∃ tail, (cur ++ r).drop (x.1 - start) = x.2 ++ tail ∧ (tail = [] ∨ ∃ c u, tail = c :: u ∧ c.toNat = 10) := by
  intro r
  induction r with
  | nil =>
    intro start cur pos h x hx
    rw [linesGo] at hx
    obtain rfl : x = (start, cur) := by simpa using hx
    exact ⟨Nat.le_refl _, [], by simp, Or.inl rfl⟩
  | cons c r ih =>
    intro start cur pos h x hx
    rw [linesGo] at hx
    split at hx
    · rename_i hc
      rcases List.mem_cons.1 hx with rfl | hx
      · exact ⟨Nat.le_refl _, c :: r, by simp, Or.inr ⟨c, r, rfl, hc⟩⟩
      · obtain ⟨h1, tail, h2, h3⟩ := ih (pos + 1) [] (pos + 1) (by simp) x hx
        refine ⟨by omega, tail, ?_, h3⟩
        rw [← h2, show x.1 - start = (cur ++ [c]).length + (x.1 - (pos + 1)) by simp; omega, show cur ++ c :: r = (cur ++ [c]) ++ r by simp, ← List.drop_drop, List.drop_left]
        rfl
    · obtain ⟨h1, tail, h2, h3⟩ := ih start (cur ++ [c]) (pos + 1) (by simp; omega) x hx
      refine ⟨h1, tail, ?_, h3⟩
      rw [← h2]
      simp
theorem linesL_lies {s : Bs} {x : Nat × Bs} (h : x ∈ linesL s) : ∃ tail, s.drop x.1 = x.2 ++ tail ∧ (tail = [] ∨ ∃ c u, tail = c :: u ∧ c.toNat = 10) := by
  obtain ⟨_, tail, h2, h3⟩ := linesGo_lies s 0 [] 0 rfl x h
  exact ⟨tail, by simpa using h2, h3⟩

/-- A line's tokens do not go back. -/
theorem lexAt_sorted : ∀ (f : Nat) (l : Bs) (pos : Nat) (ts : List (Nat × Tk)), l.length ≤ f → lexAt pos l = .ok ts → ts.Pairwise fun a b => a.1 ≤ b.1 := by
  intro f
  induction f with
  | zero =>
    intro l pos ts hl h
    have : l = [] := by cases l with | nil => rfl | cons => simp at hl
    subst this
    cases h
    exact List.Pairwise.nil
  | succ f ih =>
    intro l pos ts hl h
    cases l with
    | nil => cases h; exact List.Pairwise.nil
    | cons c r =>
      simp only [List.length_cons] at hl
      by_cases h32 : c.toNat = 32
      · rw [lexAt_blank _ _ _ h32] at h
        exact ih r (pos + 1) ts (by omega) h
      · by_cases h35 : c.toNat = 35
        · rw [lexAt_hash _ _ _ h35] at h; cases h; exact List.Pairwise.nil
        · cases ht : tok1 (c :: r) with
          | error e => rw [lexAt_err _ _ _ h32 h35 e ht] at h; cases h
          | ok t =>
            rw [lexAt_tok _ _ _ h32 h35 t ht] at h
            have hs := tok1_size ht
            cases hr : lexAt (pos + t.size) ((c :: r).drop t.size) with
            | error y => rw [hr] at h; cases h
            | ok us =>
              rw [hr] at h
              cases h
              simp only [List.length_cons] at hs
              refine List.Pairwise.cons (fun y hy => ?_) (ih _ _ us (by simp; omega) hr)
              have := lexAt_all _ _ _ _ (Nat.le_refl _) hr y hy
              simp only at this ⊢
              omega
theorem lexAt_wrong : ∀ (f : Nat) (l : Bs) (pos : Nat) (p : Nat) (e : Int), l.length ≤ f → lexAt pos l = .error (p, e) → pos ≤ p ∧ p < pos + l.length := by
  intro f
  induction f with
  | zero =>
    intro l pos p e hl h
    have : l = [] := by cases l with | nil => rfl | cons => simp at hl
    subst this
    cases h
  | succ f ih =>
    intro l pos p e hl h
    cases l with
    | nil => cases h
    | cons c r =>
      simp only [List.length_cons] at hl
      by_cases h32 : c.toNat = 32
      · rw [lexAt_blank _ _ _ h32] at h
        have := ih r (pos + 1) p e (by omega) h
        simp
        omega
      · by_cases h35 : c.toNat = 35
        · rw [lexAt_hash _ _ _ h35] at h; cases h
        · cases ht : tok1 (c :: r) with
          | error e' => rw [lexAt_err _ _ _ h32 h35 e' ht] at h; cases h; simp
          | ok t =>
            rw [lexAt_tok _ _ _ h32 h35 t ht] at h
            have hs := tok1_size ht
            simp only [List.length_cons] at hs
            cases hr : lexAt (pos + t.size) ((c :: r).drop t.size) with
            | error y =>
              rw [hr] at h
              obtain ⟨p', e'⟩ := y
              cases h
              have := ih ((c :: r).drop t.size) (pos + t.size) p e (by simp; omega) hr
              simp only [List.length_drop, List.length_cons] at this ⊢
              omega
            | ok us => rw [hr] at h; cases h
theorem brk_mem : ∀ (ts opn o : List T4), brk opn ts = .ok o → ∀ y ∈ o, y ∈ opn ∨ y ∈ ts := by
  intro ts
  induction ts with
  | nil => intro opn o h y hy; cases h; exact Or.inl hy
  | cons t ts ih =>
    intro opn o h y hy
    unfold brk at h
    split at h
    · rcases ih _ _ h y hy with h1 | h1
      · rcases List.mem_cons.1 h1 with rfl | h1
        · exact Or.inr (by simp)
        · exact Or.inl h1
      · exact Or.inr (by simp [h1])
    · split at h
      · split at h
        · cases h
        · split at h
          · rcases ih _ _ h y hy with h1 | h1
            · exact Or.inl (by simp [h1])
            · exact Or.inr (by simp [h1])
          · cases h
      · rcases ih _ _ h y hy with h1 | h1
        · exact Or.inl h1
        · exact Or.inr (by simp [h1])
theorem brk_wrong : ∀ (ts opn : List T4) (p : Int), brk opn ts = .error p → ∃ y ∈ ts, y.2.1 = p := by
  intro ts
  induction ts with
  | nil => intro opn p h; cases h
  | cons t ts ih =>
    intro opn p h
    unfold brk at h
    split at h
    · obtain ⟨y, h1, h2⟩ := ih _ _ h
      exact ⟨y, by simp [h1], h2⟩
    · split at h
      · split at h
        · cases h; exact ⟨t, by simp, rfl⟩
        · split at h
          · obtain ⟨y, h1, h2⟩ := ih _ _ h
            exact ⟨y, by simp [h1], h2⟩
          · cases h; exact ⟨t, by simp, rfl⟩
      · obtain ⟨y, h1, h2⟩ := ih _ _ h
        exact ⟨y, by simp [h1], h2⟩

/-- What holds of a token's place in its source. -/
def PlOk (s : Bs) (t : T4) : Prop :=
  (t.1 = 1 → ∃ c u, t.2.2.1 = c :: u ∧ s[t.2.1.toNat]? = some c) ∧ (t.1 = 5 → ∀ c, s[t.2.1.toNat]? = some c → c.toNat = 10) ∧ (t.1 = 8 → t.2.1 = s.length)
/-- Tokens whose places do not go back, and lie from a place on to another. -/
def Lies (s : Bs) (a b : Int) (ts : List T4) : Prop := ts.Pairwise (fun x y => x.2.1 ≤ y.2.1) ∧ ∀ t ∈ ts, PlOk s t ∧ a ≤ t.2.1 ∧ t.2.1 ≤ b
theorem Lies.append {s : Bs} {a b c : Int} {xs ys : List T4} (h : Lies s a b xs) (h' : Lies s b c ys) (hab : a ≤ b) (hbc : b ≤ c) : Lies s a c (xs ++ ys) := by
  refine ⟨List.pairwise_append.2 ⟨h.1, h'.1, fun x hx y hy => ?_⟩, fun t ht => ?_⟩
  · have := (h.2 x hx).2.2
    have := (h'.2 y hy).2.1
    omega
  · rcases List.mem_append.1 ht with ht | ht
    · exact ⟨(h.2 t ht).1, (h.2 t ht).2.1, by have := (h.2 t ht).2.2; omega⟩
    · exact ⟨(h'.2 t ht).1, by have := (h'.2 t ht).2.1; omega, (h'.2 t ht).2.2⟩
theorem Lies.wider {s : Bs} {a b c d : Int} {xs : List T4} (h : Lies s a b xs) (h1 : c ≤ a) (h2 : b ≤ d) : Lies s c d xs :=
  ⟨h.1, fun t ht => ⟨(h.2 t ht).1, by have := (h.2 t ht).2.1; omega, by have := (h.2 t ht).2.2; omega⟩⟩
theorem lies_nil (s : Bs) (a b : Int) : Lies s a b [] := ⟨List.Pairwise.nil, by simp⟩
theorem lies_same (s : Bs) (n : Nat) (k q : Int) (hk : k = 6 ∨ k = 7) : Lies s q q (List.replicate n (mark k q)) := by
  refine ⟨List.pairwise_replicate.2 (Or.inr (Int.le_refl _)), fun t ht => ?_⟩
  obtain rfl := List.eq_of_mem_replicate ht
  refine ⟨⟨fun h => ?_, fun h => ?_, fun h => ?_⟩, Int.le_refl _, Int.le_refl _⟩ <;> (simp only [mark] at h; omega)
theorem lies_indent (s : Bs) {blk b : List Nat} {n : Nat} {q : Int} {m : List T4} (h : indent blk n q = .ok (m, b)) : Lies s q q m := by
  unfold indent at h
  split at h
  · cases h
    exact lies_same s 1 6 q (Or.inl rfl)
  · split at h
    · cases h; exact lies_same s _ 7 q (Or.inr rfl)
    · cases h

theorem abs_place {q o : Nat} (h : q + o ≤ 1000000) : wrap64 ((q : Int) + (o : Int)) = ((q + o : Nat) : Int) := by
  unfold wrap64
  omega

/-- A line's tokens lie in it. -/
theorem lies_toks {s L tail : Bs} {q : Nat} {ts : List (Nat × Tk)} (hs : s.length ≤ 1000000) (hL : s.drop q = L ++ tail) (hq : q + L.length ≤ s.length) (h : lex L = .ok ts) :
    Lies s (q : Int) ((q + L.length : Nat) : Int) (ts.map (abs4 (q : Int))) := by
  have hall := lexAt_all _ _ _ _ (Nat.le_refl _) h
  have hpl : ∀ y ∈ ts, wrap64 ((q : Int) + (y.1 : Int)) = ((q + y.1 : Nat) : Int) := fun y hy => abs_place (by have := (hall y hy).2.1; omega)
  refine ⟨?_, fun t ht => ?_⟩
  · rw [List.pairwise_map]
    refine (lexAt_sorted _ _ _ _ (Nat.le_refl _) h).imp_of_mem fun {a b} ha hb hab => ?_
    show wrap64 _ ≤ wrap64 _
    rw [hpl a ha, hpl b hb]
    omega
  · obtain ⟨y, hy, rfl⟩ := List.mem_map.1 ht
    obtain ⟨h1, h2, h3, h4, h5⟩ := hall y hy
    have hp : (abs4 (q : Int) y).2.1 = ((q + y.1 : Nat) : Int) := hpl y hy
    refine ⟨⟨fun hk => ?_, fun hk => ?_, fun hk => ?_⟩, by rw [hp]; omega, by rw [hp]; omega⟩
    · obtain ⟨c, u, hu, hc⟩ := h5 hk
      refine ⟨c, u, hu, ?_⟩
      rw [hp, Int.toNat_natCast, ← List.getElem?_drop, hL, List.getElem?_append_left (by omega)]
      simpa using hc
    · have : y.2.kind = 5 := hk
      omega
    · have : y.2.kind = 8 := hk
      omega

/-- What holds of the places while lines are read. -/
structure WInv (s : Bs) (at_ : Nat) (st : LS) : Prop where
  out : Lies s 0 at_ st.out
  top : ∀ t ∈ st.out, t.2.1 ≤ s.length
  opn : ∀ t ∈ st.opn, 0 ≤ t.2.1 ∧ t.2.1 ≤ s.length

theorem rest_lies {s : Bs} {x : Nat × Bs} (hx : x ∈ linesL s) : ∃ tail, s.drop (x.1 + blanksOf x.2) = x.2.drop (blanksOf x.2) ++ tail ∧ x.1 + x.2.length ≤ s.length ∧ blanksOf x.2 ≤ x.2.length ∧ (∀ c, s[x.1 + x.2.length]? = some c → c.toNat = 10) := by
  obtain ⟨tail, h1, h2⟩ := linesL_lies hx
  have h3 := linesL_in s x hx
  have h4 := blanksOf_le x.2
  refine ⟨tail, ?_, h3, h4, fun c hc => ?_⟩
  · rw [← List.drop_drop, h1, List.drop_append_of_le_length h4]
  · have : (s.drop x.1)[x.2.length]? = some c := by rw [List.getElem?_drop]; exact hc
    rw [h1, List.getElem?_append_right (Nat.le_refl _), Nat.sub_self] at this
    rcases h2 with rfl | ⟨d, u, rfl, hd⟩
    · cases this
    · cases this; exact hd
theorem winv_step {s : Bs} {st st' : LS} {x : Nat × Bs} (hs : s.length ≤ 1000000) (hx : x ∈ linesL s) (h : WInv s x.1 st) (e : lineStep st x = .ok st') : WInv s (x.1 + x.2.length + 1) st' := by
  obtain ⟨tail, hL, hin, hbl, h10⟩ := rest_lies hx
  rcases lineStep_shape e with ⟨rfl, _⟩ | ⟨m, ts, hl, hb, ho, hm⟩
  · exact ⟨h.out.wider (Int.le_refl _) (by omega), h.top, h.opn⟩
  · have hlen : (x.2.drop (blanksOf x.2)).length = x.2.length - blanksOf x.2 := List.length_drop
    have ht := lies_toks hs hL (by rw [hlen]; omega) hl
    have e1 : x.1 + blanksOf x.2 + (x.2.drop (blanksOf x.2)).length = x.1 + x.2.length := by rw [hlen]; omega
    rw [e1] at ht
    have hO : Lies s 0 ((x.1 + x.2.length : Nat) : Int) st'.out := by
      rw [ho]
      have hm' : Lies s (x.1 : Int) ((x.1 + blanksOf x.2 : Nat) : Int) m := by
        rcases hm with ⟨_, rfl, _⟩ | ⟨_, hi, _⟩
        · exact lies_nil _ _ _
        · exact (lies_indent s hi).wider (by omega) (Int.le_refl _)
      have he : Lies s ((x.1 + x.2.length : Nat) : Int) ((x.1 + x.2.length : Nat) : Int) (if st'.opn = [] then [mark 5 ((x.1 + x.2.length : Nat) : Int)] else []) := by
        split
        · refine ⟨List.pairwise_singleton _ _, fun t ht => ?_⟩
          obtain rfl : t = _ := by simpa using ht
          refine ⟨⟨fun h => ?_, fun _ c hc => ?_, fun h => ?_⟩, Int.le_refl _, Int.le_refl _⟩
          · simp only [mark] at h; omega
          · simp only [mark, Int.toNat_natCast] at hc
            exact h10 c hc
          · simp only [mark] at h; omega
        · exact lies_nil _ _ _
      exact ((((h.out.append hm' (by omega) (by omega)).append ht (by omega) (by omega)).append he (by omega) (by omega)))
    refine ⟨hO.wider (Int.le_refl _) (by omega), fun t ht => ?_, ?_⟩
    · have := (hO.2 t ht).2.2
      omega
    · intro t htt
      rcases brk_mem _ _ _ hb t htt with h1 | h1
      · exact h.opn t h1
      · have := (ht.2 t h1).2
        omega
theorem wwrong_step {s : Bs} {st : LS} {x : Nat × Bs} {p e : Int} (hs : s.length ≤ 1000000) (hx : x ∈ linesL s) (h : lineStep st x = .error (p, e)) : 0 ≤ p ∧ p ≤ s.length := by
  obtain ⟨tail, hL, hin, hbl, h10⟩ := rest_lies hx
  have hlen : (x.2.drop (blanksOf x.2)).length = x.2.length - blanksOf x.2 := List.length_drop
  have rest : ∀ {m : List T4} {blk : List Nat}, lineRest st m blk x = .error (p, e) → 0 ≤ p ∧ p ≤ s.length := by
    intro m blk h
    unfold lineRest at h
    cases hl : lex (x.2.drop (blanksOf x.2)) with
    | error y =>
      rw [hl] at h
      obtain ⟨p', e'⟩ := y
      have hp := lexAt_wrong _ _ _ _ _ (Nat.le_refl _) hl
      simp only at h
      rw [abs_place (by omega)] at h
      cases h
      omega
    | ok ts =>
      rw [hl] at h
      simp only at h
      cases hb : brk st.opn (ts.map (abs4 ((x.1 + blanksOf x.2 : Nat) : Int))) with
      | error p' =>
        rw [hb] at h
        cases h
        obtain ⟨y, hy, rfl⟩ := brk_wrong _ _ _ hb
        have ht := lies_toks hs hL (by rw [hlen]; omega) hl
        have := (ht.2 y hy).2
        omega
      | ok o => rw [hb] at h; cases h
  unfold lineStep at h
  split at h
  · split at h
    · cases h
    · split at h
      · cases h
      · cases hi : indent st.blk (blanksOf x.2) ((x.1 + blanksOf x.2 : Nat) : Int) with
        | error y =>
          rw [hi] at h
          cases h
          unfold indent at hi
          split at hi
          · cases hi
          · split at hi
            · cases hi
            · cases hi; omega
        | ok y =>
          rw [hi] at h
          exact rest h
  · exact rest h
theorem winv_run {s : Bs} (hs : s.length ≤ 1000000) : ∀ (post pre : List (Nat × Bs)) (st : LS), linesL s = pre ++ post → WInv s (nextAt pre) st →
    (∀ st', runL st post = .ok st' → WInv s (nextAt pre + nextAt post) st') ∧ ∀ p e, runL st post = .error (p, e) → 0 ≤ p ∧ p ≤ s.length := by
  intro post
  induction post with
  | nil =>
    intro pre st he h
    refine ⟨fun st' h' => ?_, fun p e h' => ?_⟩
    · cases h'; exact h
    · cases h'
  | cons x post ih =>
    intro pre st he h
    have hx : x ∈ linesL s := by rw [he]; simp
    have hat := linesL_at he
    rw [← hat] at h
    cases hl : lineStep st x with
    | error y =>
      obtain ⟨p', e'⟩ := y
      have := wwrong_step hs hx hl
      refine ⟨fun st' h' => ?_, fun p e h' => ?_⟩
      · rw [runL, hl] at h'; cases h'
      · rw [runL, hl] at h'; cases h'; exact this
    | ok st1 =>
      have h1 := winv_step hs hx h hl
      have hn : nextAt (pre ++ [x]) = x.1 + x.2.length + 1 := by rw [nextAt_append, nextAt, nextAt, hat]; omega
      obtain ⟨i1, i2⟩ := ih (pre ++ [x]) st1 (by rw [he]; simp) (by rw [hn]; exact h1)
      refine ⟨fun st' h' => ?_, fun p e h' => ?_⟩
      · rw [runL, hl] at h'
        have := i1 st' h'
        rw [hn] at this
        rw [nextAt, show nextAt pre + (x.2.length + 1 + nextAt post) = x.1 + x.2.length + 1 + nextAt post by omega]
        exact this
      · rw [runL, hl] at h'
        exact i2 p e h'
/-- ALL PLACES LIE IN THE SOURCE, and do not go back. -/
theorem layL_lies {s : Bs} {ts : List T4} (hs : s.length ≤ 1000000) (h : layL s = .ok ts) : ts.Pairwise (fun x y => x.2.1 ≤ y.2.1) ∧ ∀ t ∈ ts, PlOk s t ∧ 0 ≤ t.2.1 ∧ t.2.1 ≤ s.length := by
  unfold layL at h
  cases hr : runL st0 (linesL s) with
  | error e => rw [hr] at h; cases h
  | ok st =>
    rw [hr] at h
    have hw := (winv_run hs (linesL s) [] st0 rfl ⟨lies_nil _ _ _, by simp [st0], by simp [st0]⟩).1 st hr
    rw [linesL_sum] at hw
    simp only at h
    unfold finish at h
    cases hop : st.opn with
    | cons o os => rw [hop] at h; cases h
    | nil =>
      rw [hop] at h
      cases h
      have ho := hw.out
      -- the places of what is told lie below the end
      have ho' : Lies s 0 (s.length : Int) st.out := by
        exact ⟨ho.1, fun t ht => ⟨(ho.2 t ht).1, (ho.2 t ht).2.1, hw.top t ht⟩⟩
      have := (ho'.append ((lies_same s (st.blk.length - 1) 7 (s.length : Int) (Or.inr rfl))) (by omega) (Int.le_refl _)).append (ys := [mark 8 (s.length : Int)]) (c := (s.length : Int)) ⟨List.pairwise_singleton _ _, fun t ht => by
        obtain rfl : t = _ := by simpa using ht
        exact ⟨⟨fun h => by simp only [mark] at h; omega, fun h => by simp only [mark] at h; omega, fun _ => rfl⟩, Int.le_refl _, Int.le_refl _⟩⟩ (by omega) (Int.le_refl _)
      exact this
theorem layL_wrong {s : Bs} {p e : Int} (hs : s.length ≤ 1000000) (h : layL s = .error (p, e)) : 0 ≤ p ∧ p ≤ s.length := by
  unfold layL at h
  obtain ⟨h1, h2⟩ := winv_run hs (linesL s) [] st0 rfl ⟨lies_nil _ _ _, by simp [st0], by simp [st0]⟩
  cases hr : runL st0 (linesL s) with
  | error y =>
    rw [hr] at h
    obtain ⟨p', e'⟩ := y
    cases h
    exact h2 _ _ hr
  | ok st =>
    rw [hr] at h
    simp only at h
    unfold finish at h
    cases hop : st.opn with
    | nil => rw [hop] at h; cases h
    | cons o os =>
      rw [hop] at h
      cases h
      exact (h1 st hr).opn o (by rw [hop]; simp)
end Sp
end Go.Proofs.YtbdjccmcdifjcaaDoor
