/-
  Brackets alone, each with a name behind it: what is told of them: plain; nothing here speaks of a program.
-/
import Derived.Test.YtbdjccmcdifjcaaDoorTells
import Derived.Test.YtbdjccmcdifjcaaDoorNames
set_option linter.unusedVariables false
set_option linter.unusedSimpArgs false
namespace Go.Proofs.YtbdjccmcdifjcaaDoor
open Go.RowKit Go.Shelf
namespace Sp

def br (k : Nat) : UInt8 := match k with
  | 0 => 40
  | 1 => 91
  | 2 => 123
  | 3 => 41
  | 4 => 93
  | _ => 125
theorem br_facts : ∀ k, ¬ (br k).toNat = 10 ∧ ¬ (br k).toNat = 32 ∧ ¬ (br k).toNat = 35 ∧ ¬ ((br k).toNat = 39 ∨ (br k).toNat = 34) ∧ isDig (br k) = false ∧ isWd (br k) = false
  | 0 => by decide
  | 1 => by decide
  | 2 => by decide
  | 3 => by decide
  | 4 => by decide
  | _ + 5 => by
    have h : ∀ c : UInt8, c = 125 → ¬ c.toNat = 10 ∧ ¬ c.toNat = 32 ∧ ¬ c.toNat = 35 ∧ ¬ (c.toNat = 39 ∨ c.toNat = 34) ∧ isDig c = false ∧ isWd c = false := by
      rintro c rfl
      decide
    exact h _ rfl
def flatB : List Nat → Bs
  | [] => []
  | k :: ks => br k :: 120 :: flatB ks
theorem flatB_append : ∀ ks ls : List Nat, flatB (ks ++ ls) = flatB ks ++ flatB ls
  | [], ls => rfl
  | k :: ks, ls => by rw [List.cons_append, flatB, flatB, flatB_append ks ls]; rfl
def tokBr (k : Nat) : Tk := ⟨4, [br k], 0, 1⟩
def tokX : Tk := ⟨1, [120], 0, 1⟩
def toksB : Nat → List Nat → List (Nat × Tk)
  | _, [] => []
  | p, k :: ks => (p, tokBr k) :: (p + 1, tokX) :: toksB (p + 2) ks
theorem tok1_br (k : Nat) (r : Bs) : tok1 (br k :: 120 :: r) = .ok (tokBr k) := by
  obtain ⟨_, _, _, h4, h5, h6⟩ := br_facts k
  rw [tok1, if_neg h4, h5, if_neg (by simp), h6, if_neg (by simp)]
  match k with
  | 0 => rfl
  | 1 => rfl
  | 2 => rfl
  | 3 => rfl
  | 4 => rfl
  | _ + 5 => rfl
theorem wordLen_flat (ks : List Nat) : wordLen (flatB ks) = 0 := by
  cases ks with
  | nil => rfl
  | cons k ks =>
    obtain ⟨_, _, _, _, _, h6⟩ := br_facts k
    rw [flatB, wordLen, h6]
    rfl
theorem tok1_x (ks : List Nat) : tok1 (120 :: flatB ks) = .ok tokX := by
  have h := tok1_word (c := 120) (r := flatB ks) (by decide)
  have e : wordLen (120 :: flatB ks) = 1 := by
    rw [wordLen, if_pos (by decide), wordLen_flat]
  rw [e] at h
  exact h
theorem lex_x (ks : List Nat) (p : Nat) : lexAt p (120 :: flatB ks) = ahead [(p, tokX)] (lexAt (p + 1) (flatB ks)) :=
  lexAt_tok p 120 (flatB ks) (by decide) (by decide) tokX (tok1_x ks)
theorem lexB : ∀ (ks : List Nat) (p : Nat), lexAt p (flatB ks) = .ok (toksB p ks)
  | [], p => rfl
  | k :: ks, p => by
    obtain ⟨_, h2, h3, _⟩ := br_facts k
    have h := lexAt_tok p (br k) (120 :: flatB ks) h2 h3 _ (tok1_br k (flatB ks))
    have e : (br k :: 120 :: flatB ks).drop (tokBr k).size = 120 :: flatB ks := rfl
    have e2 : (tokBr k).size = 1 := rfl
    rw [e, e2, lex_x, lexB ks (p + 1 + 1)] at h
    exact h
theorem lexXB (ks : List Nat) : lexAt 0 (120 :: flatB ks) = .ok ((0, tokX) :: toksB 1 ks) := by
  rw [lex_x, lexB]
  rfl

/-- The brackets that are open, by numbers (the last one first), or none if one may not be. -/
def bst : List Nat → List Nat → Option (List Nat)
  | o, [] => some o
  | o, k :: ks => if k < 3 then bst (k :: o) ks else match o with
    | [] => none
    | t :: o' => if t = k - 3 then bst o' ks else none
theorem bst_nil (o : List Nat) : bst o [] = some o := by cases o <;> rfl
theorem bst_open (o : List Nat) {k : Nat} (ks : List Nat) (h : k < 3) : bst o (k :: ks) = bst (k :: o) ks := by cases o <;> rw [bst, if_pos h]
theorem bst_none {k : Nat} (ks : List Nat) (h : ¬ k < 3) : bst [] (k :: ks) = none := by rw [bst, if_neg h]
theorem bst_shut (t : Nat) (o : List Nat) {k : Nat} (ks : List Nat) (h : ¬ k < 3) : bst (t :: o) (k :: ks) = if t = k - 3 then bst o ks else none := by rw [bst, if_neg h]
theorem bst_append : ∀ (ks ls o : List Nat), bst o (ks ++ ls) = (bst o ks).bind fun o' => bst o' ls
  | [], ls, o => by rw [bst_nil]; rfl
  | k :: ks, ls, o => by
    rw [List.cons_append]
    by_cases h : k < 3
    · rw [bst_open _ _ h, bst_open _ _ h]
      exact bst_append ks ls _
    · cases o with
      | nil => rw [bst_none _ h, bst_none _ h]; rfl
      | cons t o =>
        rw [bst_shut _ _ _ h, bst_shut _ _ _ h]
        split
        · exact bst_append ks ls _
        · rfl
def kmap (o : List Nat) : List Int := o.map fun (k : Nat) => (k : Int) + 1
theorem bk_open (q : Int) (p k : Nat) (h : k < 3) : bk (abs4 q (p, tokBr k)) = (k : Int) + 1 := by
  match k, h with
  | 0, _ => rfl
  | 1, _ => rfl
  | 2, _ => rfl
theorem bk_shut (q : Int) (p k : Nat) (h : ¬ k < 3) (h6 : k < 6) : bk (abs4 q (p, tokBr k)) = -(((k - 3 : Nat) : Int) + 1) := by
  match k, h, h6 with
  | 3, _, _ => rfl
  | 4, _, _ => rfl
  | 5, _, _ => rfl
theorem bk_x (q : Int) (p : Nat) : bk (abs4 q (p, tokX)) = 0 := rfl
theorem brkB (q : Int) : ∀ (ks : List Nat) (p : Nat) (opn : List T4) (o : List Nat), (∀ k ∈ ks, k < 6) → opn.map bk = kmap o →
    match bst o ks with
    | none => ∃ e, brk opn ((toksB p ks).map (abs4 q)) = .error e
    | some o' => ∃ opn', brk opn ((toksB p ks).map (abs4 q)) = .ok opn' ∧ opn'.map bk = kmap o'
  | [], p, opn, o, _, h => by
    rw [bst_nil]
    exact ⟨opn, by cases opn <;> rfl, h⟩
  | k :: ks, p, opn, o, hk, h => by
    have hks : ∀ k ∈ ks, k < 6 := fun x hx => hk x (by simp [hx])
    have h6 := hk k (by simp)
    rw [toksB, List.map_cons, List.map_cons]
    by_cases h3 : k < 3
    · have hb := bk_open q p k h3
      rw [bst_open _ _ h3, brk_pos (by rw [hb]; omega), brk_zero (bk_x q (p + 1))]
      exact brkB q ks (p + 2) _ (k :: o) hks (by rw [List.map_cons, hb, h]; rfl)
    · have hb := bk_shut q p k h3 h6
      cases o with
      | nil =>
        rw [bst_none _ h3]
        have : opn = [] := by cases opn with | nil => rfl | cons => simp [kmap] at h
        subst this
        exact ⟨_, brk_none (by rw [hb]; omega)⟩
      | cons t o =>
        cases opn with
        | nil => simp [kmap] at h
        | cons y opn =>
          rw [List.map_cons] at h
          obtain ⟨h1, h2⟩ : bk y = (t : Int) + 1 ∧ opn.map bk = kmap o := List.cons.inj h
          rw [bst_shut _ _ _ h3]
          by_cases ht : t = k - 3
          · rw [if_pos ht, brk_shut (by rw [hb]; omega) (by rw [hb, h1]; omega), brk_zero (bk_x q (p + 1))]
            exact brkB q ks (p + 2) opn o hks h2
          · rw [if_neg ht]
            exact ⟨_, brk_odd (by rw [hb]; omega) (by rw [hb, h1]; omega)⟩

def curB (pre : Bool) (ks : List Nat) : Bs := if pre then 120 :: flatB ks else flatB ks
theorem curB_head (pre : Bool) (ks : List Nat) : curB pre ks = [] ∨ ∃ c r, curB pre ks = c :: r ∧ ¬ c.toNat = 32 ∧ ¬ c.toNat = 35 := by
  cases pre with
  | true => exact Or.inr ⟨120, flatB ks, rfl, by decide, by decide⟩
  | false =>
    cases ks with
    | nil => exact Or.inl rfl
    | cons k ks =>
      obtain ⟨_, h2, h3, _⟩ := br_facts k
      exact Or.inr ⟨br k, 120 :: flatB ks, rfl, h2, h3⟩
theorem lineB (st : LS) (o : List Nat) (start : Nat) (pre : Bool) (ks : List Nat) (hk : ∀ k ∈ ks, k < 6) (hb : st.blk = [0]) (ho : st.opn.map bk = kmap o) :
    match bst o ks with
    | none => ∃ p, lineStep st (start, curB pre ks) = .error (p, 21)
    | some o' => ∃ st', lineStep st (start, curB pre ks) = .ok st' ∧ st'.blk = [0] ∧ st'.opn.map bk = kmap o' := by
  have h0 : blanksOf (curB pre ks) = 0 := by
    rcases curB_head pre ks with h | ⟨c, r, h, h32, _⟩
    · rw [h]; rfl
    · rw [h, blanksOf, if_neg h32]
  obtain ⟨ts, hl, hbrk⟩ : ∃ ts : List (Nat × Tk), lex (curB pre ks) = .ok ts ∧ ∀ q, match bst o ks with
      | none => ∃ e, brk st.opn (ts.map (abs4 q)) = .error e
      | some o' => ∃ opn', brk st.opn (ts.map (abs4 q)) = .ok opn' ∧ opn'.map bk = kmap o' := by
    cases pre with
    | true =>
      refine ⟨_, lexXB ks, fun q => ?_⟩
      rw [List.map_cons, brk_zero (bk_x q 0)]
      exact brkB q ks 1 _ o hk ho
    | false => exact ⟨_, lexB ks 0, fun q => brkB q ks 0 _ o hk ho⟩
  have rest : match bst o ks with
      | none => ∃ p, lineRest st [] [0] (start, curB pre ks) = .error (p, 21)
      | some o' => ∃ st', lineRest st [] [0] (start, curB pre ks) = .ok st' ∧ st'.blk = [0] ∧ st'.opn.map bk = kmap o' := by
    unfold lineRest
    simp only [h0, List.drop_zero, hl, Nat.add_zero]
    have hq := hbrk (start : Int)
    cases hx : bst o ks with
    | none =>
      rw [hx] at hq
      obtain ⟨e, he⟩ := hq
      exact ⟨e, by rw [he]⟩
    | some o' =>
      rw [hx] at hq
      obtain ⟨opn', he, hm⟩ := hq
      exact ⟨_, by rw [he], rfl, hm⟩
  have same : (curB pre ks = [] → ks = []) := by
    intro h
    cases pre with
    | true => cases h
    | false => cases ks with
      | nil => rfl
      | cons => cases h
  unfold lineStep
  simp only [h0, List.drop_zero]
  by_cases hop : st.opn = []
  · rw [if_pos hop]
    rcases curB_head pre ks with h | ⟨c, r, h, h32, h35⟩
    · obtain rfl := same h
      rw [h]
      exact ⟨st, rfl, hb, ho⟩
    · rw [h] at rest ⊢
      simp only
      rw [if_neg h35, hb]
      exact rest
  · rw [if_neg hop, hb]
    exact rest

def srcB : List (Nat × Bool) → Bs
  | [] => []
  | x :: xs => br x.1 :: 120 :: ((if x.2 then [10] else []) ++ srcB xs)
def runFin (n : Nat) (st : LS) (ls : List (Nat × Bs)) : Except (Int × Int) (List T4) :=
  match runL st ls with
  | .error e => .error e
  | .ok st => finish n st
theorem runFin_cons_ok {n : Nat} {st st' : LS} {x : Nat × Bs} {ls : List (Nat × Bs)} (h : lineStep st x = .ok st') : runFin n st (x :: ls) = runFin n st' ls := by
  unfold runFin
  rw [runL, h]
theorem runFin_cons_error {n : Nat} {st : LS} {x : Nat × Bs} {ls : List (Nat × Bs)} {e : Int × Int} (h : lineStep st x = .error e) : runFin n st (x :: ls) = .error e := by
  unfold runFin
  rw [runL, h]
/-- What is told of brackets: well just if all that are open are closed in their order. -/
def Well (b : Option (List Nat)) (x : Except (Int × Int) (List T4)) : Prop :=
  match b with
  | some [] => ∃ ts, x = .ok ts
  | _ => ∃ p, x = .error (p, 21)
theorem curB_snoc (pre : Bool) (ks : List Nat) (k : Nat) : curB pre ks ++ [br k] ++ [120] = curB pre (ks ++ [k]) := by
  cases pre <;> simp [curB, flatB_append, flatB]
theorem runB (n : Nat) : ∀ (xs : List (Nat × Bool)) (st : LS) (o : List Nat) (start pos : Nat) (pre : Bool) (ks : List Nat), (∀ x ∈ xs, x.1 < 6) → (∀ k ∈ ks, k < 6) → st.blk = [0] → st.opn.map bk = kmap o →
    Well (bst o (ks ++ xs.map (·.1))) (runFin n st (linesGo start (curB pre ks) pos (srcB xs)))
  | [], st, o, start, pos, pre, ks, hx, hk, hb, ho => by
    have hl := lineB st o start pre ks hk hb ho
    rw [List.map_nil, List.append_nil, srcB, linesGo]
    cases hs : bst o ks with
    | none =>
      rw [hs] at hl
      obtain ⟨p, hp⟩ := hl
      exact ⟨p, runFin_cons_error hp⟩
    | some o' =>
      rw [hs] at hl
      obtain ⟨st', hp, hb', ho'⟩ := hl
      rw [runFin_cons_ok hp]
      show Well _ (finish n st')
      unfold finish
      cases o' with
      | nil =>
        have : st'.opn = [] := by
          cases h : st'.opn with
          | nil => rfl
          | cons => rw [h] at ho'; simp [kmap] at ho'
        rw [this]
        exact ⟨_, rfl⟩
      | cons t o' =>
        cases h : st'.opn with
        | nil => rw [h] at ho'; simp [kmap] at ho'
        | cons y ys => exact ⟨_, rfl⟩
  | (k, e) :: xs, st, o, start, pos, pre, ks, hx, hk, hb, ho => by
    have hxs : ∀ x ∈ xs, x.1 < 6 := fun x h => hx x (by simp [h])
    have hk' : ∀ x ∈ ks ++ [k], x < 6 := by
      intro x h
      rcases List.mem_append.1 h with h | h
      · exact hk x h
      · have : x = k := by simpa using h
        rw [this]
        exact hx (k, e) (by simp)
    obtain ⟨h10, _⟩ := br_facts k
    have e0 : ks ++ ((k, e) :: xs).map (·.1) = (ks ++ [k]) ++ xs.map (·.1) := by simp
    rw [e0, srcB, linesGo, if_neg h10, linesGo, if_neg (by decide), curB_snoc]
    cases e with
    | false =>
      exact runB n xs st o start (pos + 1 + 1) pre (ks ++ [k]) hxs hk' hb ho
    | true =>
      show Well _ (runFin n st (linesGo start (curB pre (ks ++ [k])) (pos + 1 + 1) (10 :: srcB xs)))
      rw [linesGo, if_pos (by decide), bst_append]
      have hl := lineB st o start pre (ks ++ [k]) hk' hb ho
      cases hs : bst o (ks ++ [k]) with
      | none =>
        rw [hs] at hl
        obtain ⟨p, hp⟩ := hl
        exact ⟨p, runFin_cons_error hp⟩
      | some o' =>
        rw [hs] at hl
        obtain ⟨st', hp, hb', ho'⟩ := hl
        rw [runFin_cons_ok hp]
        exact runB n xs st' o' _ _ false [] hxs (by simp) hb' ho'
/-- WHAT IS TOLD OF BRACKETS ALONE. -/
theorem layB (xs : List (Nat × Bool)) (hx : ∀ x ∈ xs, x.1 < 6) : Well (bst [] (xs.map (·.1))) (layL (120 :: srcB xs)) := by
  have h := runB (120 :: srcB xs).length xs st0 [] 0 1 true [] hx (by simp) rfl rfl
  have e : linesL (120 :: srcB xs) = linesGo 0 [120] 1 (srcB xs) := by
    unfold linesL
    rw [linesGo, if_neg (by decide)]
    rfl
  unfold layL
  rw [e]
  exact h
theorem srcB_snoc : ∀ (xs : List (Nat × Bool)) (k : Nat) (e : Bool), srcB (xs ++ [(k, e)]) = srcB xs ++ (br k :: 120 :: if e then [10] else [])
  | [], k, e => by simp [srcB]
  | x :: xs, k, e => by
    rw [List.cons_append, srcB, srcB, srcB_snoc xs k e]
    simp
theorem srcB_len : ∀ xs : List (Nat × Bool), (srcB xs).length ≤ 3 * xs.length
  | [] => Nat.le_refl _
  | x :: xs => by
    rw [srcB]
    have := srcB_len xs
    have h : (if x.2 then [(10 : UInt8)] else []).length ≤ 1 := by split <;> simp
    simp only [List.length_cons, List.length_append]
    omega
end Sp
end Go.Proofs.YtbdjccmcdifjcaaDoor
