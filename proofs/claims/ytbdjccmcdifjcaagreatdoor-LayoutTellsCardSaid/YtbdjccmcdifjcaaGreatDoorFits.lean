/-
  Tokens that a line may have, written behind each other with blanks between: plain facts on bytes.
-/
import Derived.Test.YtbdjccmcdifjcaaGreatDoorOps
import Derived.Test.YtbdjccmcdifjcaaGreatDoorDigits
import Derived.Test.YtbdjccmcdifjcaaGreatDoorJoins
import Derived.Test.YtbdjccmcdifjcaaGreatDoorPlaces
set_option linter.unusedVariables false
set_option linter.unusedSimpArgs false
namespace Go.Proofs.YtbdjccmcdifjcaaGreatDoor
open Go.RowKit Go.Shelf
namespace Sp

def words7 : List Bs := [[120], [95, 97, 49], [78, 111, 110, 101], [105, 102], [108, 97, 109, 98, 100, 97], [110, 111, 116, 120], [90]]
/-- A token that a line may have, of any one. -/
def fit4 (x : T4) : T4 :=
  if x.1 % 4 = 0 then (1, 0, if nm x.2.2.1 || kw x.2.2.1 then x.2.2.1 else words7.getD (x.2.2.1.length % 7) [], 0)
  else if x.1 % 4 = 1 then (2, 0, [], x.2.2.2 % 9223372036854775808)
  else if x.1 % 4 = 2 then (3, 0, x.2.2.1, 0)
  else (4, 0, refL.getD ((x.2.2.2 % 1024).toNat % 28) [], 0)
def few4 (x : T4) : T4 := fit4 (x.1, x.2.1, x.2.2.1.take 20, x.2.2.2)
def fitL (l : List T4) : List T4 := (l.take 20).map few4
/-- What a source says for it. -/
def textB (x : T4) : Bs := if x.1 = 2 then dec x.2.2.2.toNat else if x.1 = 3 then quote x.2.2.1 else x.2.2.1
def good (x : T4) : Prop :=
  (x.1 = 1 ∧ wordy x.2.2.1 = true ∧ x.2.2.2 = 0 ∧ x.2.2.1.length ≤ 20) ∨ (x.1 = 2 ∧ x.2.2.1 = [] ∧ 0 ≤ x.2.2.2 ∧ x.2.2.2 < 9223372036854775808) ∨ (x.1 = 3 ∧ x.2.2.1.length ≤ 20 ∧ x.2.2.2 = 0) ∨ (x.1 = 4 ∧ x.2.2.1 ∈ refL ∧ x.2.2.2 = 0)

theorem words7_wordy : words7.all (fun l => wordy l && decide (l.length ≤ 20)) = true := by decide
theorem fit4_good (x : T4) (h : x.2.2.1.length ≤ 20) : good (fit4 x) ∧ (fit4 x).2.1 = 0 := by
  unfold fit4
  split
  · refine ⟨Or.inl ⟨rfl, ?_, rfl, ?_⟩, rfl⟩
    · show wordy (if nm x.2.2.1 || kw x.2.2.1 then x.2.2.1 else words7.getD (x.2.2.1.length % 7) []) = true
      split
      · rename_i hk; rw [wordy_eq]; exact hk
      · have hlt : x.2.2.1.length % 7 < words7.length := Nat.mod_lt _ (by decide)
        rw [List.getD_eq_getElem?_getD, List.getElem?_eq_getElem hlt]
        have := List.all_eq_true.1 words7_wordy _ (List.getElem_mem hlt)
        simp only [Bool.and_eq_true] at this
        exact this.1
    · show (if nm x.2.2.1 || kw x.2.2.1 then x.2.2.1 else words7.getD (x.2.2.1.length % 7) []).length ≤ 20
      split
      · exact h
      · have hlt : x.2.2.1.length % 7 < words7.length := Nat.mod_lt _ (by decide)
        rw [List.getD_eq_getElem?_getD, List.getElem?_eq_getElem hlt]
        have := List.all_eq_true.1 words7_wordy _ (List.getElem_mem hlt)
        simp only [Bool.and_eq_true, decide_eq_true_eq] at this
        exact this.2
  · split
    · refine ⟨Or.inr (Or.inl ⟨rfl, rfl, ?_, ?_⟩), rfl⟩
      · show 0 ≤ x.2.2.2 % 9223372036854775808; omega
      · show x.2.2.2 % 9223372036854775808 < 9223372036854775808; omega
    · split
      · exact ⟨Or.inr (Or.inr (Or.inl ⟨rfl, h, rfl⟩)), rfl⟩
      · refine ⟨Or.inr (Or.inr (Or.inr ⟨rfl, ?_, rfl⟩)), rfl⟩
        have hlt : (x.2.2.2 % 1024).toNat % 28 < refL.length := Nat.mod_lt _ (by decide)
        show refL.getD ((x.2.2.2 % 1024).toNat % 28) [] ∈ refL
        rw [List.getD_eq_getElem?_getD, List.getElem?_eq_getElem hlt]
        exact List.getElem_mem hlt
theorem fitL_good (l : List T4) : (fitL l).length ≤ 20 ∧ ∀ x ∈ fitL l, good x ∧ x.2.1 = 0 := by
  unfold fitL
  refine ⟨by simp; omega, ?_⟩
  intro x hx
  obtain ⟨y, _, rfl⟩ := List.mem_map.1 hx
  exact fit4_good _ (by simp; omega)

/-- What may stand behind a token: nothing, a blank, or a comment. -/
def stopB (u : Bs) : Prop := u = [] ∨ ∃ c r, u = c :: r ∧ (c.toNat = 32 ∨ c.toNat = 35)
theorem stop_blank (u : Bs) : stopB (32 :: u) := Or.inr ⟨32, u, rfl, Or.inl (by decide)⟩
theorem stop_hash (u : Bs) : stopB (35 :: u) := Or.inr ⟨35, u, rfl, Or.inr (by decide)⟩
theorem stop_word {u : Bs} (h : stopB u) : wordLen u = 0 := by
  rcases h with rfl | ⟨c, r, rfl, h⟩
  · rfl
  · have : isWd c = false := by
      unfold isWd isLet isDig
      simp
      omega
    rw [wordLen, this]
    rfl
theorem wordLen_behind (u : Bs) (h : stopB u) : ∀ l : Bs, wordLen (l ++ u) = wordLen l := by
  intro l
  induction l with
  | nil => exact stop_word h
  | cons c r ih => rw [List.cons_append, wordLen, wordLen, ih]
theorem prefix_behind (u : Bs) (h : stopB u) : ∀ (o l : Bs), (32 : UInt8) ∉ o → (35 : UInt8) ∉ o → o.isPrefixOf (l ++ u) = o.isPrefixOf l := by
  intro o
  induction o with
  | nil => intro l _ _; simp
  | cons c o ih =>
    intro l h1 h2
    cases l with
    | nil =>
      rcases h with rfl | ⟨d, r, rfl, hd⟩
      · rfl
      · have : ¬ c = d := by
          intro e
          rcases hd with hd | hd
          · have h3 : d = 32 := UInt8.toNat_inj.1 hd
            exact h1 (by rw [e, h3]; simp)
          · have h3 : d = 35 := UInt8.toNat_inj.1 hd
            exact h2 (by rw [e, h3]; simp)
        simp [List.isPrefixOf, this]
    | cons d l =>
      simp only [List.cons_append, List.isPrefixOf]
      rw [ih l (fun e => h1 (by simp [e])) (fun e => h2 (by simp [e]))]
theorem tokOp_behind (l u : Bs) (h : stopB u) : tokOp (l ++ u) = tokOp l := by
  unfold tokOp opsFrom
  have h : (opsL.drop 0).find? (fun o => o.isPrefixOf (l ++ u)) = (opsL.drop 0).find? (fun o => o.isPrefixOf l) := by
    apply find_same
    intro o ho
    have h32 : ∀ x ∈ opsL, (32 : UInt8) ∉ x ∧ (35 : UInt8) ∉ x := by decide
    have := h32 o (by simpa using ho)
    exact prefix_behind u h o l this.1 this.2
  rw [h]
def opHead (o : Bs) : Bool := match o with
  | [] => false
  | c :: _ => !(decide (c.toNat = 39) || decide (c.toNat = 34)) && !isDig c && !isWd c && !decide (c.toNat = 32) && !decide (c.toNat = 35) && (match tokOp o with
    | .ok t => decide (t.kind = 4) && decide (t.text = o) && decide (t.num = 0) && decide (t.size = o.length)
    | .error _ => false)
theorem ref_heads : refL.all opHead = true := by decide
theorem tokInt_dec (n : Nat) (h : n < 9223372036854775808) : tokInt (dec n) = .ok ⟨2, [], n, (dec n).length⟩ := by
  obtain ⟨c, r, e, hd, hv, hz, hl⟩ := dec_said n h
  rw [e]
  unfold tokInt
  rw [if_neg ?_, parseInt_digs hd (by omega), hv]
  rintro ⟨h1, h2⟩
  rcases hz with rfl | hz
  · simp at h1
  · simp at h2
    rw [h2] at hz
    exact hz (by decide)

/-- A token, what stands behind it a blank, a comment or nothing, is read as it was. -/
theorem tok1_good {x : T4} (h : good x) {u : Bs} (hu : stopB u) : ∃ c r, textB x = c :: r ∧ ¬ c.toNat = 32 ∧ ¬ c.toNat = 35 ∧ tok1 (textB x ++ u) = .ok ⟨x.1, x.2.2.1, x.2.2.2, (textB x).length⟩ := by
  obtain ⟨k, a, t, n⟩ := x
  rcases h with ⟨h1, h2, h3, _⟩ | ⟨h1, h2, h3, h4⟩ | ⟨h1, h2, h3⟩ | ⟨h1, h2, h3⟩
  · simp only at h1 h2 h3
    subst h1 h3
    have e : textB (1, a, t, 0) = t := rfl
    rw [e]
    cases t with
    | nil => cases h2
    | cons c r =>
      have hw : isLet c = true ∧ wordLen (c :: r) = (c :: r).length := by
        have : (isLet c && decide (wordLen (c :: r) = (c :: r).length)) = true := h2
        simpa using this
      obtain ⟨f1, f2, f3, f4, f5⟩ := isLet_facts hw.1
      refine ⟨c, r, rfl, f1, f2, ?_⟩
      rw [List.cons_append, tok1_word hw.1, ← List.cons_append, wordLen_behind u hu, hw.2, List.take_left']
      rfl
  · simp only at h1 h2 h3 h4
    subst h1 h2
    have e : textB (2, a, [], n) = dec n.toNat := rfl
    rw [e]
    have ht := tokInt_dec n.toNat (by omega)
    obtain ⟨c, r, e2, hd, hv, hz, hl⟩ := dec_said n.toNat (by omega)
    have hc := (digs_cons hd).1
    refine ⟨c, r, e2, by omega, by omega, ?_⟩
    have hw : wordLen (dec n.toNat ++ u) = (dec n.toNat).length := by
      rw [wordLen_behind u hu, e2]
      exact word_all _ (digs_wd hd)
    have htk : (dec n.toNat ++ u).take (wordLen (dec n.toNat ++ u)) = dec n.toNat := by rw [hw, List.take_left']; rfl
    rw [e2] at htk ht ⊢
    rw [List.cons_append] at htk ⊢
    rw [tok1, if_neg (by omega), dig_isDig hc, if_pos rfl, htk, ht]
    have : ((n.toNat : Nat) : Int) = n := by omega
    rw [this]
  · simp only at h1 h2 h3
    subst h1 h3
    have e : textB (3, a, t, 0) = quote t := rfl
    rw [e]
    refine ⟨39, t.flatMap quoteB ++ [39], rfl, by decide, by decide, ?_⟩
    unfold quote
    rw [List.cons_append, tok1, if_pos (by decide)]
    unfold tokStr
    rw [List.append_assoc]
    have es : [39] ++ u = 39 :: u := rfl
    rw [es, strAt_quote]
    simp only []
    rw [if_pos (by omega)]
    simp
  · simp only at h1 h2 h3
    subst h1 h3
    have e : textB (4, a, t, 0) = t := rfl
    rw [e]
    have hh := List.all_eq_true.1 ref_heads t h2
    cases t with
    | nil => cases hh
    | cons c r =>
      simp only [opHead, Bool.and_eq_true, Bool.not_eq_true', Bool.or_eq_false_iff, decide_eq_false_iff_not] at hh
      obtain ⟨⟨⟨⟨⟨⟨g1, g2⟩, g3⟩, g4⟩, g5⟩, g6⟩, g7⟩ := hh
      refine ⟨c, r, rfl, g5, g6, ?_⟩
      have ho := tokOp_behind (c :: r) u hu
      rw [List.cons_append] at ho ⊢
      rw [tok1, if_neg (by omega), g3, if_neg (by simp), g4, if_neg (by simp), ho]
      cases htk : tokOp (c :: r) with
      | error er => rw [htk] at g7; cases g7
      | ok t =>
        rw [htk] at g7
        simp only [Bool.and_eq_true, decide_eq_true_eq] at g7
        obtain ⟨⟨⟨k1, k2⟩, k3⟩, k4⟩ := g7
        obtain ⟨tk, tt, tn, tz⟩ := t
        simp only at k1 k2 k3 k4
        subst k1 k2 k3 k4
        rfl

/-- Tokens, each behind so many blanks. -/
def lineB : List (Nat × T4) → Bs
  | [] => []
  | (b, x) :: xs => List.replicate (b + 1) 32 ++ (textB x ++ lineB xs)
def toksB : Nat → List (Nat × T4) → List (Nat × Tk)
  | _, [] => []
  | pos, (b, x) :: xs => (pos + b + 1, ⟨x.1, x.2.2.1, x.2.2.2, (textB x).length⟩) :: toksB (pos + b + 1 + (textB x).length) xs
theorem lexAt_pad (v : Bs) : ∀ (k pos : Nat), lexAt pos (List.replicate k 32 ++ v) = lexAt (pos + k) v := by
  intro k
  induction k with
  | zero => intro pos; rfl
  | succ k ih =>
    intro pos
    rw [List.replicate_succ, List.cons_append, lexAt_blank _ _ _ (by decide), ih]
    congr 1
    omega
theorem lineB_stop {u : Bs} (hu : stopB u) : ∀ xs : List (Nat × T4), stopB (lineB xs ++ u)
  | [] => hu
  | (b, x) :: xs => by
    rw [lineB, List.replicate_succ, List.cons_append, List.cons_append]
    exact stop_blank _
theorem lexAt_line {u : Bs} (hu : stopB u) : ∀ (xs : List (Nat × T4)) (pos : Nat), (∀ x ∈ xs, good x.2) → lexAt pos (lineB xs ++ u) = ahead (toksB pos xs) (lexAt (pos + (lineB xs).length) u) := by
  intro xs
  induction xs with
  | nil => intro pos _; show lexAt pos u = ahead [] (lexAt (pos + 0) u); rw [ahead_nil]; rfl
  | cons y xs ih =>
    intro pos hg
    obtain ⟨b, x⟩ := y
    have hs := lineB_stop hu xs
    obtain ⟨c, r, e, n1, n2, ht⟩ := tok1_good (hg (b, x) (by simp)) hs
    rw [lineB, List.append_assoc, List.append_assoc, lexAt_pad]
    have hstep := lexAt_tok (pos + (b + 1)) c (r ++ (lineB xs ++ u)) n1 n2 _ (by rw [← List.cons_append, ← e]; exact ht)
    rw [← List.cons_append, ← e] at hstep
    rw [hstep]
    simp only []
    rw [List.drop_left', ih _ (fun z hz => hg z (by simp [hz])), ahead_ahead]
    · rw [toksB]
      simp only [List.singleton_append, List.length_append, List.length_replicate]
      congr 2
      omega
    · rfl
theorem toksB_len : ∀ (xs : List (Nat × T4)) (pos : Nat), (toksB pos xs).length = xs.length
  | [], _ => rfl
  | (b, x) :: xs, pos => by rw [toksB, List.length_cons, toksB_len xs, List.length_cons]
theorem toksB_move (d : Nat) : ∀ (xs : List (Nat × T4)) (pos : Nat), toksB (pos + d) xs = moved d (toksB pos xs)
  | [], _ => rfl
  | (b, x) :: xs, pos => by
    rw [toksB, toksB]
    have := toksB_move d xs (pos + b + 1 + (textB x).length)
    rw [show pos + b + 1 + (textB x).length + d = pos + d + b + 1 + (textB x).length by omega] at this
    rw [this]
    show _ = (pos + b + 1 + d, _) :: moved d _
    rw [show pos + b + 1 + d = pos + d + b + 1 by omega]
theorem lex_line (xs : List (Nat × T4)) (hg : ∀ x ∈ xs, good x.2) : lex (lineB xs) = .ok (toksB 0 xs) := by
  have := lexAt_line (u := []) (Or.inl rfl) xs 0 hg
  rw [List.append_nil, lexAt_nil] at this
  unfold lex
  rw [this]
  simp [ahead]
theorem lex_hash (k : Nat) (v : Bs) : lex (List.replicate k 32 ++ 35 :: v) = .ok [] := by
  unfold lex
  rw [lexAt_pad, lexAt_hash _ _ _ (by decide)]
theorem lex_padded (xs : List (Nat × T4)) (hg : ∀ x ∈ xs, good x.2) (k : Nat) (v : Bs) : lex (List.replicate k 32 ++ (lineB xs ++ (List.replicate k 32 ++ 35 :: v))) = .ok (moved k (toksB 0 xs)) := by
  have hu : stopB (List.replicate k 32 ++ 35 :: v) := by
    cases k with
    | zero => exact stop_hash v
    | succ k => rw [List.replicate_succ, List.cons_append]; exact stop_blank _
  unfold lex
  rw [lexAt_pad, lexAt_line hu xs _ hg, lexAt_pad, lexAt_hash _ _ _ (by decide), toksB_move k xs 0]
  simp [ahead]
theorem moved_row (k : Nat) (ts : List (Nat × Tk)) : (ts.map (abs4 0)).map (sh4 (k : Int)) = (moved k ts).map (abs4 0) := by
  unfold moved
  rw [List.map_map, List.map_map]
  apply List.map_congr_left
  intro x _
  simp only [Function.comp, sh4, abs4]
  congr 2
  unfold wrap64
  omega
theorem textB_len {x : T4} (h : good x) : 1 ≤ (textB x).length ∧ (textB x).length ≤ 82 := by
  obtain ⟨c, r, e, _⟩ := tok1_good h (u := []) (Or.inl rfl)
  refine ⟨by rw [e]; simp, ?_⟩
  obtain ⟨k, a, t, n⟩ := x
  rcases h with ⟨h1, h2, h3, h4⟩ | ⟨h1, h2, h3, h4⟩ | ⟨h1, h2, h3⟩ | ⟨h1, h2, h3⟩
  · simp only at h1 h4
    subst h1
    show t.length ≤ 82
    omega
  · simp only at h1 h3 h4
    subst h1
    show (dec n.toNat).length ≤ 82
    obtain ⟨c, r, e2, _, _, _, h5⟩ := dec_said n.toNat (by omega)
    rw [e2]
    omega
  · simp only at h1 h2
    subst h1
    show (quote t).length ≤ 82
    have := (quote_bounds t).2.1
    omega
  · simp only at h1 h2
    subst h1
    show t.length ≤ 82
    have := List.all_eq_true.1 ref_sizes t h2
    simp only [Bool.and_eq_true, decide_eq_true_eq] at this
    omega
theorem lineB_snoc (xs : List (Nat × T4)) (b : Nat) (x : T4) : lineB (xs ++ [(b, x)]) = lineB xs ++ (List.replicate (b + 1) 32 ++ textB x) := by
  induction xs with
  | nil => simp [lineB]
  | cons y xs ih =>
    obtain ⟨b', x'⟩ := y
    rw [List.cons_append, lineB, lineB, ih]
    simp
theorem toksB_snoc (b : Nat) (x : T4) : ∀ (xs : List (Nat × T4)) (pos : Nat), toksB pos (xs ++ [(b, x)]) = toksB pos xs ++ [(pos + (lineB xs).length + b + 1, ⟨x.1, x.2.2.1, x.2.2.2, (textB x).length⟩)]
  | [], pos => by simp [toksB, lineB]
  | (b', x') :: xs, pos => by
    rw [List.cons_append, toksB, toksB, toksB_snoc b x xs, List.cons_append, lineB]
    congr 3
    simp only [List.length_append, List.length_replicate]
    congr 1
    omega
end Sp
end Go.Proofs.YtbdjccmcdifjcaaGreatDoor
