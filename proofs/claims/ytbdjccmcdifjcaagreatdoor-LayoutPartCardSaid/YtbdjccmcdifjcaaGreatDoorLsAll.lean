/-
  Lines made of tokens: their texts, what is told of them, the law's own text and source: twelve texts in one.
-/
import Derived.Test.YtbdjccmcdifjcaaGreatDoorOps
import Derived.Test.YtbdjccmcdifjcaaGreatDoorDigits
import Derived.Test.YtbdjccmcdifjcaaGreatDoorJoins
import Derived.Test.YtbdjccmcdifjcaaGreatDoorPlaces
import Derived.Test.YtbdjccmcdifjcaaGreatDoorDecimal
import Derived.Test.YtbdjccmcdifjcaaGreatDoorRefB
import Derived.Test.YtbdjccmcdifjcaaGreatDoorRefD
import Derived.Test.YtbdjccmcdifjcaaGreatDoorLayP
import Derived.Test.YtbdjccmcdifjcaaGreatDoorLay
import Derived.Deep.QuietTactic
import Derived.BigQuiet
import Derived.Test.YtbdjccmcdifjcaaGreatDoorP
import Derived.Deep.Slices
import Derived.Carry
import Derived.Laws.Bits128
import Derived.Deep.DeepCutAuto
import Derived.Test.YtbdjccmcdifjcaaGreatDoorLain
set_option linter.unusedVariables false
set_option linter.unusedSimpArgs false
namespace Go.Proofs.YtbdjccmcdifjcaaGreatDoor
open Go.RowKit Go.Shelf
namespace Sp

def words7 : List Bs := [[120], [95, 97, 49], [78, 111, 110, 101], [105, 102], [108, 97, 109, 98, 100, 97], [110, 111, 116, 120], [90]]
/-- A token that a line may have, of any one. -/
def fit4 (x : T4) : T4 :=
  if x.1 % 4 = 0 then (1, 0, if nm x.2.2.1 || kw x.2.2.1 then x.2.2.1 else words7.getD (x.2.2.1.length % 7) [], 0)
  else if x.1 % 4 = 1 then (2, 0, [], x.2.2.2 % 9223372036854775808)
  else if x.1 % 4 = 2 then (3, 0, x.2.2.1, 0)
  else (4, 0, refL.getD ((x.2.2.2 % 1024).toNat % 28) [], 0)
def few4 (x : T4) : T4 := fit4 (x.1, x.2.1, x.2.2.1.take 20, x.2.2.2)
def fitL (l : List T4) : List T4 := (l.take 20).map few4
/-- What a source says for it. -/
def textB (x : T4) : Bs := if x.1 = 2 then dec x.2.2.2.toNat else if x.1 = 3 then quote x.2.2.1 else x.2.2.1
def good (x : T4) : Prop :=
  (x.1 = 1 ∧ wordy x.2.2.1 = true ∧ x.2.2.2 = 0 ∧ x.2.2.1.length ≤ 20) ∨ (x.1 = 2 ∧ x.2.2.1 = [] ∧ 0 ≤ x.2.2.2 ∧ x.2.2.2 < 9223372036854775808) ∨ (x.1 = 3 ∧ x.2.2.1.length ≤ 20 ∧ x.2.2.2 = 0) ∨ (x.1 = 4 ∧ x.2.2.1 ∈ refL ∧ x.2.2.2 = 0)

theorem words7_wordy : words7.all (fun l => wordy l && decide (l.length ≤ 20)) = true := by decide
theorem fit4_good (x : T4) (h : x.2.2.1.length ≤ 20) : good (fit4 x) ∧ (fit4 x).2.1 = 0 := by
  unfold fit4
  split
  · refine ⟨Or.inl ⟨rfl, ?_, rfl, ?_⟩, rfl⟩
    · show wordy (if nm x.2.2.1 || kw x.2.2.1 then x.2.2.1 else words7.getD (x.2.2.1.length % 7) []) = true
      split
      · rename_i hk; rw [wordy_eq]; exact hk
      · have hlt : x.2.2.1.length % 7 < words7.length := Nat.mod_lt _ (by decide)
        rw [List.getD_eq_getElem?_getD, List.getElem?_eq_getElem hlt]
        have := List.all_eq_true.1 words7_wordy _ (List.getElem_mem hlt)
        simp only [Bool.and_eq_true] at this
        exact this.1
    · show (if nm x.2.2.1 || kw x.2.2.1 then x.2.2.1 else words7.getD (x.2.2.1.length % 7) []).length ≤ 20
      split
      · exact h
      · have hlt : x.2.2.1.length % 7 < words7.length := Nat.mod_lt _ (by decide)
        rw [List.getD_eq_getElem?_getD, List.getElem?_eq_getElem hlt]
        have := List.all_eq_true.1 words7_wordy _ (List.getElem_mem hlt)
        simp only [Bool.and_eq_true, decide_eq_true_eq] at this
        exact this.2
  · split
    · refine ⟨Or.inr (Or.inl ⟨rfl, rfl, ?_, ?_⟩), rfl⟩
      · show 0 ≤ x.2.2.2 % 9223372036854775808; omega
      · show x.2.2.2 % 9223372036854775808 < 9223372036854775808; omega
    · split
      · exact ⟨Or.inr (Or.inr (Or.inl ⟨rfl, h, rfl⟩)), rfl⟩
      · refine ⟨Or.inr (Or.inr (Or.inr ⟨rfl, ?_, rfl⟩)), rfl⟩
        have hlt : (x.2.2.2 % 1024).toNat % 28 < refL.length := Nat.mod_lt _ (by decide)
        show refL.getD ((x.2.2.2 % 1024).toNat % 28) [] ∈ refL
        rw [List.getD_eq_getElem?_getD, List.getElem?_eq_getElem hlt]
        exact List.getElem_mem hlt
theorem fitL_good (l : List T4) : (fitL l).length ≤ 20 ∧ ∀ x ∈ fitL l, good x ∧ x.2.1 = 0 := by
  unfold fitL
  refine ⟨by simp; omega, ?_⟩
  intro x hx
  obtain ⟨y, _, rfl⟩ := List.mem_map.1 hx
  exact fit4_good _ (by simp; omega)

/-- What may stand behind a token: nothing, a blank, or a comment. -/
def stopB (u : Bs) : Prop := u = [] ∨ ∃ c r, u = c :: r ∧ (c.toNat = 32 ∨ c.toNat = 35)
theorem stop_blank (u : Bs) : stopB (32 :: u) := Or.inr ⟨32, u, rfl, Or.inl (by decide)⟩
theorem stop_hash (u : Bs) : stopB (35 :: u) := Or.inr ⟨35, u, rfl, Or.inr (by decide)⟩
theorem stop_word {u : Bs} (h : stopB u) : wordLen u = 0 := by
  rcases h with rfl | ⟨c, r, rfl, h⟩
  · rfl
  · have : isWd c = false := by
      unfold isWd isLet isDig
      simp
      omega
    rw [wordLen, this]
    rfl
theorem wordLen_behind (u : Bs) (h : stopB u) : ∀ l : Bs, wordLen (l ++ u) = wordLen l := by
  intro l
  induction l with
  | nil => exact stop_word h
  | cons c r ih => rw [List.cons_append, wordLen, wordLen, ih]
theorem prefix_behind (u : Bs) (h : stopB u) : ∀ (o l : Bs), (32 : UInt8) ∉ o → (35 : UInt8) ∉ o → o.isPrefixOf (l ++ u) = o.isPrefixOf l := by
  intro o
  induction o with
  | nil => intro l _ _; simp
  | cons c o ih =>
    intro l h1 h2
    cases l with
    | nil =>
      rcases h with rfl | ⟨d, r, rfl, hd⟩
      · rfl
      · have : ¬ c = d := by
          intro e
          rcases hd with hd | hd
          · have h3 : d = 32 := UInt8.toNat_inj.1 hd
            exact h1 (by rw [e, h3]; simp)
          · have h3 : d = 35 := UInt8.toNat_inj.1 hd
            exact h2 (by rw [e, h3]; simp)
        simp [List.isPrefixOf, this]
    | cons d l =>
      simp only [List.cons_append, List.isPrefixOf]
      rw [ih l (fun e => h1 (by simp [e])) (fun e => h2 (by simp [e]))]
theorem tokOp_behind (l u : Bs) (h : stopB u) : tokOp (l ++ u) = tokOp l := by
  unfold tokOp opsFrom
  have h : (opsL.drop 0).find? (fun o => o.isPrefixOf (l ++ u)) = (opsL.drop 0).find? (fun o => o.isPrefixOf l) := by
    apply find_same
    intro o ho
    have h32 : ∀ x ∈ opsL, (32 : UInt8) ∉ x ∧ (35 : UInt8) ∉ x := by decide
    have := h32 o (by simpa using ho)
    exact prefix_behind u h o l this.1 this.2
  rw [h]
def opHead (o : Bs) : Bool := match o with
  | [] => false
  | c :: _ => !(decide (c.toNat = 39) || decide (c.toNat = 34)) && !isDig c && !isWd c && !decide (c.toNat = 32) && !decide (c.toNat = 35) && (match tokOp o with
    | .ok t => decide (t.kind = 4) && decide (t.text = o) && decide (t.num = 0) && decide (t.size = o.length)
    | .error _ => false)
theorem ref_heads : refL.all opHead = true := by decide
theorem tokInt_dec (n : Nat) (h : n < 9223372036854775808) : tokInt (dec n) = .ok ⟨2, [], n, (dec n).length⟩ := by
  obtain ⟨c, r, e, hd, hv, hz, hl⟩ := dec_said n h
  rw [e]
  unfold tokInt
  rw [if_neg ?_, parseInt_digs hd (by omega), hv]
  rintro ⟨h1, h2⟩
  rcases hz with rfl | hz
  · simp at h1
  · simp at h2
    rw [h2] at hz
    exact hz (by decide)

/-- A token, what stands behind it a blank, a comment or nothing, is read as it was. -/
theorem tok1_good {x : T4} (h : good x) {u : Bs} (hu : stopB u) : ∃ c r, textB x = c :: r ∧ ¬ c.toNat = 32 ∧ ¬ c.toNat = 35 ∧ tok1 (textB x ++ u) = .ok ⟨x.1, x.2.2.1, x.2.2.2, (textB x).length⟩ := by
  obtain ⟨k, a, t, n⟩ := x
  rcases h with ⟨h1, h2, h3, _⟩ | ⟨h1, h2, h3, h4⟩ | ⟨h1, h2, h3⟩ | ⟨h1, h2, h3⟩
  · simp only at h1 h2 h3
    subst h1 h3
    have e : textB (1, a, t, 0) = t := rfl
    rw [e]
    cases t with
    | nil => cases h2
    | cons c r =>
      have hw : isLet c = true ∧ wordLen (c :: r) = (c :: r).length := by
        have : (isLet c && decide (wordLen (c :: r) = (c :: r).length)) = true := h2
        simpa using this
      obtain ⟨f1, f2, f3, f4, f5⟩ := isLet_facts hw.1
      refine ⟨c, r, rfl, f1, f2, ?_⟩
      rw [List.cons_append, tok1_word hw.1, ← List.cons_append, wordLen_behind u hu, hw.2, List.take_left']
      rfl
  · simp only at h1 h2 h3 h4
    subst h1 h2
    have e : textB (2, a, [], n) = dec n.toNat := rfl
    rw [e]
    have ht := tokInt_dec n.toNat (by omega)
    obtain ⟨c, r, e2, hd, hv, hz, hl⟩ := dec_said n.toNat (by omega)
    have hc := (digs_cons hd).1
    refine ⟨c, r, e2, by omega, by omega, ?_⟩
    have hw : wordLen (dec n.toNat ++ u) = (dec n.toNat).length := by
      rw [wordLen_behind u hu, e2]
      exact word_all _ (digs_wd hd)
    have htk : (dec n.toNat ++ u).take (wordLen (dec n.toNat ++ u)) = dec n.toNat := by rw [hw, List.take_left']; rfl
    rw [e2] at htk ht ⊢
    rw [List.cons_append] at htk ⊢
    rw [tok1, if_neg (by omega), dig_isDig hc, if_pos rfl, htk, ht]
    have : ((n.toNat : Nat) : Int) = n := by omega
    rw [this]
  · simp only at h1 h2 h3
    subst h1 h3
    have e : textB (3, a, t, 0) = quote t := rfl
    rw [e]
    refine ⟨39, t.flatMap quoteB ++ [39], rfl, by decide, by decide, ?_⟩
    unfold quote
    rw [List.cons_append, tok1, if_pos (by decide)]
    unfold tokStr
    rw [List.append_assoc]
    have es : [39] ++ u = 39 :: u := rfl
    rw [es, strAt_quote]
    simp only []
    rw [if_pos (by omega)]
    simp
  · simp only at h1 h2 h3
    subst h1 h3
    have e : textB (4, a, t, 0) = t := rfl
    rw [e]
    have hh := List.all_eq_true.1 ref_heads t h2
    cases t with
    | nil => cases hh
    | cons c r =>
      simp only [opHead, Bool.and_eq_true, Bool.not_eq_true', Bool.or_eq_false_iff, decide_eq_false_iff_not] at hh
      obtain ⟨⟨⟨⟨⟨⟨g1, g2⟩, g3⟩, g4⟩, g5⟩, g6⟩, g7⟩ := hh
      refine ⟨c, r, rfl, g5, g6, ?_⟩
      have ho := tokOp_behind (c :: r) u hu
      rw [List.cons_append] at ho ⊢
      rw [tok1, if_neg (by omega), g3, if_neg (by simp), g4, if_neg (by simp), ho]
      cases htk : tokOp (c :: r) with
      | error er => rw [htk] at g7; cases g7
      | ok t =>
        rw [htk] at g7
        simp only [Bool.and_eq_true, decide_eq_true_eq] at g7
        obtain ⟨⟨⟨k1, k2⟩, k3⟩, k4⟩ := g7
        obtain ⟨tk, tt, tn, tz⟩ := t
        simp only at k1 k2 k3 k4
        subst k1 k2 k3 k4
        rfl

/-- Tokens, each behind so many blanks. -/
def lineB : List (Nat × T4) → Bs
  | [] => []
  | (b, x) :: xs => List.replicate (b + 1) 32 ++ (textB x ++ lineB xs)
def toksB : Nat → List (Nat × T4) → List (Nat × Tk)
  | _, [] => []
  | pos, (b, x) :: xs => (pos + b + 1, ⟨x.1, x.2.2.1, x.2.2.2, (textB x).length⟩) :: toksB (pos + b + 1 + (textB x).length) xs
theorem lexAt_pad (v : Bs) : ∀ (k pos : Nat), lexAt pos (List.replicate k 32 ++ v) = lexAt (pos + k) v := by
  intro k
  induction k with
  | zero => intro pos; rfl
  | succ k ih =>
    intro pos
    rw [List.replicate_succ, List.cons_append, lexAt_blank _ _ _ (by decide), ih]
    congr 1
    omega
theorem lineB_stop {u : Bs} (hu : stopB u) : ∀ xs : List (Nat × T4), stopB (lineB xs ++ u)
  | [] => hu
  | (b, x) :: xs => by
    rw [lineB, List.replicate_succ, List.cons_append, List.cons_append]
    exact stop_blank _
theorem lexAt_line {u : Bs} (hu : stopB u) : ∀ (xs : List (Nat × T4)) (pos : Nat), (∀ x ∈ xs, good x.2) → lexAt pos (lineB xs ++ u) = ahead (toksB pos xs) (lexAt (pos + (lineB xs).length) u) := by
  intro xs
  induction xs with
  | nil => intro pos _; show lexAt pos u = ahead [] (lexAt (pos + 0) u); rw [ahead_nil]; rfl
  | cons y xs ih =>
    intro pos hg
    obtain ⟨b, x⟩ := y
    have hs := lineB_stop hu xs
    obtain ⟨c, r, e, n1, n2, ht⟩ := tok1_good (hg (b, x) (by simp)) hs
    rw [lineB, List.append_assoc, List.append_assoc, lexAt_pad]
    have hstep := lexAt_tok (pos + (b + 1)) c (r ++ (lineB xs ++ u)) n1 n2 _ (by rw [← List.cons_append, ← e]; exact ht)
    rw [← List.cons_append, ← e] at hstep
    rw [hstep]
    simp only []
    rw [List.drop_left', ih _ (fun z hz => hg z (by simp [hz])), ahead_ahead]
    · rw [toksB]
      simp only [List.singleton_append, List.length_append, List.length_replicate]
      congr 2
      omega
    · rfl
theorem toksB_len : ∀ (xs : List (Nat × T4)) (pos : Nat), (toksB pos xs).length = xs.length
  | [], _ => rfl
  | (b, x) :: xs, pos => by rw [toksB, List.length_cons, toksB_len xs, List.length_cons]
theorem toksB_move (d : Nat) : ∀ (xs : List (Nat × T4)) (pos : Nat), toksB (pos + d) xs = moved d (toksB pos xs)
  | [], _ => rfl
  | (b, x) :: xs, pos => by
    rw [toksB, toksB]
    have := toksB_move d xs (pos + b + 1 + (textB x).length)
    rw [show pos + b + 1 + (textB x).length + d = pos + d + b + 1 + (textB x).length by omega] at this
    rw [this]
    show _ = (pos + b + 1 + d, _) :: moved d _
    rw [show pos + b + 1 + d = pos + d + b + 1 by omega]
theorem lex_line (xs : List (Nat × T4)) (hg : ∀ x ∈ xs, good x.2) : lex (lineB xs) = .ok (toksB 0 xs) := by
  have := lexAt_line (u := []) (Or.inl rfl) xs 0 hg
  rw [List.append_nil, lexAt_nil] at this
  unfold lex
  rw [this]
  simp [ahead]
theorem lex_hash (k : Nat) (v : Bs) : lex (List.replicate k 32 ++ 35 :: v) = .ok [] := by
  unfold lex
  rw [lexAt_pad, lexAt_hash _ _ _ (by decide)]
theorem lex_padded (xs : List (Nat × T4)) (hg : ∀ x ∈ xs, good x.2) (k : Nat) (v : Bs) : lex (List.replicate k 32 ++ (lineB xs ++ (List.replicate k 32 ++ 35 :: v))) = .ok (moved k (toksB 0 xs)) := by
  have hu : stopB (List.replicate k 32 ++ 35 :: v) := by
    cases k with
    | zero => exact stop_hash v
    | succ k => rw [List.replicate_succ, List.cons_append]; exact stop_blank _
  unfold lex
  rw [lexAt_pad, lexAt_line hu xs _ hg, lexAt_pad, lexAt_hash _ _ _ (by decide), toksB_move k xs 0]
  simp [ahead]
theorem moved_row (k : Nat) (ts : List (Nat × Tk)) : (ts.map (abs4 0)).map (sh4 (k : Int)) = (moved k ts).map (abs4 0) := by
  unfold moved
  rw [List.map_map, List.map_map]
  apply List.map_congr_left
  intro x _
  simp only [Function.comp, sh4, abs4]
  congr 2
  unfold wrap64
  omega
theorem textB_len {x : T4} (h : good x) : 1 ≤ (textB x).length ∧ (textB x).length ≤ 82 := by
  obtain ⟨c, r, e, _⟩ := tok1_good h (u := []) (Or.inl rfl)
  refine ⟨by rw [e]; simp, ?_⟩
  obtain ⟨k, a, t, n⟩ := x
  rcases h with ⟨h1, h2, h3, h4⟩ | ⟨h1, h2, h3, h4⟩ | ⟨h1, h2, h3⟩ | ⟨h1, h2, h3⟩
  · simp only at h1 h4
    subst h1
    show t.length ≤ 82
    omega
  · simp only at h1 h3 h4
    subst h1
    show (dec n.toNat).length ≤ 82
    obtain ⟨c, r, e2, _, _, _, h5⟩ := dec_said n.toNat (by omega)
    rw [e2]
    omega
  · simp only at h1 h2
    subst h1
    show (quote t).length ≤ 82
    have := (quote_bounds t).2.1
    omega
  · simp only at h1 h2
    subst h1
    show t.length ≤ 82
    have := List.all_eq_true.1 ref_sizes t h2
    simp only [Bool.and_eq_true, decide_eq_true_eq] at this
    omega
theorem lineB_snoc (xs : List (Nat × T4)) (b : Nat) (x : T4) : lineB (xs ++ [(b, x)]) = lineB xs ++ (List.replicate (b + 1) 32 ++ textB x) := by
  induction xs with
  | nil => simp [lineB]
  | cons y xs ih =>
    obtain ⟨b', x'⟩ := y
    rw [List.cons_append, lineB, lineB, ih]
    simp
theorem toksB_snoc (b : Nat) (x : T4) : ∀ (xs : List (Nat × T4)) (pos : Nat), toksB pos (xs ++ [(b, x)]) = toksB pos xs ++ [(pos + (lineB xs).length + b + 1, ⟨x.1, x.2.2.1, x.2.2.2, (textB x).length⟩)]
  | [], pos => by simp [toksB, lineB]
  | (b', x') :: xs, pos => by
    rw [List.cons_append, toksB, toksB, toksB_snoc b x xs, List.cons_append, lineB]
    congr 3
    simp only [List.length_append, List.length_replicate]
    congr 1
    omega
end Sp
end Go.Proofs.YtbdjccmcdifjcaaGreatDoor

set_option linter.unusedVariables false
set_option linter.unusedSimpArgs false
namespace Go.Proofs.YtbdjccmcdifjcaaGreatDoor
open Go.RowKit Go.Shelf

theorem and_three (n : Int) : bits .and .i64 n 3 = n % 4 := by
  have h3 : (BitVec.ofInt 64 3).toNat = 2 ^ 2 - 1 := by decide
  have key : (BitVec.ofInt 64 n &&& BitVec.ofInt 64 3).toNat = (n % ((2 ^ 64 : Nat) : Int)).toNat % 2 ^ 2 := by
    rw [BitVec.toNat_and, BitVec.toNat_ofInt, h3, Nat.and_two_pow_sub_one_eq_mod]
  show IntKind.i64.wrap ((BitVec.ofInt 64 n &&& BitVec.ofInt 64 3).toNat : Nat) = n % 4
  rw [key, IntKind.wrap_i64]
  omega
theorem and_kilo (n : Int) : bits .and .i64 n 1023 = n % 1024 := by
  have h3 : (BitVec.ofInt 64 1023).toNat = 2 ^ 10 - 1 := by decide
  have key : (BitVec.ofInt 64 n &&& BitVec.ofInt 64 1023).toNat = (n % ((2 ^ 64 : Nat) : Int)).toNat % 2 ^ 10 := by
    rw [BitVec.toNat_and, BitVec.toNat_ofInt, h3, Nat.and_two_pow_sub_one_eq_mod]
  show IntKind.i64.wrap ((BitVec.ofInt 64 n &&& BitVec.ofInt 64 1023).toNat : Nat) = n % 1024
  rw [key, IntKind.wrap_i64]
  omega

def agg4 (x : T4) : Value := .agg #[.int .i64 x.1, .int .i64 x.2.1, .string ⟨x.2.2.1.toArray⟩, .int .i64 x.2.2.2]
theorem agg4_eq (k a n : Int) (t : ByteArray) : agg4 (k, a, t.data.toList, n) = .agg #[.int .i64 k, .int .i64 a, .string t, .int .i64 n] := by
  unfold agg4
  rw [toArray_data]
theorem below4g {B g : Nat} {w w1 : World} {v0 v1 v2 v3 : Value} (hg : B ≤ g) (h : Below B w w1) : Below B w ((((w1.setCell ⟨g, 0, none⟩ v0).setCell ⟨g, 1, none⟩ v1).setCell ⟨g, 2, none⟩ v2).setCell ⟨g, 3, none⟩ v3) :=
  (((h.setCell (p := ⟨g, 0, none⟩) hg _).setCell (p := ⟨g, 1, none⟩) hg _).setCell (p := ⟨g, 2, none⟩) hg _).setCell (p := ⟨g, 3, none⟩) hg _
theorem box_heap (w : World) (A B : Obj) : ((w.alloc A).alloc B).heap[w.heap.size]? = some A := by
  rw [Below.heap_alloc (w.alloc A) B w.heap.size (by simp)]
  unfold World.alloc
  exact Array.getElem?_push_size
theorem box_cell (w : World) (A : Array Value) (T : TypeId) (B : Obj) (j : Nat) (v : Value) (h : A[j]? = some v) : ((w.alloc (.cells A T)).alloc B).cell? ⟨w.heap.size, j, none⟩ = some v := by
  unfold World.cell?
  rw [show (⟨w.heap.size, j, none⟩ : Addr).block = w.heap.size from rfl, box_heap]
  exact h
def arr7 : Array Value := #[.string ⟨#[120]⟩, .string ⟨#[95, 97, 49]⟩, .string ⟨#[78, 111, 110, 101]⟩, .string ⟨#[105, 102]⟩, .string ⟨#[108, 97, 109, 98, 100, 97]⟩, .string ⟨#[110, 111, 116, 120]⟩, .string ⟨#[90]⟩]
theorem arr7_list : arr7.toList = Sp.words7.map fun l => Value.string ⟨l.toArray⟩ := rfl

theorem fit4_0 {x : T4} (h : x.1 % 4 = 0) : Sp.fit4 x = (1, 0, if Sp.nm x.2.2.1 || Sp.kw x.2.2.1 then x.2.2.1 else Sp.words7.getD (x.2.2.1.length % 7) [], 0) := by unfold Sp.fit4; rw [if_pos h]
theorem fit4_1 {x : T4} (h : x.1 % 4 = 1) : Sp.fit4 x = (2, 0, [], x.2.2.2 % 9223372036854775808) := by unfold Sp.fit4; rw [if_neg (by omega), if_pos h]
theorem fit4_2 {x : T4} (h : x.1 % 4 = 2) : Sp.fit4 x = (3, 0, x.2.2.1, 0) := by unfold Sp.fit4; rw [if_neg (by omega), if_neg (by omega), if_pos h]
theorem fit4_3 {x : T4} (h : x.1 % 4 = 3) : Sp.fit4 x = (4, 0, Sp.refL.getD ((x.2.2.2 % 1024).toNat % 28) [], 0) := by unfold Sp.fit4; rw [if_neg (by omega), if_neg (by omega), if_neg (by omega)]

abbrev boxed (w : World) (k a n : Int) (t : ByteArray) : World := (w.alloc (Obj.cells #[.int .i64 k, .int .i64 a, .string t, .int .i64 n] 37)).alloc (Obj.cells #[.int .i64 0, .int .i64 0, .string ⟨#[]⟩, .int .i64 0] 37)
theorem boxed_below (w : World) (k a n : Int) (t : ByteArray) : Below w.heap.size w (boxed w k a n t) := ((Below.refl _ w).alloc (Nat.le_refl _) _).alloc (by simp) _
theorem boxed_blk (w : World) (k a n : Int) (t : ByteArray) : TokBlk (w.heap.size + 1) (boxed w k a n t) := by
  have h := TokBlk.fresh (w.alloc (Obj.cells #[.int .i64 k, .int .i64 a, .string t, .int .i64 n] 37)) (.int .i64 0) (.int .i64 0) (.string ⟨#[]⟩) (.int .i64 0)
  have e : (w.alloc (Obj.cells #[.int .i64 k, .int .i64 a, .string t, .int .i64 n] 37)).heap.size = w.heap.size + 1 := by simp
  rw [e] at h
  exact h
theorem boxed_size (w : World) (k a n : Int) (t : ByteArray) : (boxed w k a n t).heap.size = w.heap.size + 2 := by simp

set_option maxHeartbeats 8000000 in
set_option maxRecDepth 100000 in
theorem fitOne_any (k a n : Int) (t : ByteArray) (ht : t.size ≤ 9223372036854775807) (w : World) : Calls Tryz.prog 20 #[.agg #[.int .i64 k, .int .i64 a, .string t, .int .i64 n]] w fun e w' => e = .returned (agg4 (Sp.fit4 (k, a, t.data.toList, n))) ∧ Below w.heap.size w w' := by
  have hbel0 := boxed_below w k a n t
  have hblk0 := boxed_blk w k a n t
  have hsz0 := boxed_size w k a n t
  have hlt0 : w.heap.size < (boxed w k a n t).heap.size := by rw [hsz0]; omega
  have hlt1 : w.heap.size + 1 < (boxed w k a n t).heap.size := by rw [hsz0]; omega
  have hle0 : w.heap.size ≤ (boxed w k a n t).heap.size := Nat.le_of_lt hlt0
  have hcell0 := box_cell w #[.int .i64 k, .int .i64 a, .string t, .int .i64 n] 37 (Obj.cells #[.int .i64 0, .int .i64 0, .string ⟨#[]⟩, .int .i64 0] 37)
  have hk3 := and_three k
  have hm : k % 4 = 0 ∨ k % 4 = 1 ∨ k % 4 = 2 ∨ k % 4 = 3 := by omega
  rcases hm with hm | hm | hm | hm
  · rw [hm] at hk3
    obtain ⟨bn, HBN⟩ := hid_ex (Sp.nm t.data.toList)
    obtain ⟨bk, HBK⟩ := hid_ex (Sp.kw t.data.toList)
    have HF : Hid (Sp.fit4 (k, a, t.data.toList, n) = (1, 0, if bn || bk then t.data.toList else Sp.words7.getD (t.size % 7) [], 0)) := by
      show _ = _
      rw [fit4_0 hm]
      show (1, 0, if Sp.nm t.data.toList || Sp.kw t.data.toList then t.data.toList else Sp.words7.getD (t.data.toList.length % 7) [], 0) = _
      rw [HBN.out, HBK.out, size_list]
    rw [HF.out]
    clear hm
    cases bn with
    | true =>
      rw [show (1, 0, if (true || bk) = true then t.data.toList else Sp.words7.getD (t.size % 7) [], 0) = (((1, 0, t.data.toList, 0) : T4)) by simp, agg4_eq]
      go_enter Tryz.func20, Tryz.ntmps20
      go_wp2_with fail
      refine (rname_any t (by omega) _).mono ?_
      rintro e w1 ⟨rfl, hb1⟩
      rw [HBN.out]
      have p2 : w1.cell? ⟨w.heap.size, 2, none⟩ = some (.string t) := (hb1.cell (p := ⟨w.heap.size, 2, none⟩) hlt0).trans (hcell0 2 _ rfl)
      have hT1 := hblk0.below hb1 hlt1
      obtain ⟨c0, c1, c2, c3, f0, f1, f2, f3, z0, z1, z2, z3, hlt⟩ := hT1.facts
      have hbel1 := hbel0.trans (hb1.mono hle0)
      clear hb1 hbel0 hblk0 hT1 hcell0 hsz0
      go_wp2
      refine bodyPost_ret (v := .agg #[.int .i64 1, .int .i64 0, .string t, .int .i64 0]) (by simp [results, Tryz.results20, go_sem, f0, f1, f2, f3]) rfl ⟨rfl, below4g (by omega) hbel1⟩
    | false =>
      cases bk with
      | true =>
        rw [show (1, 0, if (false || true) = true then t.data.toList else Sp.words7.getD (t.size % 7) [], 0) = (((1, 0, t.data.toList, 0) : T4)) by simp, agg4_eq]
        go_enter Tryz.func20, Tryz.ntmps20
        go_wp2_with fail
        refine (rname_any t (by omega) _).mono ?_
        rintro e w1 ⟨rfl, hb1⟩
        rw [HBN.out]
        have p2 : w1.cell? ⟨w.heap.size, 2, none⟩ = some (.string t) := (hb1.cell (p := ⟨w.heap.size, 2, none⟩) hlt0).trans (hcell0 2 _ rfl)
        have hw1 : w.heap.size + 2 ≤ w1.heap.size := by have := hb1.size; rw [← hsz0]; exact this
        have hT1 := hblk0.below hb1 hlt1
        have hbel1 := hbel0.trans (hb1.mono hle0)
        clear hb1 hbel0 hblk0 hcell0 hsz0
        go_wp2_with fail
        refine (rkeyword_any t w1).mono ?_
        rintro e w2 ⟨rfl, hb2⟩
        rw [HBK.out]
        have q2 : w2.cell? ⟨w.heap.size, 2, none⟩ = some (.string t) := (hb2.cell (p := ⟨w.heap.size, 2, none⟩) (by show w.heap.size < _; omega)).trans p2
        have hT2 := hT1.below hb2 (by omega)
        obtain ⟨c0, c1, c2, c3, f0, f1, f2, f3, z0, z1, z2, z3, hlt⟩ := hT2.facts
        have hbel2 := hbel1.trans (hb2.mono hbel1.size)
        clear hb2 hbel1 hT1 hT2 p2
        go_wp2
        refine bodyPost_ret (v := .agg #[.int .i64 1, .int .i64 0, .string t, .int .i64 0]) (by simp [results, Tryz.results20, go_sem, f0, f1, f2, f3]) rfl ⟨rfl, below4g (by omega) hbel2⟩
      | false =>
        obtain ⟨y, HY⟩ := hid_ex (t.size % 7)
        have hy7 : y < 7 := by rw [← HY.out]; omega
        have hmy : (t.size : Int).tmod 7 = (y : Int) := by rw [← HY.out, Int.tmod_eq_emod_of_nonneg (by omega)]; omega
        have hey : (t.size : Int) % 7 = (y : Int) := by rw [← HY.out]; omega
        have hl7 : y < Sp.words7.length := hy7
        obtain ⟨l, hll⟩ : ∃ l, Sp.words7[y]? = some l := ⟨_, List.getElem?_eq_getElem hl7⟩
        have hgd : Sp.words7.getD (t.size % 7) [] = l := by rw [HY.out, List.getD_eq_getElem?_getD, hll]; rfl
        obtain ⟨tb, htb⟩ : ∃ tb : ByteArray, tb = ⟨l.toArray⟩ := ⟨_, rfl⟩
        have htl : tb.data.toList = l := by rw [htb]
        have hc7 := fun wx => text_cell wx arr7 Sp.words7 arr7_list y l hll
        rw [← htb] at hc7
        unfold arr7 at hc7
        rw [show (1, 0, if (false || false) = true then t.data.toList else Sp.words7.getD (t.size % 7) [], 0) = (((1, 0, tb.data.toList, 0) : T4)) by rw [hgd, htl]; simp, agg4_eq]
        clear HF HY hll hgd htb htl
        go_enter Tryz.func20, Tryz.ntmps20
        go_wp2_with fail
        refine (rname_any t (by omega) _).mono ?_
        rintro e w1 ⟨rfl, hb1⟩
        rw [HBN.out]
        have p2 : w1.cell? ⟨w.heap.size, 2, none⟩ = some (.string t) := (hb1.cell (p := ⟨w.heap.size, 2, none⟩) hlt0).trans (hcell0 2 _ rfl)
        have hw1 : w.heap.size + 2 ≤ w1.heap.size := by have := hb1.size; rw [← hsz0]; exact this
        have hT1 := hblk0.below hb1 hlt1
        have hbel1 := hbel0.trans (hb1.mono hle0)
        clear hb1 hbel0 hblk0 hcell0 hsz0
        go_wp2_with fail
        refine (rkeyword_any t w1).mono ?_
        rintro e w2 ⟨rfl, hb2⟩
        rw [HBK.out]
        have q2 : w2.cell? ⟨w.heap.size, 2, none⟩ = some (.string t) := (hb2.cell (p := ⟨w.heap.size, 2, none⟩) (by show w.heap.size < _; omega)).trans p2
        have hw2 : w.heap.size + 2 ≤ w2.heap.size := Nat.le_trans hw1 hb2.size
        have hT2 := hT1.below hb2 (by omega)
        have hbel2 := hbel1.trans (hb2.mono hbel1.size)
        have hb3 : Below w2.heap.size w2 (w2.alloc (Obj.cells #[.string ⟨#[120]⟩, .string ⟨#[95, 97, 49]⟩, .string ⟨#[78, 111, 110, 101]⟩, .string ⟨#[105, 102]⟩, .string ⟨#[108, 97, 109, 98, 100, 97]⟩, .string ⟨#[110, 111, 116, 120]⟩, .string ⟨#[90]⟩] 9)) := (Below.refl _ w2).alloc (Nat.le_refl _) _
        have hT3 := hT2.below hb3 (by omega)
        have q3 := (hb3.cell (p := ⟨w.heap.size, 2, none⟩) (by show w.heap.size < _; omega)).trans q2
        have hbel3 := hbel2.trans (hb3.mono hbel2.size)
        have hc := hc7 w2
        clear hb2 hbel1 hT1 hT2 p2 hb3 hc7 hbel2
        obtain ⟨c0, c1, c2, c3, f0, f1, f2, f3, z0, z1, z2, z3, hlt⟩ := hT3.facts
        clear hT3
        go_wp2
        refine bodyPost_ret (v := .agg #[.int .i64 1, .int .i64 0, .string tb, .int .i64 0]) (by simp [results, Tryz.results20, go_sem, f0, f1, f2, f3]) rfl ⟨rfl, below4g (by omega) hbel3⟩
  · rw [hm] at hk3
    have HF : Hid (Sp.fit4 (k, a, t.data.toList, n) = (2, 0, (⟨#[]⟩ : ByteArray).data.toList, n % 9223372036854775808)) := by show _ = _; rw [fit4_1 hm]
    rw [HF.out, agg4_eq]
    have hmax := and_max n
    clear hm HF hblk0 hcell0 hsz0
    go_enter Tryz.func20, Tryz.ntmps20
    go_wp2
    refine bodyPost_ret (v := .agg #[.int .i64 2, .int .i64 0, .string ⟨#[]⟩, .int .i64 (n % 9223372036854775808)]) (by simp [results, Tryz.results20, go_sem]) rfl ⟨rfl, ?_⟩
    first | exact ((Below.refl _ w).alloc (Nat.le_refl _) _).alloc (by simp) _ | exact below4g (by omega) hbel0
  · rw [hm] at hk3
    have HF : Hid (Sp.fit4 (k, a, t.data.toList, n) = (3, 0, t.data.toList, 0)) := by show _ = _; rw [fit4_2 hm]
    rw [HF.out, agg4_eq]
    clear hm HF hblk0 hcell0 hsz0
    go_enter Tryz.func20, Tryz.ntmps20
    go_wp2
    refine bodyPost_ret (v := .agg #[.int .i64 3, .int .i64 0, .string t, .int .i64 0]) (by simp [results, Tryz.results20, go_sem]) rfl ⟨rfl, ?_⟩
    first | exact ((Below.refl _ w).alloc (Nat.le_refl _) _).alloc (by simp) _ | exact below4g (by omega) hbel0
  · rw [hm] at hk3
    have hkilo := and_kilo n
    obtain ⟨z, HZ⟩ := hid_ex ((n % 1024).toNat)
    have hz : n % 1024 = (z : Int) := by rw [← HZ.out]; omega
    rw [hz] at hkilo
    obtain ⟨y, HY⟩ := hid_ex (z % 28)
    have hy28 : y < 28 := by rw [← HY.out]; omega
    have hmy : (z : Int).tmod 28 = (y : Int) := by rw [← HY.out, Int.tmod_eq_emod_of_nonneg (by omega)]; omega
    have hey : (z : Int) % 28 = (y : Int) := by rw [← HY.out]; omega
    have hl28 : y < Sp.refL.length := hy28
    obtain ⟨l, hll⟩ : ∃ l, Sp.refL[y]? = some l := ⟨_, List.getElem?_eq_getElem hl28⟩
    have hgd : Sp.refL.getD ((n % 1024).toNat % 28) [] = l := by rw [HZ.out, HY.out, List.getD_eq_getElem?_getD, hll]; rfl
    obtain ⟨tb, htb⟩ : ∃ tb : ByteArray, tb = ⟨l.toArray⟩ := ⟨_, rfl⟩
    have htl : tb.data.toList = l := by rw [htb]
    have HF : Hid (Sp.fit4 (k, a, t.data.toList, n) = (4, 0, tb.data.toList, 0)) := by show _ = _; rw [fit4_3 hm]; show (4, 0, Sp.refL.getD ((n % 1024).toNat % 28) [], 0) = _; rw [hgd, htl]
    rw [HF.out, agg4_eq]
    clear hm HF HZ HY hgd htl hz
    go_enter Tryz.func20, Tryz.ntmps20
    go_wp2_with fail
    refine (ops_ref _).mono ?_
    rintro e w1 ⟨rfl, hw1⟩
    have hc := text_cell (boxed w k a n t) refArr Sp.refL ref_list y l hll
    have hb1 : Below (boxed w k a n t).heap.size (boxed w k a n t) w1 := by rw [hw1]; exact (Below.refl _ _).alloc (Nat.le_refl _) _
    rw [← hw1, ← htb] at hc
    simp only [boxed_size] at hc
    have p3 : w1.cell? ⟨w.heap.size, 3, none⟩ = some (.int .i64 n) := (hb1.cell (p := ⟨w.heap.size, 3, none⟩) hlt0).trans (hcell0 3 _ rfl)
    have hT1 := hblk0.below hb1 hlt1
    obtain ⟨c0, c1, c2, c3, f0, f1, f2, f3, z0, z1, z2, z3, hlt⟩ := hT1.facts
    have hbel1 := hbel0.trans (hb1.mono hle0)
    clear hb1 hbel0 hblk0 hT1 hcell0 hsz0 hw1 hll htb
    go_wp2
    refine bodyPost_ret (v := .agg #[.int .i64 4, .int .i64 0, .string tb, .int .i64 0]) (by simp [results, Tryz.results20, go_sem, f0, f1, f2, f3]) rfl ⟨rfl, below4g (by omega) hbel1⟩

set_option maxHeartbeats 4000000 in
theorem text_any (k a n : Int) (t : ByteArray) (ht : t.size ≤ 1000) (hn : k = 2 → 0 ≤ n ∧ n < 9223372036854775808) (w : World) : Calls Tryz.prog 21 #[.agg #[.int .i64 k, .int .i64 a, .string t, .int .i64 n]] w fun e w' => e = .returned (.string ⟨(Sp.textB (k, a, t.data.toList, n)).toArray⟩) ∧ Below w.heap.size w w' := by
  have hbel0 : Below w.heap.size w (w.alloc (Obj.cells #[.int .i64 k, .int .i64 a, .string t, .int .i64 n] 37)) := (Below.refl _ w).alloc (Nat.le_refl _) _
  by_cases h2 : k = 2
  · obtain ⟨hn0, hn1⟩ := hn h2
    subst h2
    obtain ⟨m, rfl⟩ : ∃ m : Nat, n = (m : Int) := ⟨n.toNat, by omega⟩
    have HT : Hid (Sp.textB (2, a, t.data.toList, (m : Int)) = Sp.dec m) := by show _ = _; show Sp.dec (m : Int).toNat = _; rw [Int.toNat_natCast]
    rw [HT.out]
    clear hn HT
    go_enter Tryz.func21, Tryz.ntmps21
    go_wp2_with fail
    refine (decimal_any m (by omega) _).mono ?_
    rintro e w1 ⟨rfl, hb1⟩
    have hbel1 := hbel0.trans (hb1.mono (by simp))
    go_wp2_with fail
    go_ret
    exact ⟨rfl, hbel1⟩
  · have g2 : (k == 2) = false := by simp; exact h2
    by_cases h3 : k = 3
    · subst h3
      have HT : Hid (Sp.textB (3, a, t.data.toList, n) = Sp.quote t.data.toList) := rfl
      rw [HT.out]
      clear hn HT h2
      go_enter Tryz.func21, Tryz.ntmps21
      go_wp2_with fail
      refine (rquote_any t (by omega) _).mono ?_
      rintro e w1 ⟨rfl, hb1⟩
      have hbel1 := hbel0.trans (hb1.mono (by simp))
      go_wp2_with fail
      go_ret
      exact ⟨rfl, hbel1⟩
    · have g3 : (k == 3) = false := by simp; exact h3
      have HT : Hid (Sp.textB (k, a, t.data.toList, n) = t.data.toList) := by
        show _ = _
        unfold Sp.textB
        rw [if_neg h2, if_neg h3]
      rw [HT.out, toArray_data]
      clear hn HT h2 h3
      go_enter Tryz.func21, Tryz.ntmps21
      go_wp2_with fail
      go_ret
      exact ⟨rfl, hbel0⟩
end Go.Proofs.YtbdjccmcdifjcaaGreatDoor

set_option linter.unusedVariables false
set_option linter.unusedSimpArgs false
namespace Go.Proofs.YtbdjccmcdifjcaaGreatDoor
open Go.RowKit Go.Shelf

/-- A row of tokens that came in. -/
def Arg4 (v : Value) (l : List T4) (w : World) : Prop := ∃ pa cap, v = .slice pa l.length cap ∧ ∀ k x, l[k]? = some x → ∃ g o, pa = some ⟨g, o, none⟩ ∧ g < w.heap.size ∧
    w.cell? ⟨g, o + k * 4, none⟩ = some (.int .i64 x.1) ∧ w.cell? ⟨g, o + k * 4 + 1, none⟩ = some (.int .i64 x.2.1) ∧ w.cell? ⟨g, o + k * 4 + 2, none⟩ = some (.string ⟨x.2.2.1.toArray⟩) ∧ w.cell? ⟨g, o + k * 4 + 3, none⟩ = some (.int .i64 x.2.2.2)
theorem Arg4.below {v : Value} {l : List T4} {w w' : World} (h : Arg4 v l w) (hb : Below w.heap.size w w') : Arg4 v l w' := by
  obtain ⟨pa, cap, e, hc⟩ := h
  refine ⟨pa, cap, e, fun k x hx => ?_⟩
  obtain ⟨g, o, e2, hg, a0, a1, a2, a3⟩ := hc k x hx
  exact ⟨g, o, e2, Nat.lt_of_lt_of_le hg hb.size, (hb.cell (p := ⟨g, _, none⟩) hg).trans a0, (hb.cell (p := ⟨g, _, none⟩) hg).trans a1, (hb.cell (p := ⟨g, _, none⟩) hg).trans a2, (hb.cell (p := ⟨g, _, none⟩) hg).trans a3⟩

end Go.Proofs.YtbdjccmcdifjcaaGreatDoor

set_option linter.unusedVariables false
set_option linter.unusedSimpArgs false
namespace Go.Proofs.YtbdjccmcdifjcaaGreatDoor
open Go.RowKit Go.Shelf
namespace Sp

/-- A line's data: its indentation, its tokens, whether it is empty, its comment. -/
abbrev LineD := Int × List T4 × Bool × Bs
def wide (n : Int) : Nat := ((n % 65536) % 12).toNat
theorem wide_lt (n : Int) : wide n < 12 := by unfold wide; omega
def keep8 (x : T4) : Bool := decide (x.2.2.1.length ≤ 20) && decide (bk x = 0)
def bodyL (toks : List T4) : List T4 := ((toks.take 8).map fit4).filter keep8
def cmtL (c : Bs) : Bs := (c.take 20).filter (fun b => decide (¬ b.toNat = 10))
def cmt (c : Bs) : Bs := if c = [] then [] else 35 :: cmtL c
def on1 (F : List T4) : List (Nat × T4) := F.map fun x => (0, x)
def core (x : LineD) : Bs := if x.2.2.1 then cmt x.2.2.2 else 120 :: (lineB (on1 (bodyL x.2.1)) ++ 32 :: cmt x.2.2.2)
/-- A line with so many blanks ahead. -/
def ln (n : Nat) (x : LineD) : Bs := List.replicate n 32 ++ core x
def txt (x : LineD) : Bs := ln (wide x.1) x
def tkx : Tk := ⟨1, [120], 0, 1⟩
/-- The tokens of a line, by places from its first byte that is no blank. -/
def coreT (x : LineD) : List (Nat × Tk) := if x.2.2.1 then [] else (0, tkx) :: toksB 1 (on1 (bodyL x.2.1))

theorem fit4_good' (x : T4) (h : (fit4 x).2.2.1.length ≤ 20) : good (fit4 x) := by
  unfold fit4 at h ⊢
  split
  · rename_i h0
    rw [if_pos h0] at h
    refine Or.inl ⟨rfl, ?_, rfl, h⟩
    show wordy (if nm x.2.2.1 || kw x.2.2.1 then x.2.2.1 else words7.getD (x.2.2.1.length % 7) []) = true
    split
    · rename_i hk; rw [wordy_eq]; exact hk
    · have hlt : x.2.2.1.length % 7 < words7.length := Nat.mod_lt _ (by decide)
      rw [List.getD_eq_getElem?_getD, List.getElem?_eq_getElem hlt]
      have := List.all_eq_true.1 words7_wordy _ (List.getElem_mem hlt)
      simp only [Bool.and_eq_true] at this
      exact this.1
  · rename_i h0
    rw [if_neg h0] at h
    split
    · refine Or.inr (Or.inl ⟨rfl, rfl, ?_, ?_⟩)
      · show 0 ≤ x.2.2.2 % 9223372036854775808; omega
      · show x.2.2.2 % 9223372036854775808 < 9223372036854775808; omega
    · rename_i h1
      rw [if_neg h1] at h
      split
      · rename_i h2
        rw [if_pos h2] at h
        exact Or.inr (Or.inr (Or.inl ⟨rfl, h, rfl⟩))
      · refine Or.inr (Or.inr (Or.inr ⟨rfl, ?_, rfl⟩))
        have hlt : (x.2.2.2 % 1024).toNat % 28 < refL.length := Nat.mod_lt _ (by decide)
        show refL.getD ((x.2.2.2 % 1024).toNat % 28) [] ∈ refL
        rw [List.getD_eq_getElem?_getD, List.getElem?_eq_getElem hlt]
        exact List.getElem_mem hlt
theorem body_good (toks : List T4) : (bodyL toks).length ≤ 8 ∧ ∀ x ∈ bodyL toks, good x ∧ bk x = 0 := by
  unfold bodyL
  refine ⟨?_, ?_⟩
  · have := List.length_filter_le keep8 ((toks.take 8).map fit4)
    rw [List.length_map, List.length_take] at this
    omega
  · intro x hx
    obtain ⟨h1, h2⟩ := List.mem_filter.1 hx
    unfold keep8 at h2
    simp only [Bool.and_eq_true, decide_eq_true_eq] at h2
    obtain ⟨y, _, rfl⟩ := List.mem_map.1 h1
    exact ⟨fit4_good' y h2.1, h2.2⟩
theorem on1_good {F : List T4} (h : ∀ x ∈ F, good x ∧ bk x = 0) : ∀ x ∈ on1 F, good x.2 := by
  intro x hx
  obtain ⟨y, hy, rfl⟩ := List.mem_map.1 hx
  exact (h y hy).1
theorem lexAt_cmt (pos : Nat) (c : Bs) : lexAt pos (cmt c) = .ok [] := by
  unfold cmt
  split
  · exact lexAt_nil pos
  · exact lexAt_hash pos 35 _ (by decide)
theorem lexAt_core (x : LineD) : lex (core x) = .ok (coreT x) := by
  unfold lex core coreT
  cases x.2.2.1 with
  | true => exact lexAt_cmt 0 _
  | false =>
    rw [if_neg (by simp), if_neg (by simp)]
    have hu : stopB (32 :: cmt x.2.2.2) := stop_blank _
    have hg := on1_good (body_good x.2.1).2
    have hs := lineB_stop hu (on1 (bodyL x.2.1))
    obtain ⟨c, r, e, n1, n2, ht⟩ := tok1_good (x := ((1, 0, [120], 0) : T4)) (Or.inl ⟨rfl, by decide, rfl, by decide⟩) hs
    have ht' : tok1 (120 :: (lineB (on1 (bodyL x.2.1)) ++ 32 :: cmt x.2.2.2)) = .ok tkx := ht
    have hstep := lexAt_tok 0 120 (lineB (on1 (bodyL x.2.1)) ++ 32 :: cmt x.2.2.2) (by decide) (by decide) _ ht'
    rw [hstep]
    show ahead [(0, tkx)] (lexAt 1 (lineB (on1 (bodyL x.2.1)) ++ 32 :: cmt x.2.2.2)) = _
    rw [lexAt_line hu _ 1 hg, lexAt_blank _ _ _ (by decide), lexAt_cmt]
    simp [ahead]
theorem brk_zeros (q : Int) : ∀ (ts : List (Nat × Tk)) (o : List T4), (∀ x ∈ ts, bk (abs4 q x) = 0) → brk o (ts.map (abs4 q)) = .ok o
  | [], o, _ => by cases o <;> rfl
  | x :: ts, o, h => by
    rw [List.map_cons, brk_zero (h x (by simp))]
    exact brk_zeros q ts o fun y hy => h y (by simp [hy])
theorem toksB_bk (q : Int) : ∀ (F : List T4) (pos : Nat), (∀ x ∈ F, bk x = 0) → ∀ x ∈ toksB pos (on1 F), bk (abs4 q x) = 0
  | [], pos, _, x, hx => by cases hx
  | y :: F, pos, h, x, hx => by
    have e : on1 (y :: F) = (0, y) :: on1 F := rfl
    rw [e, toksB] at hx
    rcases List.mem_cons.1 hx with rfl | hx
    · exact h y (by simp)
    · exact toksB_bk q F _ (fun z hz => h z (by simp [hz])) x hx
theorem brk_core (x : LineD) (q : Int) (o : List T4) : brk o ((coreT x).map (abs4 q)) = .ok o := by
  apply brk_zeros
  unfold coreT
  split
  · intro y hy; cases hy
  · intro y hy
    rcases List.mem_cons.1 hy with rfl | hy
    · rfl
    · exact toksB_bk q _ 1 (fun z hz => ((body_good x.2.1).2 z hz).2) y hy

theorem core_head (x : LineD) : core x = [] ∨ ∃ c r, core x = c :: r ∧ ¬ c.toNat = 32 := by
  unfold core
  split
  · unfold cmt
    split
    · exact Or.inl rfl
    · exact Or.inr ⟨35, _, rfl, by decide⟩
  · exact Or.inr ⟨120, _, rfl, by decide⟩
theorem blanks_ahead {l : Bs} (h : l = [] ∨ ∃ c r, l = c :: r ∧ ¬ c.toNat = 32) : ∀ n : Nat, blanksOf (List.replicate n 32 ++ l) = n
  | 0 => by
    rw [List.replicate_zero, List.nil_append]
    rcases h with rfl | ⟨c, r, rfl, hc⟩
    · rfl
    · rw [blanksOf, if_neg hc]
  | n + 1 => by rw [List.replicate_succ, List.cons_append, blanksOf, if_pos (by decide), blanks_ahead h n]
theorem blanks_ln (n : Nat) (x : LineD) : blanksOf (ln n x) = n := blanks_ahead (core_head x) n
theorem drop_ln (n : Nat) (x : LineD) : (ln n x).drop n = core x := by
  unfold ln
  rw [List.drop_left' (List.length_replicate)]

theorem step_empty {st : LS} (ho : st.opn = []) (p n : Nat) {x : LineD} (hx : x.2.2.1 = true) : lineStep st (p, ln n x) = .ok st := by
  unfold lineStep
  rw [if_pos ho]
  simp only [blanks_ln, drop_ln]
  unfold core
  rw [hx, if_pos rfl]
  unfold cmt
  split
  · rename_i h; split at h
    · rfl
    · cases h
  · rename_i c r h
    split at h
    · cases h
    · cases h; simp
theorem rest_ln (st : LS) (m : List T4) (b : List Nat) (p n : Nat) (x : LineD) : lineRest st m b (p, ln n x) = .ok ⟨st.out ++ m ++ (coreT x).map (abs4 ((p + n : Nat) : Int)) ++ (if st.opn = [] then [mark 5 ((p + (ln n x).length : Nat) : Int)] else []), st.opn, b⟩ := by
  unfold lineRest
  simp only [blanks_ln, drop_ln, lexAt_core, brk_core]
theorem step_full {st : LS} (ho : st.opn = []) (p n : Nat) {x : LineD} (hx : x.2.2.1 = false) : lineStep st (p, ln n x) = match indent st.blk n ((p + n : Nat) : Int) with
    | .error e => .error e
    | .ok (m, b) => .ok ⟨st.out ++ m ++ (coreT x).map (abs4 ((p + n : Nat) : Int)) ++ [mark 5 ((p + (ln n x).length : Nat) : Int)], [], b⟩ := by
  unfold lineStep
  rw [if_pos ho]
  simp only [blanks_ln, drop_ln, rest_ln]
  have : core x = 120 :: (lineB (on1 (bodyL x.2.1)) ++ 32 :: cmt x.2.2.2) := by
    unfold core
    rw [hx, if_neg (by simp)]
  rw [this]
  simp only
  rw [if_neg (by decide), ho, if_pos rfl]
  cases indent st.blk n ((p + n : Nat) : Int) with
  | error e => rfl
  | ok mb => rfl
theorem step_within {st : LS} (ho : st.opn ≠ []) (p n : Nat) (x : LineD) : lineStep st (p, ln n x) = .ok ⟨st.out ++ (coreT x).map (abs4 ((p + n : Nat) : Int)), st.opn, st.blk⟩ := by
  unfold lineStep
  rw [if_neg ho, rest_ln, if_neg ho]
  simp

theorem wd_no10 {c : UInt8} (h : isWd c = true) : ¬ c.toNat = 10 := by
  intro e
  unfold isWd isLet isDig at h
  simp at h
  omega
theorem word_no10 : ∀ l : Bs, wordLen l = l.length → ∀ c ∈ l, ¬ c.toNat = 10
  | [], _, c, hc => by cases hc
  | d :: l, h, c, hc => by
    rw [wordLen] at h
    split at h
    · rename_i hd
      rcases List.mem_cons.1 hc with rfl | hc
      · exact wd_no10 hd
      · exact word_no10 l (by simpa using h) c hc
    · simp at h
theorem digs_no10 {l : Bs} (h : digs l) : ∀ c ∈ l, ¬ c.toNat = 10 := by
  intro c hc
  have := h c hc
  omega
theorem ref_no10 : refL.all (fun l => l.all fun c => decide (¬ c.toNat = 10)) = true := by decide
theorem textB_no10 {x : T4} (h : good x) : ∀ c ∈ textB x, ¬ c.toNat = 10 := by
  obtain ⟨k, a, t, n⟩ := x
  rcases h with ⟨h1, h2, h3, _⟩ | ⟨h1, h2, h3, h4⟩ | ⟨h1, h2, h3⟩ | ⟨h1, h2, h3⟩
  · simp only at h1 h2 h3
    subst h1
    show ∀ c ∈ t, _
    apply word_no10
    cases t with
    | nil => rfl
    | cons c r =>
      have : (isLet c && decide (wordLen (c :: r) = (c :: r).length)) = true := h2
      simp only [Bool.and_eq_true, decide_eq_true_eq] at this
      exact this.2
  · simp only at h1 h2 h3 h4
    subst h1
    show ∀ c ∈ dec n.toNat, _
    obtain ⟨c, r, e2, hd, _⟩ := dec_said n.toNat (by omega)
    rw [e2]
    exact digs_no10 hd
  · simp only at h1
    subst h1
    show ∀ c ∈ quote t, _
    intro c hc
    have := (quote_bounds t).2.2 c hc
    omega
  · simp only at h1 h2
    subst h1
    show ∀ c ∈ t, _
    intro c hc
    have := List.all_eq_true.1 (List.all_eq_true.1 ref_no10 t h2) c hc
    simpa using this
theorem lineB_no10 : ∀ xs : List (Nat × T4), (∀ x ∈ xs, good x.2) → ∀ c ∈ lineB xs, ¬ c.toNat = 10
  | [], _, c, hc => by cases hc
  | (b, x) :: xs, h, c, hc => by
    rw [lineB] at hc
    rcases List.mem_append.1 hc with hc | hc
    · rw [(List.mem_replicate.1 hc).2]; decide
    · rcases List.mem_append.1 hc with hc | hc
      · exact textB_no10 (h (b, x) (by simp)) c hc
      · exact lineB_no10 xs (fun y hy => h y (by simp [hy])) c hc
theorem cmt_no10 (l : Bs) : ∀ c ∈ cmt l, ¬ c.toNat = 10 := by
  intro c hc
  unfold cmt at hc
  split at hc
  · cases hc
  · rcases List.mem_cons.1 hc with rfl | hc
    · decide
    · have := (List.mem_filter.1 hc).2
      simpa using this
theorem core_no10 (x : LineD) : ∀ c ∈ core x, ¬ c.toNat = 10 := by
  intro c hc
  unfold core at hc
  split at hc
  · exact cmt_no10 _ c hc
  · rcases List.mem_cons.1 hc with rfl | hc
    · decide
    · rcases List.mem_append.1 hc with hc | hc
      · exact lineB_no10 _ (on1_good (body_good x.2.1).2) c hc
      · rcases List.mem_cons.1 hc with rfl | hc
        · decide
        · exact cmt_no10 _ c hc
theorem ln_no10 (n : Nat) (x : LineD) : ∀ c ∈ ln n x, ¬ c.toNat = 10 := by
  intro c hc
  unfold ln at hc
  rcases List.mem_append.1 hc with hc | hc
  · rw [(List.mem_replicate.1 hc).2]; decide
  · exact core_no10 x c hc
theorem lineB_size : ∀ xs : List T4, (∀ x ∈ xs, good x ∧ bk x = 0) → (lineB (on1 xs)).length ≤ 83 * xs.length
  | [], _ => Nat.le_refl _
  | x :: xs, h => by
    have e : on1 (x :: xs) = (0, x) :: on1 xs := rfl
    rw [e, lineB]
    have h1 := (textB_len (h x (by simp)).1).2
    have h2 := lineB_size xs fun y hy => h y (by simp [hy])
    simp only [List.length_append, List.length_replicate, List.length_cons]
    omega
theorem cmt_size (l : Bs) : (cmt l).length ≤ 21 := by
  unfold cmt cmtL
  split
  · simp
  · have := List.length_filter_le (fun b : UInt8 => decide (¬ b.toNat = 10)) (l.take 20)
    rw [List.length_take] at this
    rw [List.length_cons]
    omega
theorem core_size (x : LineD) : (core x).length ≤ 687 := by
  unfold core
  have h1 := cmt_size x.2.2.2
  split
  · omega
  · obtain ⟨h2, h3⟩ := body_good x.2.1
    have h4 := lineB_size _ h3
    simp only [List.length_append, List.length_cons]
    omega
theorem ln_size (n : Nat) (x : LineD) : (ln n x).length ≤ n + 687 := by
  unfold ln
  have := core_size x
  simp only [List.length_append, List.length_replicate]
  omega

/-- A line that ends. -/
theorem linesGo_line : ∀ (l : Bs) (start : Nat) (cur : Bs) (pos : Nat) (r : Bs), (∀ c ∈ l, ¬ c.toNat = 10) → linesGo start cur pos (l ++ 10 :: r) = (start, cur ++ l) :: linesGo (pos + l.length + 1) [] (pos + l.length + 1) r
  | [], start, cur, pos, r, _ => by
    rw [List.nil_append, linesGo, if_pos (by decide)]
    simp
  | c :: l, start, cur, pos, r, h => by
    rw [List.cons_append, linesGo, if_neg (h c (by simp)), linesGo_line l _ _ _ r (fun d hd => h d (by simp [hd]))]
    simp only [List.append_assoc, List.singleton_append, List.length_cons]
    congr 2 <;> omega
theorem linesGo_last : ∀ (l : Bs) (start : Nat) (cur : Bs) (pos : Nat), (∀ c ∈ l, ¬ c.toNat = 10) → linesGo start cur pos l = [(start, cur ++ l)]
  | [], start, cur, pos, _ => by rw [linesGo]; simp
  | c :: l, start, cur, pos, h => by
    rw [linesGo, if_neg (h c (by simp)), linesGo_last l _ _ _ (fun d hd => h d (by simp [hd]))]
    simp
/-- Lines, each with so many blanks ahead, each of which ends. -/
def srcL (xs : List (Nat × LineD)) : Bs := xs.flatMap fun x => ln x.1 x.2 ++ [10]
def linesOf : Nat → List (Nat × LineD) → List (Nat × Bs)
  | p, [] => [(p, [])]
  | p, x :: xs => (p, ln x.1 x.2) :: linesOf (p + (ln x.1 x.2).length + 1) xs
theorem linesGo_src : ∀ (xs : List (Nat × LineD)) (p : Nat), linesGo p [] p (srcL xs) = linesOf p xs
  | [], p => rfl
  | x :: xs, p => by
    have e : srcL (x :: xs) = ln x.1 x.2 ++ 10 :: srcL xs := by unfold srcL; simp
    rw [e, linesGo_line _ _ _ _ _ (ln_no10 _ _), linesGo_src xs, linesOf]
    rfl
theorem linesL_src (xs : List (Nat × LineD)) : linesL (srcL xs) = linesOf 0 xs := linesGo_src xs 0
theorem srcL_size : ∀ (xs : List (Nat × LineD)) (k : Nat), (∀ x ∈ xs, x.1 ≤ k) → (srcL xs).length ≤ (k + 688) * xs.length
  | [], k, _ => Nat.zero_le _
  | x :: xs, k, h => by
    have e : srcL (x :: xs) = ln x.1 x.2 ++ 10 :: srcL xs := by unfold srcL; simp
    have h1 := ln_size x.1 x.2
    have h2 := srcL_size xs k fun y hy => h y (by simp [hy])
    have h3 := h x (by simp)
    rw [e, List.length_append, List.length_cons, List.length_cons, Nat.mul_add]
    omega
/-- A line alone. -/
theorem layL_one {x : LineD} (hx : x.2.2.1 = false) : layL (ln 0 x) = .ok ((coreT x).map (abs4 0) ++ [mark 5 ((ln 0 x).length : Int), mark 8 ((ln 0 x).length : Int)]) := by
  unfold layL linesL
  rw [linesGo_last _ _ _ _ (ln_no10 0 x), runL, List.nil_append, step_full rfl 0 0 hx]
  have : indent st0.blk 0 ((0 + 0 : Nat) : Int) = .ok ([], [0]) := rfl
  rw [this]
  simp only [runL, finish]
  simp [st0]
end Sp
end Go.Proofs.YtbdjccmcdifjcaaGreatDoor

set_option linter.unusedVariables false
set_option linter.unusedSimpArgs false
namespace Go.Proofs.YtbdjccmcdifjcaaGreatDoor
open Go.RowKit Go.Shelf
namespace Sp

def fin2 (n : Nat) (st : LS) (ls : List (Nat × Bs)) : Except (Int × Int) (List T4) :=
  match runL st ls with
  | .error e => .error e
  | .ok st => finish n st
theorem fin2_cons_ok {n : Nat} {st st' : LS} {x : Nat × Bs} {ls : List (Nat × Bs)} (h : lineStep st x = .ok st') : fin2 n st (x :: ls) = fin2 n st' ls := by
  unfold fin2
  rw [runL, h]
theorem fin2_cons_error {n : Nat} {st : LS} {x : Nat × Bs} {ls : List (Nat × Bs)} {e : Int × Int} (h : lineStep st x = .error e) : fin2 n st (x :: ls) = .error e := by
  unfold fin2
  rw [runL, h]
theorem layL_src (xs : List (Nat × LineD)) : layL (srcL xs) = fin2 (srcL xs).length st0 (linesOf 0 xs) := by
  unfold layL fin2
  rw [linesL_src]
  cases runL st0 (linesOf 0 xs) <;> rfl
/-- The last line of a source whose lines all end: nothing. -/
theorem fin2_last {st : LS} (ho : st.opn = []) (n p : Nat) : fin2 n st [(p, [])] = .ok (st.out ++ List.replicate (st.blk.length - 1) (mark 7 (n : Int)) ++ [mark 8 (n : Int)]) := by
  have h : lineStep st (p, []) = .ok st := by
    unfold lineStep
    rw [if_pos ho]
    rfl
  rw [fin2_cons_ok h]
  unfold fin2 finish
  simp only [runL, ho]

theorem coreT_kind (x : LineD) (q : Int) : ∀ t ∈ (coreT x).map (abs4 q), 1 ≤ t.1 ∧ t.1 ≤ 4 := by
  have key : ∀ (F : List T4) (pos : Nat), (∀ y ∈ F, good y ∧ bk y = 0) → ∀ z ∈ toksB pos (on1 F), 1 ≤ z.2.kind ∧ z.2.kind ≤ 4 := by
    intro F
    induction F with
    | nil => intro pos _ z hz; cases hz
    | cons y F ih =>
      intro pos h z hz
      have e : on1 (y :: F) = (0, y) :: on1 F := rfl
      rw [e, toksB] at hz
      rcases List.mem_cons.1 hz with rfl | hz
      · have hg := (h y (by simp)).1
        show 1 ≤ y.1 ∧ y.1 ≤ 4
        rcases hg with ⟨h, _⟩ | ⟨h, _⟩ | ⟨h, _⟩ | ⟨h, _⟩ <;> omega
      · exact ih _ (fun w hw => h w (by simp [hw])) z hz
  intro t ht
  obtain ⟨z, hz, rfl⟩ := List.mem_map.1 ht
  show 1 ≤ z.2.kind ∧ z.2.kind ≤ 4
  unfold coreT at hz
  split at hz
  · cases hz
  · rcases List.mem_cons.1 hz with rfl | hz
    · exact ⟨by decide, by decide⟩
    · exact key _ 1 (body_good x.2.1).2 z hz

/-- How many tokens of a kind. -/
def cnt (k : Int) (ts : List T4) : Nat := (ts.filter fun t => decide (t.1 = k)).length
theorem cnt_append (k : Int) (a b : List T4) : cnt k (a ++ b) = cnt k a + cnt k b := by unfold cnt; rw [List.filter_append, List.length_append]
theorem cnt_none {k : Int} {ts : List T4} (h : ∀ t ∈ ts, ¬ t.1 = k) : cnt k ts = 0 := by
  unfold cnt
  rw [List.length_eq_zero_iff, List.filter_eq_nil_iff]
  intro t ht
  simpa using h t ht
theorem cnt_core (x : LineD) (q k : Int) (hk : ¬ (1 ≤ k ∧ k ≤ 4)) : cnt k ((coreT x).map (abs4 q)) = 0 := cnt_none fun t ht e => hk (by rw [← e]; exact coreT_kind x q t ht)
theorem cnt_marks (k j : Int) (n : Nat) (q : Int) (h : ¬ j = k) : cnt k (List.replicate n (mark j q)) = 0 := cnt_none fun t ht => by rw [(List.mem_replicate.1 ht).2]; exact h
theorem cnt_le (k : Int) (ts : List T4) : cnt k ts ≤ ts.length := List.length_filter_le _ _

theorem pops_head {n : Nat} {blk : List Nat} (h : (pops n blk).1.headD 0 = n) : (pops n blk).1.headD 0 = n := h
theorem indent_ok {blk : List Nat} {n : Nat} {q : Int} {m : List T4} {b : List Nat} (h : indent blk n q = .ok (m, b)) : b.headD 0 = n ∧ cnt 5 m = 0 ∧ cnt 6 m = if blk.headD 0 < n then 1 else 0 := by
  unfold indent at h
  split at h
  · rename_i h1
    cases h
    rw [if_pos h1]
    exact ⟨rfl, rfl, rfl⟩
  · rename_i h1
    split at h
    · rename_i h2
      cases h
      rw [if_neg h1]
      exact ⟨h2, cnt_marks _ _ _ _ (by decide), cnt_marks _ _ _ _ (by decide)⟩
    · cases h
theorem indent_error {blk : List Nat} {n : Nat} {q : Int} {e : Int × Int} (h : indent blk n q = .error e) : e = (q, 20) := by
  unfold indent at h
  split at h
  · cases h
  · split at h
    · cases h
    · cases h; rfl

/-- How many lines have tokens; how many are farther in than the last one that has some. -/
def full (xs : List (Nat × LineD)) : Nat := (xs.filter fun x => !x.2.2.2.1).length
def insF : Nat → List (Nat × LineD) → Nat
  | _, [] => 0
  | was, x :: xs => if x.2.2.2.1 then insF was xs else (if was < x.1 then 1 else 0) + insF x.1 xs
def wasF : Nat → List (Nat × LineD) → Nat
  | was, [] => was
  | was, x :: xs => if x.2.2.2.1 then wasF was xs else wasF x.1 xs
theorem full_snoc (xs : List (Nat × LineD)) (x : Nat × LineD) : full (xs ++ [x]) = full xs + if x.2.2.2.1 then 0 else 1 := by
  unfold full
  rw [List.filter_append, List.length_append]
  cases h : x.2.2.2.1 <;> simp [h]
theorem full_le (xs : List (Nat × LineD)) : full xs ≤ xs.length := List.length_filter_le _ _
theorem insF_snoc (x : Nat × LineD) : ∀ (xs : List (Nat × LineD)) (was : Nat), insF was (xs ++ [x]) = insF was xs + if x.2.2.2.1 then 0 else if wasF was xs < x.1 then 1 else 0
  | [], was => by
    rw [List.nil_append, insF, insF, insF, insF, wasF]
    split <;> simp
  | y :: xs, was => by
    rw [List.cons_append, insF, insF, wasF]
    split
    · exact insF_snoc x xs was
    · rw [insF_snoc x xs y.1]
      omega
theorem wasF_snoc (x : Nat × LineD) : ∀ (xs : List (Nat × LineD)) (was : Nat), wasF was (xs ++ [x]) = if x.2.2.2.1 then wasF was xs else x.1
  | [], was => by
    rw [List.nil_append, wasF, wasF, wasF]
    split <;> rfl
  | y :: xs, was => by
    rw [List.cons_append, wasF, wasF]
    split
    · exact wasF_snoc x xs was
    · exact wasF_snoc x xs y.1
theorem insF_le : ∀ (xs : List (Nat × LineD)) (was : Nat), insF was xs ≤ xs.length
  | [], _ => Nat.le_refl _
  | x :: xs, was => by
    rw [insF, List.length_cons]
    have h1 := insF_le xs was
    have h2 := insF_le xs x.1
    split
    · omega
    · split <;> omega
theorem run_lines (N : Nat) : ∀ (xs : List (Nat × LineD)) (st : LS) (p : Nat), st.opn = [] → (∃ q, fin2 N st (linesOf p xs) = .error (q, 20)) ∨ ∃ ts, fin2 N st (linesOf p xs) = .ok ts ∧ cnt 5 ts = cnt 5 st.out + full xs ∧ cnt 6 ts = cnt 6 st.out + insF (st.blk.headD 0) xs
  | [], st, p, ho => by
    refine Or.inr ⟨_, fin2_last ho N p, ?_, ?_⟩
    · rw [cnt_append, cnt_append, cnt_marks 5 7 _ _ (by decide)]
      rfl
    · rw [cnt_append, cnt_append, cnt_marks 6 7 _ _ (by decide)]
      rfl
  | x :: xs, st, p, ho => by
    rw [linesOf]
    cases hx : x.2.2.2.1 with
    | true =>
      rw [fin2_cons_ok (step_empty ho p x.1 hx)]
      have := run_lines N xs st (p + (ln x.1 x.2).length + 1) ho
      rw [insF, if_pos hx]
      have e : full (x :: xs) = full xs := by unfold full; simp [hx]
      rw [e]
      exact this
    | false =>
      have hs := step_full ho p x.1 hx
      cases hi : indent st.blk x.1 ((p + x.1 : Nat) : Int) with
      | error e =>
        rw [hi] at hs
        rw [fin2_cons_error hs, indent_error hi]
        exact Or.inl ⟨_, rfl⟩
      | ok mb =>
        obtain ⟨m, b⟩ := mb
        rw [hi] at hs
        obtain ⟨hb, h5, h6⟩ := indent_ok hi
        rw [fin2_cons_ok hs]
        rcases run_lines N xs ⟨_, [], b⟩ (p + (ln x.1 x.2).length + 1) rfl with h | ⟨ts, h, c5, c6⟩
        · exact Or.inl h
        · refine Or.inr ⟨ts, h, ?_, ?_⟩
          · rw [c5, cnt_append, cnt_append, cnt_append, h5, cnt_core _ _ _ (by decide)]
            have e : full (x :: xs) = full xs + 1 := by unfold full; simp [hx]
            have e2 : cnt 5 [mark 5 ((p + (ln x.1 x.2).length : Nat) : Int)] = 1 := rfl
            rw [e, e2]
            omega
          · have e3 : insF (st.blk.headD 0) (x :: xs) = (if st.blk.headD 0 < x.1 then 1 else 0) + insF x.1 xs := by rw [insF, if_neg (by rw [hx]; simp)]
            have e2 : cnt 6 [mark 5 ((p + (ln x.1 x.2).length : Nat) : Int)] = 0 := rfl
            rw [c6, e3, ← h6, cnt_append, cnt_append, cnt_append, cnt_core _ _ _ (by decide), e2]
            show _ + insF (b.headD 0) xs = _
            rw [hb]
            omega
/-- WHAT IS TOLD OF LINES WITHOUT BRACKETS. -/
theorem layL_lines (xs : List (Nat × LineD)) : (∃ q, layL (srcL xs) = .error (q, 20)) ∨ ∃ ts, layL (srcL xs) = .ok ts ∧ cnt 5 ts = full xs ∧ cnt 6 ts = insF 0 xs := by
  rw [layL_src]
  rcases run_lines (srcL xs).length xs st0 0 rfl with h | ⟨ts, h, c5, c6⟩
  · exact Or.inl h
  · refine Or.inr ⟨ts, h, ?_, ?_⟩
    · rw [c5]; show 0 + _ = _; omega
    · rw [c6]; show 0 + insF 0 xs = _; omega

/-- One line more, in the order of the blocks that go on. -/
theorem ind_empty {N : Nat} {st : LS} (ho : st.opn = []) (p : Nat) {x : Nat × LineD} (xs : List (Nat × LineD)) (hx : x.2.2.2.1 = true) : fin2 N st (linesOf p (x :: xs)) = fin2 N st (linesOf (p + (ln x.1 x.2).length + 1) xs) := by
  rw [linesOf, fin2_cons_ok (step_empty ho p x.1 hx)]
theorem ind_ok {N : Nat} {st : LS} (ho : st.opn = []) (p : Nat) {x : Nat × LineD} (xs : List (Nat × LineD)) (hx : x.2.2.2.1 = false) {blk : List Nat} (hb : if st.blk.headD 0 < x.1 then blk = x.1 :: st.blk else blk = (pops x.1 st.blk).1) (hh : blk.headD 0 = x.1) :
    ∃ st', st'.opn = [] ∧ st'.blk = blk ∧ fin2 N st (linesOf p (x :: xs)) = fin2 N st' (linesOf (p + (ln x.1 x.2).length + 1) xs) := by
  have hs := step_full ho p x.1 hx
  have hi : ∃ m, indent st.blk x.1 ((p + x.1 : Nat) : Int) = .ok (m, blk) := by
    unfold indent
    split
    · rename_i h1
      rw [if_pos h1] at hb
      exact ⟨_, by rw [hb]⟩
    · rename_i h1
      rw [if_neg h1] at hb
      rw [hb] at hh
      rw [if_pos hh, hb]
      exact ⟨_, rfl⟩
  obtain ⟨m, hi⟩ := hi
  rw [hi] at hs
  rw [linesOf, fin2_cons_ok hs]
  exact ⟨_, rfl, rfl, rfl⟩
theorem ind_odd {N : Nat} {st : LS} (ho : st.opn = []) (p : Nat) {x : Nat × LineD} (xs : List (Nat × LineD)) (hx : x.2.2.2.1 = false) (h1 : ¬ st.blk.headD 0 < x.1) (h2 : ¬ (pops x.1 st.blk).1.headD 0 = x.1) :
    fin2 N st (linesOf p (x :: xs)) = .error (((p + x.1 : Nat) : Int), 20) := by
  have hs := step_full ho p x.1 hx
  have hi : indent st.blk x.1 ((p + x.1 : Nat) : Int) = .error (((p + x.1 : Nat) : Int), 20) := by
    unfold indent
    rw [if_neg h1, if_neg h2]
  rw [hi] at hs
  rw [linesOf, fin2_cons_error hs]

/-- A token without its place. -/
def bare (t : T4) : Int × Bs × Int := (t.1, t.2.2.1, t.2.2.2)
theorem bare_mark (k p q : Int) : bare (mark k p) = bare (mark k q) := rfl
theorem bare_core (x : LineD) (p q : Int) : ((coreT x).map (abs4 p)).map bare = ((coreT x).map (abs4 q)).map bare := by
  rw [List.map_map, List.map_map]
  apply List.map_congr_left
  intro z _
  rfl
theorem bare_marks (k p q : Int) (n : Nat) : (List.replicate n (mark k p)).map bare = (List.replicate n (mark k q)).map bare := by
  rw [List.map_replicate, List.map_replicate]
  rfl
theorem pops_times (k : Nat) (hk : 0 < k) (n : Nat) : ∀ l : List Nat, pops (n * k) (l.map (· * k)) = ((pops n l).1.map (· * k), (pops n l).2)
  | [] => rfl
  | b :: bs => by
    have h : n * k < b * k ↔ n < b := Nat.mul_lt_mul_right hk
    rw [List.map_cons, pops, pops]
    by_cases h1 : n < b
    · rw [if_pos (h.2 h1), if_pos h1, pops_times k hk n bs]
    · rw [if_neg (fun e => h1 (h.1 e)), if_neg h1]
      rfl
theorem headD_times (k : Nat) (l : List Nat) : (l.map (· * k)).headD 0 = l.headD 0 * k := by
  cases l
  · show 0 = 0 * k; omega
  · rfl
theorem indent_times (k : Nat) (hk : 0 < k) (blk : List Nat) (n : Nat) (p q : Int) : match indent blk n p with
    | .error e => indent (blk.map (· * k)) (n * k) q = .error (q, 20) ∧ e.2 = 20
    | .ok (m, b) => ∃ m', indent (blk.map (· * k)) (n * k) q = .ok (m', b.map (· * k)) ∧ m.map bare = m'.map bare := by
  have h : blk.headD 0 * k < n * k ↔ blk.headD 0 < n := Nat.mul_lt_mul_right hk
  have h3 : (pops n blk).1.headD 0 * k = n * k ↔ (pops n blk).1.headD 0 = n := ⟨fun e => Nat.eq_of_mul_eq_mul_right hk e, fun e => by rw [e]⟩
  unfold indent
  rw [headD_times, pops_times k hk]
  simp only [headD_times]
  by_cases h1 : blk.headD 0 < n
  · rw [if_pos h1, if_pos (h.2 h1)]
    exact ⟨_, rfl, rfl⟩
  · rw [if_neg h1, if_neg (fun e => h1 (h.1 e))]
    by_cases h2 : (pops n blk).1.headD 0 = n
    · rw [if_pos h2, if_pos (h3.2 h2)]
      exact ⟨_, rfl, bare_marks _ _ _ _⟩
    · rw [if_neg h2, if_neg (fun e => h2 (h3.1 e))]
      exact ⟨rfl, rfl⟩
/-- Answers that are the same but for places. -/
def Alk (x y : Except (Int × Int) (List T4)) : Prop :=
  match x with
  | .error e => ∃ p, y = .error (p, e.2)
  | .ok a => ∃ b, y = .ok b ∧ a.map bare = b.map bare
/-- Lines, and the same ones with other lines ahead that have no tokens. -/
def more (k : Nat) : List (Nat × LineD) → List (Option (Nat × LineD)) → List (Nat × LineD)
  | [], _ => []
  | x :: xs, o => match o.headD none with
    | none => (x.1 * k, x.2) :: more k xs o.tail
    | some y => y :: (x.1 * k, x.2) :: more k xs o.tail
theorem core_ln (n m : Nat) (x : LineD) : coreT x = coreT x := rfl
theorem run_more (k : Nat) (hk : 0 < k) (N M : Nat) : ∀ (xs : List (Nat × LineD)) (o : List (Option (Nat × LineD))) (st st' : LS) (p q : Nat), (∀ y, some y ∈ o → y.2.2.2.1 = true) → st.opn = [] → st'.opn = [] → st.out.map bare = st'.out.map bare → st'.blk = st.blk.map (· * k) →
    Alk (fin2 N st (linesOf p xs)) (fin2 M st' (linesOf q (more k xs o)))
  | [], o, st, st', p, q, _, h1, h2, h3, h4 => by
    rw [more, linesOf, linesOf, fin2_last h1, fin2_last h2]
    refine ⟨_, rfl, ?_⟩
    rw [List.map_append, List.map_append, List.map_append, List.map_append, h3, h4, List.length_map, bare_marks 7 N M]
    rfl
  | x :: xs, o, st, st', p, q, ho, h1, h2, h3, h4 => by
    have hot : ∀ y, some y ∈ o.tail → y.2.2.2.1 = true := fun y hy => ho y (List.mem_of_mem_tail hy)
    have main : ∀ q, Alk (fin2 N st (linesOf p (x :: xs))) (fin2 M st' (linesOf q ((x.1 * k, x.2) :: more k xs o.tail))) := by
      intro q
      rw [linesOf, linesOf]
      cases hx : x.2.2.2.1 with
      | true =>
        rw [fin2_cons_ok (step_empty h1 p x.1 hx), fin2_cons_ok (step_empty h2 q (x.1 * k) hx)]
        exact run_more k hk N M xs o.tail st st' _ _ hot h1 h2 h3 h4
      | false =>
        have hs := step_full h1 p x.1 hx
        have hs' := step_full h2 q (x.1 * k) hx
        have hi := indent_times k hk st.blk x.1 ((p + x.1 : Nat) : Int) ((q + x.1 * k : Nat) : Int)
        cases he : indent st.blk x.1 ((p + x.1 : Nat) : Int) with
        | error e =>
          rw [he] at hi hs
          rw [h4, hi.1] at hs'
          rw [fin2_cons_error hs, fin2_cons_error hs']
          show ∃ p, _ = _
          exact ⟨_, by rw [hi.2]⟩
        | ok mb =>
          obtain ⟨m, b⟩ := mb
          rw [he] at hi hs
          obtain ⟨m', hi, hm⟩ := hi
          rw [h4, hi] at hs'
          rw [fin2_cons_ok hs, fin2_cons_ok hs']
          refine run_more k hk N M xs o.tail _ _ _ _ hot rfl rfl ?_ rfl
          simp only [List.map_append, h3, hm]
          rw [bare_core x.2 _ ((q + x.1 * k : Nat) : Int)]
          rfl
    rw [more]
    cases hh : o.headD none with
    | none => exact main q
    | some y =>
      have hy : y.2.2.2.1 = true := by
        cases o with
        | nil => cases hh
        | cons z o => exact ho y (by rw [List.headD_cons] at hh; rw [hh]; simp)
      show Alk _ (fin2 M st' (linesOf q (y :: (x.1 * k, x.2) :: more k xs o.tail)))
      have e : linesOf q (y :: (x.1 * k, x.2) :: more k xs o.tail) = (q, ln y.1 y.2) :: linesOf (q + (ln y.1 y.2).length + 1) ((x.1 * k, x.2) :: more k xs o.tail) := rfl
      rw [e, fin2_cons_ok (step_empty h2 q y.1 hy)]
      exact main _
/-- WHAT IS TOLD OF LINES, AND OF THE SAME WITH OTHERS BETWEEN, AND FARTHER IN. -/
theorem layL_more (k : Nat) (hk : 0 < k) (xs : List (Nat × LineD)) (o : List (Option (Nat × LineD))) (ho : ∀ y, some y ∈ o → y.2.2.2.1 = true) : Alk (layL (srcL xs)) (layL (srcL (more k xs o))) := by
  rw [layL_src, layL_src]
  refine run_more k hk _ _ xs o st0 st0 0 0 ho rfl rfl rfl ?_
  show [0] = [0 * k]
  rw [Nat.zero_mul]
end Sp
end Go.Proofs.YtbdjccmcdifjcaaGreatDoor

set_option linter.unusedVariables false
set_option linter.unusedSimpArgs false
namespace Go.Proofs.YtbdjccmcdifjcaaGreatDoor
open Go.RowKit Go.Shelf
namespace Sp

def opB (k : Nat) : UInt8 := match k with
  | 0 => 40
  | 1 => 91
  | _ => 123
def shB (k : Nat) : UInt8 := match k with
  | 0 => 41
  | 1 => 93
  | _ => 125
def tkF : Tk := ⟨1, [102], 0, 1⟩
def tkO (k : Nat) : Tk := ⟨4, [opB k], 0, 1⟩
def tkS (k : Nat) : Tk := ⟨4, [shB k], 0, 1⟩
theorem opB_facts : ∀ k, ¬ (opB k).toNat = 10 ∧ ¬ (opB k).toNat = 32 ∧ ¬ (opB k).toNat = 35 ∧ isWd (opB k) = false
  | 0 => by decide
  | 1 => by decide
  | _ + 2 => by
    show ¬ (123 : UInt8).toNat = 10 ∧ ¬ (123 : UInt8).toNat = 32 ∧ ¬ (123 : UInt8).toNat = 35 ∧ isWd 123 = false
    decide
theorem shB_facts : ∀ k, ¬ (shB k).toNat = 10 ∧ ¬ (shB k).toNat = 32 ∧ ¬ (shB k).toNat = 35 ∧ isWd (shB k) = false
  | 0 => by decide
  | 1 => by decide
  | _ + 2 => by
    show ¬ (125 : UInt8).toNat = 10 ∧ ¬ (125 : UInt8).toNat = 32 ∧ ¬ (125 : UInt8).toNat = 35 ∧ isWd 125 = false
    decide
theorem tok1_open (k : Nat) (r : Bs) : tok1 (opB k :: r) = .ok (tkO k) := by
  match k with
  | 0 => rfl
  | 1 => rfl
  | _ + 2 => rfl
theorem tok1_close (k : Nat) (r : Bs) : tok1 (shB k :: r) = .ok (tkS k) := by
  match k with
  | 0 => rfl
  | 1 => rfl
  | _ + 2 => rfl
theorem bk_open' (k : Nat) (q : Int) (p : Nat) : 0 < bk (abs4 q (p, tkO k)) ∧ bk (abs4 q (p, tkS k)) < 0 ∧ ∀ q' p', bk (abs4 q (p, tkO k)) = - bk (abs4 q' (p', tkS k)) := by
  match k with
  | 0 => exact ⟨by show (0 : Int) < 1; omega, by show (-1 : Int) < 0; omega, fun _ _ => rfl⟩
  | 1 => exact ⟨by show (0 : Int) < 2; omega, by show (-2 : Int) < 0; omega, fun _ _ => rfl⟩
  | _ + 2 => exact ⟨by show (0 : Int) < 3; omega, by show (-3 : Int) < 0; omega, fun _ _ => rfl⟩
theorem lex_head (k p : Nat) (r : Bs) : lexAt p (102 :: opB k :: r) = ahead [(p, tkF), (p + 1, tkO k)] (lexAt (p + 2) r) := by
  obtain ⟨_, h2, h3, h4⟩ := opB_facts k
  have h1 : tok1 (102 :: opB k :: r) = .ok tkF := by
    rw [tok1_word (by decide)]
    have : wordLen (102 :: opB k :: r) = 1 := by rw [wordLen, if_pos (by decide), wordLen, h4]; rfl
    rw [this]
    rfl
  rw [lexAt_tok p 102 _ (by decide) (by decide) _ h1]
  show ahead [(p, tkF)] (lexAt (p + 1) (opB k :: r)) = _
  rw [lexAt_tok (p + 1) _ _ h2 h3 _ (tok1_open k r), ahead_ahead]
  rfl
theorem lex_tail (k p : Nat) : lexAt p [shB k] = .ok [(p, tkS k)] := by
  obtain ⟨_, h2, h3, h4⟩ := shB_facts k
  rw [lexAt_tok p _ _ h2 h3 _ (tok1_close k [])]
  rfl

/-- Lines that end, without what stands behind them. -/
def lns : Nat → List (Nat × LineD) → List (Nat × Bs)
  | _, [] => []
  | p, x :: xs => (p, ln x.1 x.2) :: lns (p + (ln x.1 x.2).length + 1) xs
theorem linesGo_lns (t : Bs) : ∀ (xs : List (Nat × LineD)) (p : Nat), linesGo p [] p (srcL xs ++ t) = lns p xs ++ linesGo (p + (srcL xs).length) [] (p + (srcL xs).length) t
  | [], p => rfl
  | x :: xs, p => by
    have e : srcL (x :: xs) ++ t = ln x.1 x.2 ++ 10 :: (srcL xs ++ t) := by unfold srcL; simp
    have e2 : (srcL (x :: xs)).length = (ln x.1 x.2).length + 1 + (srcL xs).length := by
      unfold srcL
      simp
      omega
    rw [e, linesGo_line _ _ _ _ _ (ln_no10 _ _), linesGo_lns t xs, lns, e2, List.cons_append]
    have e3 : p + (ln x.1 x.2).length + 1 + (srcL xs).length = p + ((ln x.1 x.2).length + 1 + (srcL xs).length) := by omega
    rw [e3]
    rfl
def bareT (x : LineD) : List (Int × Bs × Int) := ((coreT x).map (abs4 0)).map bare
theorem run_lns : ∀ (xs : List (Nat × LineD)) (st : LS) (p : Nat), st.opn ≠ [] → ∃ T : List T4, runL st (lns p xs) = .ok ⟨st.out ++ T, st.opn, st.blk⟩ ∧ T.map bare = xs.flatMap fun x => bareT x.2
  | [], st, p, ho => ⟨[], by rw [lns, runL, List.append_nil], rfl⟩
  | x :: xs, st, p, ho => by
    obtain ⟨T, h1, h2⟩ := run_lns xs ⟨st.out ++ (coreT x.2).map (abs4 ((p + x.1 : Nat) : Int)), st.opn, st.blk⟩ (p + (ln x.1 x.2).length + 1) ho
    refine ⟨(coreT x.2).map (abs4 ((p + x.1 : Nat) : Int)) ++ T, ?_, ?_⟩
    · rw [lns, runL, step_within ho p x.1 x.2]
      show runL _ (lns _ xs) = _
      rw [h1]
      simp
    · rw [List.map_append, h2, List.flatMap_cons]
      congr 1
      exact bare_core x.2 _ 0
/-- A line's data without its comment. -/
def mute (x : LineD) : LineD := (x.1, x.2.1, x.2.2.1, [])
theorem coreT_mute (x : LineD) : coreT (mute x) = coreT x := rfl
def rowL (xs : List (Nat × LineD)) : Bs := xs.flatMap fun x => 32 :: ln x.1 (mute x.2)
theorem toksB_bare (q : Int) : ∀ (F : List T4) (a b : Nat), ((toksB a (on1 F)).map (abs4 q)).map bare = ((toksB b (on1 F)).map (abs4 q)).map bare
  | [], a, b => rfl
  | y :: F, a, b => by
    have e : on1 (y :: F) = (0, y) :: on1 F := rfl
    rw [e, toksB, toksB, List.map_cons, List.map_cons, List.map_cons, List.map_cons, toksB_bare q F _ (b + 0 + 1 + (textB y).length)]
    rfl
theorem bare_abs (q q' : Int) (p p' : Nat) (t : Tk) : bare (abs4 q (p, t)) = bare (abs4 q' (p', t)) := rfl
theorem bare_x (q : Int) (p p' : Nat) : bare (abs4 q (p, tkx)) = bare (abs4 q (p', tkx)) := rfl
theorem bk_x' (q : Int) (p : Nat) : bk (abs4 q (p, tkx)) = 0 := rfl
theorem lex_row (u : Bs) (xs : List (Nat × LineD)) : ∀ (p : Nat), ∃ (T : List (Nat × Tk)) (q : Nat), lexAt p (rowL xs ++ u) = ahead T (lexAt q u) ∧ (T.map (abs4 0)).map bare = (xs.flatMap fun x => bareT x.2) ∧ ∀ t ∈ T, bk (abs4 0 t) = 0 := by
  induction xs with
  | nil => exact fun p => ⟨[], p, by rw [ahead_nil]; rfl, rfl, by simp⟩
  | cons x xs ih =>
    intro p
    have e : rowL (x :: xs) ++ u = 32 :: (List.replicate x.1 32 ++ (core (mute x.2) ++ (rowL xs ++ u))) := by unfold rowL ln; simp
    rw [e, lexAt_blank _ _ _ (by decide), lexAt_pad]
    cases hx : x.2.2.2.1 with
    | true =>
      obtain ⟨T, q, h1, h2, h3⟩ := ih (p + 1 + x.1)
      have hc : core (mute x.2) = [] := by
        unfold core mute
        simp only [hx]
        rfl
      have hb : bareT x.2 = [] := by
        unfold bareT coreT
        rw [if_pos hx]
        rfl
      rw [hc]
      exact ⟨T, q, h1, by rw [List.flatMap_cons, hb, h2]; rfl, h3⟩
    | false =>
      have hc : core (mute x.2) = 120 :: (lineB (on1 (bodyL x.2.2.1)) ++ [32]) := by
        unfold core mute
        simp only [hx]
        rfl
      have hg := on1_good (body_good x.2.2.1).2
      have hu : stopB (32 :: (rowL xs ++ u)) := stop_blank _
      have hs := lineB_stop hu (on1 (bodyL x.2.2.1))
      obtain ⟨c, r, e2, n1, n2, ht⟩ := tok1_good (x := ((1, 0, [120], 0) : T4)) (Or.inl ⟨rfl, by decide, rfl, by decide⟩) hs
      have ht' : tok1 (120 :: (lineB (on1 (bodyL x.2.2.1)) ++ 32 :: (rowL xs ++ u))) = .ok tkx := ht
      have e3 : core (mute x.2) ++ (rowL xs ++ u) = 120 :: (lineB (on1 (bodyL x.2.2.1)) ++ 32 :: (rowL xs ++ u)) := by rw [hc]; simp
      rw [e3, lexAt_tok (p + 1 + x.1) 120 _ (by decide) (by decide) _ ht']
      show ∃ T q, ahead [(p + 1 + x.1, tkx)] (lexAt (p + 1 + x.1 + 1) (lineB (on1 (bodyL x.2.2.1)) ++ 32 :: (rowL xs ++ u))) = _ ∧ _
      rw [lexAt_line hu _ _ hg, lexAt_blank _ _ _ (by decide), ahead_ahead]
      obtain ⟨T, q, h1, h2, h3⟩ := ih (p + 1 + x.1 + 1 + (lineB (on1 (bodyL x.2.2.1))).length + 1)
      rw [h1, ahead_ahead]
      refine ⟨_, q, rfl, ?_, ?_⟩
      · rw [List.map_append, List.map_append, h2, List.flatMap_cons]
        congr 1
        unfold bareT coreT
        rw [if_neg (by rw [hx]; simp)]
        show bare (abs4 0 (p + 1 + x.1, tkx)) :: ((toksB (p + 1 + x.1 + 1) (on1 (bodyL x.2.2.1))).map (abs4 0)).map bare = bare (abs4 0 (0, tkx)) :: ((toksB 1 (on1 (bodyL x.2.2.1))).map (abs4 0)).map bare
        rw [toksB_bare 0 _ (p + 1 + x.1 + 1) 1, bare_x 0 (p + 1 + x.1) 0]
      · intro t ht
        rcases List.mem_append.1 ht with ht | ht
        · rcases List.mem_append.1 ht with ht | ht
          · simp at ht
            rw [ht]
            exact bk_x' 0 _
          · exact toksB_bk 0 _ _ (fun z hz => ((body_good x.2.2.1).2 z hz).2) t ht
        · exact h3 t ht
theorem brk_append : ∀ (a b o : List T4), brk o (a ++ b) = match brk o a with
    | .error e => .error e
    | .ok o' => brk o' b
  | [], b, o => by cases o <;> rfl
  | t :: a, b, o => by
    rw [List.cons_append]
    by_cases h1 : 0 < bk t
    · rw [brk_pos h1, brk_pos h1]
      exact brk_append a b _
    · by_cases h2 : bk t < 0
      · cases o with
        | nil => rw [brk_none h2, brk_none h2]
        | cons y ys =>
          by_cases h3 : bk y = - bk t
          · rw [brk_shut h2 h3, brk_shut h2 h3]
            exact brk_append a b _
          · rw [brk_odd h2 h3, brk_odd h2 h3]
      · rw [brk_zero (by omega), brk_zero (by omega)]
        exact brk_append a b _

def manyL (k : Nat) (xs : List (Nat × LineD)) : Bs := 102 :: opB k :: 10 :: srcL xs
def oneL (k : Nat) (xs : List (Nat × LineD)) : Bs := 102 :: opB k :: rowL xs
theorem rowL_no10 : ∀ (xs : List (Nat × LineD)), ∀ c ∈ rowL xs, ¬ c.toNat = 10 := by
  intro xs c hc
  obtain ⟨x, _, hc⟩ := List.mem_flatMap.1 hc
  rcases List.mem_cons.1 hc with rfl | hc
  · decide
  · exact ln_no10 _ _ c hc
/-- The line that opens. -/
theorem step_open (k : Nat) : lineStep st0 (0, [102, opB k]) = .ok ⟨[abs4 0 (0, tkF), abs4 0 (1, tkO k)], [abs4 0 (1, tkO k)], [0]⟩ := by
  unfold lineStep
  rw [if_pos (show st0.opn = [] from rfl)]
  have h0 : blanksOf [102, opB k] = 0 := rfl
  simp only [h0, List.drop_zero]
  rw [if_neg (by decide)]
  have hi : indent st0.blk 0 ((0 + 0 : Nat) : Int) = .ok ([], [0]) := rfl
  rw [hi]
  simp only
  unfold lineRest
  have hl : lex [102, opB k] = .ok [(0, tkF), (1, tkO k)] := by
    unfold lex
    rw [lex_head, lexAt_nil]
    rfl
  simp only [h0, List.drop_zero, hl]
  have hb : brk st0.opn ([(0, tkF), (1, tkO k)].map (abs4 ((0 + 0 : Nat) : Int))) = .ok [abs4 0 (1, tkO k)] := by
    rw [List.map_cons, brk_zero (by rfl), List.map_cons, brk_pos (bk_open' k _ _).1]
    rfl
  rw [hb]
  simp only
  rw [if_neg (by simp)]
  rfl
/-- WHAT IS TOLD OF LINES WITHIN A BRACKET THAT IS LEFT OPEN. -/
theorem layL_left (k : Nat) (xs : List (Nat × LineD)) : layL (manyL k xs) = .error (1, 21) := by
  obtain ⟨h10, _⟩ := opB_facts k
  unfold layL linesL manyL
  rw [linesGo, if_neg (by decide), linesGo, if_neg h10, linesGo, if_pos (by decide)]
  show (match runL st0 ((0, [102, opB k]) :: linesGo 3 [] 3 (srcL xs)) with
    | Except.error e => Except.error e
    | Except.ok st => finish _ st) = _
  have e : linesGo 3 [] 3 (srcL xs) = lns 3 xs ++ [(3 + (srcL xs).length, [])] := by
    have := linesGo_lns [] xs 3
    rw [List.append_nil] at this
    rw [this]
    rfl
  rw [e, runL, step_open k]
  simp only
  obtain ⟨T, h1, h2⟩ := run_lns xs ⟨[abs4 0 (0, tkF), abs4 0 (1, tkO k)], [abs4 0 (1, tkO k)], [0]⟩ 3 (by simp)
  rw [runL_append, h1]
  simp only
  have hlast : lineStep ⟨[abs4 0 (0, tkF), abs4 0 (1, tkO k)] ++ T, [abs4 0 (1, tkO k)], [0]⟩ (3 + (srcL xs).length, []) = .ok ⟨[abs4 0 (0, tkF), abs4 0 (1, tkO k)] ++ T, [abs4 0 (1, tkO k)], [0]⟩ := by
    unfold lineStep
    rw [if_neg (by simp)]
    unfold lineRest
    have h0 : blanksOf [] = 0 := rfl
    have hl : lex [] = .ok [] := rfl
    have hb : ∀ q, brk [abs4 0 (1, tkO k)] (([] : List (Nat × Tk)).map (abs4 q)) = .ok [abs4 0 (1, tkO k)] := fun _ => rfl
    simp only [h0, List.drop_zero, hl, hb]
    rw [if_neg (by simp)]
    simp
  rw [runL, hlast]
  simp only [runL, finish]
  have : (abs4 0 (1, tkO k)).2.1 = 1 := by
    show wrap64 (0 + ((1 : Nat) : Int)) = 1
    unfold wrap64
    omega
  rw [this]
/-- WHAT IS TOLD OF LINES WITHIN BRACKETS, AND OF THE SAME IN ONE LINE. -/
theorem layL_within (k : Nat) (xs : List (Nat × LineD)) : ∃ a b : List T4, layL (manyL k xs ++ [shB k, 10]) = .ok a ∧ layL (oneL k xs ++ [shB k]) = .ok b ∧ a.map bare = b.map bare := by
  obtain ⟨h10, _⟩ := opB_facts k
  obtain ⟨s10, s32, s35, _⟩ := shB_facts k
  obtain ⟨T, h1, h2⟩ := run_lns xs ⟨[abs4 0 (0, tkF), abs4 0 (1, tkO k)], [abs4 0 (1, tkO k)], [0]⟩ 3 (by simp)
  obtain ⟨U, q, g1, g2, g3⟩ := lex_row [shB k] xs 2
  have A : ∃ p r : Nat, ∃ N : Nat, layL (manyL k xs ++ [shB k, 10]) = .ok ([abs4 0 (0, tkF), abs4 0 (1, tkO k)] ++ T ++ [abs4 (p : Int) (0, tkS k)] ++ [mark 5 (r : Int)] ++ [mark 8 (N : Int)]) := by
    refine ⟨3 + (srcL xs).length, 3 + (srcL xs).length + 1, (manyL k xs ++ [shB k, 10]).length, ?_⟩
    have e : linesL (manyL k xs ++ [shB k, 10]) = (0, [102, opB k]) :: (lns 3 xs ++ [(3 + (srcL xs).length, [shB k]), (3 + (srcL xs).length + 1 + 1, [])]) := by
      unfold linesL manyL
      rw [List.cons_append, List.cons_append, List.cons_append, linesGo, if_neg (by decide), linesGo, if_neg h10, linesGo, if_pos (by decide), linesGo_lns]
      rw [linesGo, if_neg s10, linesGo, if_pos (by decide), linesGo]
      rfl
    unfold layL
    rw [e, runL, step_open k]
    simp only
    rw [runL_append, h1]
    simp only
    generalize hP : 3 + (srcL xs).length = P
    have hstep : lineStep ⟨[abs4 0 (0, tkF), abs4 0 (1, tkO k)] ++ T, [abs4 0 (1, tkO k)], [0]⟩ (P, [shB k]) = .ok ⟨[abs4 0 (0, tkF), abs4 0 (1, tkO k)] ++ T ++ [abs4 (P : Int) (0, tkS k)] ++ [mark 5 ((P + 1 : Nat) : Int)], [], [0]⟩ := by
      unfold lineStep
      rw [if_neg (by simp)]
      unfold lineRest
      have h0 : blanksOf [shB k] = 0 := by rw [blanksOf, if_neg s32]
      have hl : lex [shB k] = .ok [(0, tkS k)] := lex_tail k 0
      simp only [h0, List.drop_zero, hl, Nat.add_zero]
      have hb : brk [abs4 0 (1, tkO k)] ([(0, tkS k)].map (abs4 (P : Int))) = .ok [] := by
        rw [List.map_cons, brk_shut (bk_open' k _ _).2.1 ((bk_open' k 0 1).2.2 _ _)]
        rfl
      rw [hb]
      simp
    rw [runL, hstep]
    simp only
    rw [runL]
    have hlast : lineStep ⟨[abs4 0 (0, tkF), abs4 0 (1, tkO k)] ++ T ++ [abs4 (P : Int) (0, tkS k)] ++ [mark 5 ((P + 1 : Nat) : Int)], [], [0]⟩ (P + 1 + 1, []) = .ok ⟨[abs4 0 (0, tkF), abs4 0 (1, tkO k)] ++ T ++ [abs4 (P : Int) (0, tkS k)] ++ [mark 5 ((P + 1 : Nat) : Int)], [], [0]⟩ := by
      unfold lineStep
      rw [if_pos rfl]
      rfl
    rw [hlast]
    simp only [runL, finish]
    simp
  have B : ∃ p r : Nat, ∃ N : Nat, layL (oneL k xs ++ [shB k]) = .ok (([(0, tkF), (1, tkO k)] ++ U ++ [(p, tkS k)]).map (abs4 0) ++ [mark 5 (r : Int)] ++ [mark 8 (N : Int)]) := by
    refine ⟨q, (oneL k xs ++ [shB k]).length, (oneL k xs ++ [shB k]).length, ?_⟩
    have hno : ∀ c ∈ oneL k xs ++ [shB k], ¬ c.toNat = 10 := by
      intro c hc
      rcases List.mem_append.1 hc with hc | hc
      · rcases List.mem_cons.1 hc with rfl | hc
        · decide
        · rcases List.mem_cons.1 hc with rfl | hc
          · exact h10
          · exact rowL_no10 xs c hc
      · rw [List.mem_singleton.1 hc]
        exact s10
    have hl : lex (oneL k xs ++ [shB k]) = .ok ([(0, tkF), (1, tkO k)] ++ U ++ [(q, tkS k)]) := by
      unfold lex oneL
      rw [List.cons_append, List.cons_append, lex_head, g1, lex_tail]
      simp [ahead]
    have h0 : blanksOf (oneL k xs ++ [shB k]) = 0 := rfl
    have hb : brk st0.opn (([(0, tkF), (1, tkO k)] ++ U ++ [(q, tkS k)]).map (abs4 0)) = .ok [] := by
      rw [List.map_append, List.map_append, List.append_assoc]
      show brk [] (abs4 0 (0, tkF) :: abs4 0 (1, tkO k) :: (U.map (abs4 0) ++ [(q, tkS k)].map (abs4 0))) = _
      rw [brk_zero (by rfl), brk_pos (bk_open' k _ _).1, brk_append, brk_zeros 0 U _ g3]
      simp only
      rw [List.map_cons, brk_shut (bk_open' k _ _).2.1 ((bk_open' k 0 1).2.2 _ _)]
      rfl
    unfold layL linesL
    rw [linesGo_last _ _ _ _ hno, runL, List.nil_append]
    generalize oneL k xs ++ [shB k] = S at hl h0 hb
    have hstep : lineStep st0 (0, S) = .ok ⟨([(0, tkF), (1, tkO k)] ++ U ++ [(q, tkS k)]).map (abs4 0) ++ [mark 5 (S.length : Int)], [], [0]⟩ := by
      have hS : S ≠ [] := by
        rintro rfl
        have : lex ([] : Bs) = .ok [] := rfl
        rw [this] at hl
        simp at hl
      unfold lineStep
      rw [if_pos (show st0.opn = [] from rfl)]
      simp only [h0, List.drop_zero]
      cases hS2 : S with
      | nil => exact absurd hS2 hS
      | cons c r =>
        have hc35 : ¬ c.toNat = 35 := by
          intro h
          rw [hS2] at hl
          unfold lex at hl
          rw [lexAt_hash _ _ _ h] at hl
          simp at hl
        simp only
        rw [if_neg hc35]
        have hi : indent st0.blk 0 ((0 + 0 : Nat) : Int) = .ok ([], [0]) := rfl
        rw [hi]
        simp only
        unfold lineRest
        rw [hS2] at h0 hl
        simp only [h0, List.drop_zero, hl]
        have hb' : brk st0.opn (([(0, tkF), (1, tkO k)] ++ U ++ [(q, tkS k)]).map (abs4 ((0 + 0 : Nat) : Int))) = .ok [] := hb
        rw [hb']
        simp [st0]
    rw [hstep]
    simp only [runL, finish]
    simp
  obtain ⟨p, r, N, hA⟩ := A
  obtain ⟨p', r', N', hB⟩ := B
  refine ⟨_, _, hA, hB, ?_⟩
  have u1 : List.map bare [abs4 (p : Int) (0, tkS k)] = List.map bare (List.map (abs4 0) [(p', tkS k)]) := by
    rw [List.map_cons, List.map_cons, List.map_cons, bare_abs (p : Int) 0 0 p']
    rfl
  have u0 : List.map bare (List.map (abs4 0) [(0, tkF), (1, tkO k)]) = List.map bare [abs4 0 (0, tkF), abs4 0 (1, tkO k)] := by simp only [List.map_cons, List.map_nil]
  have u5 : List.map bare [mark 5 (r : Int)] = List.map bare [mark 5 (r' : Int)] := rfl
  have u8 : List.map bare [mark 8 (N : Int)] = List.map bare [mark 8 (N' : Int)] := rfl
  rw [List.map_append, List.map_append, List.map_append, List.map_append, List.map_append, List.map_append, List.map_append, List.map_append, List.map_append, List.map_append, h2, g2, u1, u0, u5, u8]
theorem rowL_size : ∀ (xs : List (Nat × LineD)) (k : Nat), (∀ x ∈ xs, x.1 ≤ k) → (rowL xs).length ≤ (k + 688) * xs.length
  | [], k, _ => Nat.zero_le _
  | x :: xs, k, h => by
    have e : rowL (x :: xs) = 32 :: ln x.1 (mute x.2) ++ rowL xs := by unfold rowL; simp
    have h1 := ln_size x.1 (mute x.2)
    have h2 := rowL_size xs k fun y hy => h y (by simp [hy])
    have h3 := h x (by simp)
    rw [e, List.length_append, List.length_cons, List.length_cons, Nat.mul_add]
    omega
end Sp
end Go.Proofs.YtbdjccmcdifjcaaGreatDoor

set_option linter.unusedVariables false
set_option linter.unusedSimpArgs false
namespace Go.Proofs.YtbdjccmcdifjcaaGreatDoor
open Go.RowKit Go.Shelf

set_option maxHeartbeats 4000000 in
theorem kind2_any (k a n : Int) (sb : ByteArray) (w : World) : Calls Tryz.prog 43 #[.agg #[.int .i64 k, .int .i64 a, .string sb, .int .i64 n]] w fun e w' => e = .returned (.int .i64 (Sp.bk (k, a, sb.data.toList, n))) ∧ Below w.heap.size w w' := by
  have hbel0 : Below w.heap.size w (w.alloc (Obj.cells #[.int .i64 k, .int .i64 a, .string sb, .int .i64 n] 37)) := (Below.refl _ w).alloc (Nat.le_refl _) _
  go_enter Tryz.func43, Tryz.ntmps43
  go_wp2_with fail
  all_goals
    go_ret
    refine ⟨ret_int ?_, hbel0⟩
    simp only [Sp.bk]
    simp_all [Sp.toList_data]

theorem mark2_any (k a : Int) (w : World) : Calls Tryz.prog 27 #[.int .i64 k, .int .i64 a] w fun e w' => e = .returned (.agg #[.int .i64 k, .int .i64 a, .string ⟨#[]⟩, .int .i64 0]) ∧ Below w.heap.size w w' := by
  go_enter Tryz.func27, Tryz.ntmps27
  go_wp2
  refine bodyPost_ret (v := .agg #[.int .i64 k, .int .i64 a, .string ⟨#[]⟩, .int .i64 0]) (by simp [results, Tryz.results27, go_sem]) rfl ⟨rfl, ?_⟩
  exact (Below.refl _ w).alloc (Nat.le_refl _) _

set_option maxHeartbeats 2000000 in
theorem blanks2_any (n : Nat) (hn : n ≤ 1000000) (w : World) : Calls Tryz.prog 15 #[.int .i64 (n : Int)] w fun e w' => e = .returned (.string ⟨(List.replicate n 32).toArray⟩) ∧ w = w' := by
  go_enter Tryz.func15, Tryz.ntmps15
  go_wp2_with fail
  go_loop [3, 4] (fun v3 v4 => ∃ (k : Nat) (b : ByteArray), v3 = .string b ∧ v4 = .int .i64 k ∧ k ≤ n ∧ b.size = k ∧ Hid (b.data.toList = List.replicate k 32)) (fun _ v4 => n - (intOf v4).toNat)
  case atStart => exact ⟨0, ⟨#[]⟩, rfl, rfl, Nat.zero_le _, rfl, rfl⟩
  case round =>
    obtain ⟨k, b, rfl, rfl, hk, hb, HB⟩ := hrel
    by_cases hlt : k < n
    · have HN : Hid ((b ++ (⟨#[32]⟩ : ByteArray)).data.toList = List.replicate (k + 1) 32) := by
        show _ = _
        rw [List.replicate_succ']
        simp [HB.out]
      have hsz : (b ++ (⟨#[32]⟩ : ByteArray)).size = k + 1 := by
        rw [ByteArray.size_append]
        show b.size + 1 = k + 1
        omega
      clear HB
      go_wp2_with fail
      exact ⟨⟨k + 1, _, rfl, by go_num, by omega, hsz, HN⟩, by simp [intOf]; omega⟩
    · have HN : Hid ((⟨(List.replicate n 32).toArray⟩ : ByteArray) = b) := by
        show _ = _
        have : k = n := by omega
        rw [← this, ← HB.out, toArray_data]
      clear HB
      go_wp2_with fail
      go_ret
      exact ⟨ret_str HN.out.symm, rfl⟩

set_option maxHeartbeats 2000000 in
theorem same2_any (B B' : Nat) (va vb : Value) (l m : List T4) (w : World) (ha : Row4 B va l w) (hb : Row4 B' vb m w) (hl : l.length ≤ 1000000) (hm : m.length ≤ 1000000) :
    Calls Tryz.prog 17 #[va, vb] w fun e w' => e = .returned (.bool (decide (l = m))) ∧ Below w.heap.size w w' := by
  obtain ⟨pa, ca, rfl, fa⟩ := ha.form
  obtain ⟨pb, cb, rfl, fb⟩ := hb.form
  by_cases hlen : l.length = m.length
  · have gl : ((l.length : Int) != (m.length : Int)) = false := by simp; omega
    have hlm : Hid (l.length = m.length) := hlen
    have hle : l.length ≤ m.length := by omega
    have FA := Lib.hid fa
    have FB := Lib.hid fb
    clear fa fb hlen ha hb
    go_enter Tryz.func17, Tryz.ntmps17
    go_wp2_with fail
    go_loopw [5] (fun i wr => ∃ k : Nat, i = .int .i64 k ∧ k ≤ l.length ∧ Hid (l.take k = m.take k) ∧ ∃ q, wr = w.drewN q) (fun i wr => l.length - (intOf i).toNat)
    case atStart => exact ⟨0, rfl, Nat.zero_le _, rfl, 0, rfl⟩
    case round =>
      obtain ⟨k, rfl, hk, HT, q, rfl⟩ := hrel
      by_cases hlt : k < l.length
      · have hkm : k < m.length := by omega
        obtain ⟨x, hx⟩ : ∃ x, l[k]? = some x := ⟨_, List.getElem?_eq_getElem hlt⟩
        obtain ⟨y, hy⟩ : ∃ y, m[k]? = some y := ⟨_, List.getElem?_eq_getElem hkm⟩
        obtain ⟨ga, rfl, hga, _, a0, a1, a2, a3⟩ := FA.out k x hx
        obtain ⟨gb, rfl, hgb, _, b0, b1, b2, b3⟩ := FB.out k y hy
        have hcmp := fun w => same_cmp x y w
        cases hxy : decide (x = y) with
        | true =>
          rw [hxy] at hcmp
          have HN : Hid (l.take (k + 1) = m.take (k + 1)) := by
            have e : x = y := by simpa using hxy
            show _ = _
            rw [List.take_add_one, List.take_add_one, HT.out, hx, hy, e]
          clear hxy hx hy FA FB HT hga hgb
          go_wp2_with fail
          go_quiet (fail)
          go_wp2_with fail
          refine ⟨⟨k + 1, by go_num, by omega, HN, _, rfl⟩, by simp [intOf]; omega⟩
        | false =>
          rw [hxy] at hcmp
          have HN : Hid (decide (l = m) = false) := by
            have e : x ≠ y := by simpa using hxy
            show _ = _
            simp
            intro h
            rw [h, hy] at hx
            exact e (Option.some.inj hx).symm
          clear hxy hx hy FA FB HT hga hgb
          go_wp2_with fail
          go_quiet (fail)
          go_wp2_with fail
          go_ret
          exact ⟨ret_bool HN.out.symm, below_drewN (below_drewN (Below.refl _ _) _) _⟩
      · have HN : Hid (decide (l = m) = true) := by
          show _ = _
          have h1 := HT.out
          rw [List.take_of_length_le (by omega), List.take_of_length_le (by have := hlm.out; omega)] at h1
          simp [h1]
        clear FA FB HT
        go_wp2_with fail
        go_ret
        exact ⟨ret_bool HN.out.symm, below_drewN (Below.refl _ _) _⟩
  · have gl : ((l.length : Int) != (m.length : Int)) = true := by simp; omega
    have hne : Hid (decide (l = m) = false) := by show _ = _; simp; intro h; exact hlen (by rw [h])
    rw [hne.out]
    clear hlen fa fb ha hb
    go_enter Tryz.func17, Tryz.ntmps17
    go_wp2_with fail
    go_ret
    exact ⟨rfl, Below.refl _ _⟩
end Go.Proofs.YtbdjccmcdifjcaaGreatDoor

set_option linter.unusedVariables false
set_option linter.unusedSimpArgs false
namespace Go.Proofs.YtbdjccmcdifjcaaGreatDoor
open Go.ChangeShapes Go.WideShapes Go.ChangeAt Go.WideMaps Go.WideElems Go.RowKit Go.Deep

namespace A2
theorem cell_block {w : World} {a : Addr} {v : Value} (h : w.cell? a = some v) : a.block < w.heap.size ∧ a.spot = none := by
  unfold World.cell? at h
  split at h
  · rename_i he
    refine ⟨heap_of_some he, ?_⟩
    split at h
    · cases h
    · rename_i hs; simpa using hs
  · cases h
theorem plain_addr {a : Addr} (h : a.spot = none) : a = ⟨a.block, a.off, none⟩ := by
  cases a
  simp at h
  subst h
  rfl

/-- The answer true, the arguments as they read before, no older cell turned: what a law's row asks, of arguments that lead to memory too. -/
theorem post_true_at {H : Type} {enc : TypeId × Value → H} {f : Func} {s : ChangeSpec} {W W' : World} {args : Array Value} {ds : List (DataW H)} {before : List MemPlace}
    (hW : DataW.Whole enc Tryz.prog f.params.toList s.vars false W args.toList ds [] before)
    (hrt : f.resultTypes = #[4]) (hres : (s.fn H (ds ++ [])).results = [.lit (.bool true)]) (hfa : (s.fn H (ds ++ [])).args = ds) (hfv : (s.fn H (ds ++ [])).vars = []) (hsv : s.vars = [])
    (hargs : DataW.TrodAll enc Tryz.prog W' 0 (fun b => decide (b < W.heap.size)) true f.params.toList args.toList ds before)
    (hb : Below W.heap.size W W') :
    s.post enc Tryz.prog f false true false false W args (.bool true) W' := by
  have hr : ∀ (b : Nat) (sp : Nat → Bool) (hd : Bool), DataW.TrodAll enc Tryz.prog W' b sp hd f.resultTypes.toList ((Value.bool true).resultList f.resultTypes.size) (s.fn H (ds ++ [])).results [] := by
    intro b sp hd
    rw [hrt, hres]
    exact trodAll_mk1 (shut_bool Tryz.underlying4 _)
  exact ⟨ds, [], before, [], before, [], hW, hr _ _ _, by rw [hfa]; exact hargs, by rw [hfv, hsv]; rfl, World.keptBut_mono (fun p hp => ⟨hp, Or.inr (Or.inl hp)⟩) (hb.frame (· ∈ before)), fun h => by cases h⟩
theorem laidOut : laidOutB Tryz.prog = true := by kernel_rfl
end A2
open A2
/-- A row of cells that came in, one cell each. -/
def Arg1 {α : Type} (f : α → Value) (v : Value) (l : List α) (w : World) : Prop := ∃ pa cap, v = .slice pa l.length cap ∧ ∀ k c, l[k]? = some c → ∃ g o, pa = some ⟨g, o, none⟩ ∧ g < w.heap.size ∧ w.cell? ⟨g, o + k, none⟩ = some (f c)
theorem Arg1.below {α : Type} {f : α → Value} {v : Value} {l : List α} {w w' : World} (h : Arg1 f v l w) (hb : Below w.heap.size w w') : Arg1 f v l w' := by
  obtain ⟨pa, cap, e, hc⟩ := h
  refine ⟨pa, cap, e, fun k c hk => ?_⟩
  obtain ⟨g, o, e2, hg, a0⟩ := hc k c hk
  exact ⟨g, o, e2, Nat.lt_of_lt_of_le hg hb.size, (hb.cell (p := ⟨g, _, none⟩) hg).trans a0⟩

theorem i64_and65535 (n : Int) : bits .and .i64 n 65535 = n % 65536 := by
  have h1 : (BitVec.ofInt 64 65535).toNat = 2 ^ 16 - 1 := by decide
  have key : (BitVec.ofInt 64 n &&& BitVec.ofInt 64 65535).toNat = (n % ((2 ^ 64 : Nat) : Int)).toNat % 2 ^ 16 := by
    rw [BitVec.toNat_and, BitVec.toNat_ofInt, h1, Nat.and_two_pow_sub_one_eq_mod]
  show IntKind.i64.wrap ((BitVec.ofInt 64 n &&& BitVec.ofInt 64 65535).toNat : Nat) = n % 65536
  rw [key, IntKind.wrap_i64]
  omega

theorem cell_row {α : Type} {f : α → Value} {W : World} {a0 : Option Addr} {len0 cap0 : Nat} (each : ∀ a, a0 = some a → ∀ i, i < len0 → ∃ c : α, W.cell? (a.add i) = some (f c)) (hn : a0 = none → len0 = 0) (d : α) : ∃ l : List α, Arg1 f (.slice a0 len0 cap0) l W ∧ l.length = len0 := by
  cases a0 with
  | none =>
    obtain rfl := hn rfl
    exact ⟨[], ⟨none, cap0, rfl, fun k x hx => by simp at hx⟩, rfl⟩
  | some a =>
    haveI : Inhabited α := ⟨d⟩
    obtain ⟨X, hX⟩ := choose_lt (α := α) (p := fun i c => W.cell? (a.add i) = some (f c)) (each a rfl)
    refine ⟨(List.range len0).map X, ⟨some a, cap0, by simp, ?_⟩, by simp⟩
    intro k c hk
    have hkl : k < len0 := by
      have := (List.getElem?_eq_some_iff.1 hk).1
      simpa using this
    rw [List.getElem?_map, List.getElem?_range hkl] at hk
    simp at hk
    subst hk
    have h0 := hX k hkl
    have hz := hX 0 (by omega)
    rw [Addr.add_zero'] at hz
    obtain ⟨hb, hsp⟩ := cell_block hz
    have ha := plain_addr hsp
    generalize a.block = g at ha hb
    generalize a.off = o at ha
    subst ha
    rw [add_plain] at h0
    exact ⟨g, o, rfl, hb, h0⟩

set_option maxRecDepth 100000 in
theorem ints_of {H : Type} {enc : TypeId × Value → H} {W : World} {r : Reach} {b0 : Nat} {v : Value} {d : DataW H} {ps : List MemPlace} (hval : Value.okWide Tryz.prog W r b0 39 v) (h : DataW.Trod enc Tryz.prog W 0 (fun _ => true) true 39 v d ps) :
    ∃ l : List Int, Arg1 (fun n => Value.int .i64 n) v l W ∧ l.length ≤ maxLen := by
  obtain ⟨a0, len0, cap0, rfl⟩ := okWide_slice Tryz.underlying39 hval
  obtain ⟨fuel, hf⟩ := h
  have e : (Value.slice a0 len0 cap0).cells.toList = [Value.slice a0 len0 cap0] := rfl
  rw [e] at hf
  have c5 : Tryz.prog.cellsOf 3 = 1 := by kernel_rfl
  rcases open_slice1 Tryz.underlying39 c5 hf with ⟨hcs, _⟩ | ⟨a, len, cap, m, n, V, D, Pl, hcs, _, hlc, hm, hmm, _, hx⟩
  · cases hcs
    exact ⟨[], ⟨none, 0, rfl, fun k x hx => by simp at hx⟩, Nat.zero_le _⟩
  · cases hcs
    rw [if_pos rfl] at hmm
    have each : ∀ i, i < len0 → ∃ c : Int, W.cell? (a.add i) = some (.int .i64 c) := by
      intro i hi
      obtain ⟨h1, h2⟩ := hx i (by omega)
      obtain ⟨n0, q0, _, hw⟩ := DataW.trod_int Tryz.underlying3 h2
      refine ⟨n0, ?_⟩
      rw [h1]
      have := (List.cons.inj q0).1
      rw [this]
    obtain ⟨l, hl, hle⟩ := cell_row (f := fun n => Value.int .i64 n) (cap0 := cap0) (a0 := some a) (fun a' ha' i hi => by cases ha'; exact each i hi) (fun h => by cases h) 0
    exact ⟨l, hl, by omega⟩
end Go.Proofs.YtbdjccmcdifjcaaGreatDoor

set_option linter.unusedVariables false
set_option linter.unusedSimpArgs false
namespace Go.Proofs.YtbdjccmcdifjcaaGreatDoor
open Go.ChangeShapes Go.WideShapes Go.ChangeAt Go.WideMaps Go.WideElems Go.RowKit Go.Deep
open A2

def ArgL (v : Value) (x : Sp.LineD) (w : World) : Prop := ∃ vt, v = .agg #[.int .i64 x.1, vt, .bool x.2.2.1, .string ⟨x.2.2.2.toArray⟩] ∧ Arg4 vt x.2.1 w
def Bnd (x : Sp.LineD) : Prop := x.2.1.length ≤ maxLen ∧ (∀ y ∈ x.2.1, y.2.2.1.length ≤ maxLen) ∧ x.2.2.2.length ≤ maxLen
theorem ArgL.below {v : Value} {x : Sp.LineD} {w w' : World} (h : ArgL v x w) (hb : Below w.heap.size w w') : ArgL v x w' := by
  obtain ⟨vt, e, h⟩ := h
  exact ⟨vt, e, h.below hb⟩
def ArgLs (v : Value) (l : List Sp.LineD) (w : World) : Prop := ∃ pa cap, v = .slice pa l.length cap ∧ ∀ k x, l[k]? = some x → ∃ g o vt, pa = some ⟨g, o, none⟩ ∧ g < w.heap.size ∧
    w.cell? ⟨g, o + k * 4, none⟩ = some (.int .i64 x.1) ∧ w.cell? ⟨g, o + k * 4 + 1, none⟩ = some vt ∧ w.cell? ⟨g, o + k * 4 + 2, none⟩ = some (.bool x.2.2.1) ∧ w.cell? ⟨g, o + k * 4 + 3, none⟩ = some (.string ⟨x.2.2.2.toArray⟩) ∧ Arg4 vt x.2.1 w
theorem ArgLs.below {v : Value} {l : List Sp.LineD} {w w' : World} (h : ArgLs v l w) (hb : Below w.heap.size w w') : ArgLs v l w' := by
  obtain ⟨pa, cap, e, hc⟩ := h
  refine ⟨pa, cap, e, fun k x hx => ?_⟩
  obtain ⟨g, o, vt, e2, hg, a0, a1, a2, a3, a4⟩ := hc k x hx
  exact ⟨g, o, vt, e2, Nat.lt_of_lt_of_le hg hb.size, (hb.cell (p := ⟨g, _, none⟩) hg).trans a0, (hb.cell (p := ⟨g, _, none⟩) hg).trans a1, (hb.cell (p := ⟨g, _, none⟩) hg).trans a2, (hb.cell (p := ⟨g, _, none⟩) hg).trans a3, a4.below hb⟩

set_option maxRecDepth 100000 in
theorem arg4_core {H : Type} {enc : TypeId × Value → H} {W : World} {fuel : Nat} {v : Value} {y : DataW H × List MemPlace} (hf : DataW.trod enc Tryz.prog W 0 (fun _ => true) true fuel 25 [v] = some y) :
    ∃ l : List T4, Arg4 v l W ∧ l.length ≤ maxLen ∧ ∀ x ∈ l, x.2.2.1.length ≤ maxLen := by
  rcases open_slice Tryz.underlying25 hf with ⟨hcs, _⟩ | ⟨a, len0, cap0, m, n, D, Pl, hcs, _, hlc, hm, hmm, _, hx⟩
  · cases hcs
    exact ⟨[], ⟨none, 0, rfl, fun k x hx => by simp at hx⟩, Nat.zero_le _, fun x hx => by simp at hx⟩
  · cases hcs
    rw [if_pos rfl] at hmm
    have ce : Tryz.prog.cellsOf 37 = 4 := by kernel_rfl
    have c3 : Tryz.prog.cellsOf 3 = 1 := by kernel_rfl
    have c9 : Tryz.prog.cellsOf 9 = 1 := by kernel_rfl
    have c2 : Tryz.prog.cellsOf 2 = 1 := by kernel_rfl
    have each : ∀ i, i < len0 → ∃ x : T4, (W.cell? (a.add (i * 4)) = some (.int .i64 x.1) ∧ W.cell? (a.add (i * 4 + 1)) = some (.int .i64 x.2.1) ∧ W.cell? (a.add (i * 4 + 2)) = some (.string ⟨x.2.2.1.toArray⟩) ∧ W.cell? (a.add (i * 4 + 3)) = some (.int .i64 x.2.2.2)) ∧ x.2.2.1.length ≤ maxLen := by
      intro i hi
      obtain ⟨cs', h1, h2⟩ := hx i (by omega)
      rw [ce] at h1
      obtain ⟨_, hlen, hcell⟩ := World.cells?_some h1
      obtain ⟨xs, k, hk, hxy, _, hxl, hff⟩ := DataW.trod_struct Tryz.underlying37 h2
      match xs, hxl, cs', hlen with
      | [y0, y1, y2, y3], _, [v0, v1, v2, v3], _ =>
        have g0 := hff 0 _ rfl
        have g1 := hff 1 _ rfl
        have g2 := hff 2 _ rfl
        have g3 := hff 3 _ rfl
        simp [c3, c9, c2] at g0 g1 g2 g3
        have e0 := hcell 0 (by omega)
        have e1 := hcell 1 (by omega)
        have e2 := hcell 2 (by omega)
        have e3 := hcell 3 (by omega)
        rw [add_add] at e0 e1 e2 e3
        obtain ⟨n0, q0, _, _⟩ := DataW.trod_int Tryz.underlying3 g0
        obtain ⟨n1, q1, _, _⟩ := DataW.trod_int Tryz.underlying3 g1
        obtain ⟨s2, q2, _, hs2⟩ := DataW.trod_string Tryz.underlying9 g2
        obtain ⟨n3, q3, _, _⟩ := DataW.trod_int Tryz.underlying2 g3
        cases q0
        cases q1
        cases q2
        cases q3
        refine ⟨(n0, n1, s2.data.toList, n3), ⟨by simpa using e0, by simpa using e1, ?_, by simpa using e3⟩, ?_⟩
        · show W.cell? (a.add (i * 4 + 2)) = some (.string ⟨s2.data.toList.toArray⟩)
          rw [toArray_data]
          simpa using e2
        · show s2.data.toList.length ≤ maxLen
          rw [size_list]
          exact hs2
    obtain ⟨X, hX⟩ := choose_lt (α := T4) (p := fun i x => (W.cell? (a.add (i * 4)) = some (.int .i64 x.1) ∧ W.cell? (a.add (i * 4 + 1)) = some (.int .i64 x.2.1) ∧ W.cell? (a.add (i * 4 + 2)) = some (.string ⟨x.2.2.1.toArray⟩) ∧ W.cell? (a.add (i * 4 + 3)) = some (.int .i64 x.2.2.2)) ∧ x.2.2.1.length ≤ maxLen) each
    refine ⟨(List.range len0).map X, ⟨some a, cap0, by simp, ?_⟩, by simp; omega, ?_⟩
    · intro k x hk
      have hkl : k < len0 := by
        have := (List.getElem?_eq_some_iff.1 hk).1
        simpa using this
      rw [List.getElem?_map, List.getElem?_range hkl] at hk
      simp at hk
      subst hk
      obtain ⟨⟨h0, h1, h2, h3⟩, _⟩ := hX k hkl
      have hz := (hX 0 (by omega)).1.1
      rw [Nat.zero_mul, Addr.add_zero'] at hz
      obtain ⟨hb, hsp⟩ := cell_block hz
      have ha := plain_addr hsp
      generalize a.block = g at ha hb
      generalize a.off = o at ha
      subst ha
      rw [add_plain] at h0 h1 h2 h3
      rw [← Nat.add_assoc] at h1 h2 h3
      exact ⟨g, o, rfl, hb, h0, h1, h2, h3⟩
    · intro x hx
      obtain ⟨i, hi, rfl⟩ := List.mem_map.1 hx
      exact (hX i (List.mem_range.1 hi)).2

set_option maxRecDepth 100000 in
theorem line_core {H : Type} {enc : TypeId × Value → H} {W : World} {fuel : Nat} {v0 v1 v2 v3 : Value} {y : DataW H × List MemPlace} (hf : DataW.trod enc Tryz.prog W 0 (fun _ => true) true fuel 27 [v0, v1, v2, v3] = some y) :
    ∃ x : Sp.LineD, (v0 = .int .i64 x.1 ∧ v2 = .bool x.2.2.1 ∧ v3 = .string ⟨x.2.2.2.toArray⟩ ∧ Arg4 v1 x.2.1 W) ∧ Bnd x := by
  have c3 : Tryz.prog.cellsOf 3 = 1 := by kernel_rfl
  have c9 : Tryz.prog.cellsOf 9 = 1 := by kernel_rfl
  have cb : Tryz.prog.cellsOf 4 = 1 := by kernel_rfl
  have ct : Tryz.prog.cellsOf 25 = 1 := by kernel_rfl
  obtain ⟨xs, k, hk, hxy, _, hxl, hff⟩ := DataW.trod_struct Tryz.underlying27 hf
  match xs, hxl with
  | [y0, y1, y2, y3], _ =>
    have g0 := hff 0 _ rfl
    have g1 := hff 1 _ rfl
    have g2 := hff 2 _ rfl
    have g3 := hff 3 _ rfl
    simp [c3, c9, cb, ct] at g0 g1 g2 g3
    obtain ⟨n0, q0, _, _⟩ := DataW.trod_int Tryz.underlying3 g0
    obtain ⟨l, ha, hl, hts⟩ := arg4_core g1
    obtain ⟨b2, q2, _⟩ := DataW.trod_bool Tryz.underlying4 g2
    obtain ⟨s3, q3, _, hs3⟩ := DataW.trod_string Tryz.underlying9 g3
    cases q0
    cases q2
    cases q3
    refine ⟨(n0, l, b2, s3.data.toList), ⟨rfl, rfl, ?_, ha⟩, hl, hts, ?_⟩
    · show Value.string s3 = .string ⟨s3.data.toList.toArray⟩
      rw [toArray_data]
    · show s3.data.toList.length ≤ maxLen
      rw [size_list]
      exact hs3

set_option maxRecDepth 100000 in
/-- A line that came in. -/
theorem line_of {H : Type} {enc : TypeId × Value → H} {W : World} {r : Reach} {b0 : Nat} {v : Value} {d : DataW H} {ps : List MemPlace} (hval : Value.okWide Tryz.prog W r b0 27 v) (h : DataW.Trod enc Tryz.prog W 0 (fun _ => true) true 27 v d ps) :
    ∃ x : Sp.LineD, ArgL v x W ∧ Bnd x := by
  obtain ⟨cs, rfl, hcs⟩ := okWide_struct Tryz.underlying27 hval
  have ce : Tryz.prog.cellsOf 27 = 4 := by kernel_rfl
  rw [ce] at hcs
  obtain ⟨fuel, hf⟩ := h
  obtain ⟨cl⟩ := cs
  match cl, hcs with
  | [v0, v1, v2, v3], _ =>
    have e : (Value.agg ⟨[v0, v1, v2, v3]⟩).cells.toList = [v0, v1, v2, v3] := rfl
    rw [e] at hf
    obtain ⟨x, ⟨rfl, rfl, rfl, ha⟩, hb⟩ := line_core hf
    exact ⟨x, ⟨v1, rfl, ha⟩, hb⟩

set_option maxRecDepth 100000 in
/-- A row of lines that came in. -/
theorem lines_of {H : Type} {enc : TypeId × Value → H} {W : World} {r : Reach} {b0 : Nat} {v : Value} {d : DataW H} {ps : List MemPlace} (hval : Value.okWide Tryz.prog W r b0 22 v) (h : DataW.Trod enc Tryz.prog W 0 (fun _ => true) true 22 v d ps) :
    ∃ l : List Sp.LineD, ArgLs v l W ∧ l.length ≤ maxLen ∧ ∀ x ∈ l, Bnd x := by
  obtain ⟨a0, len0, cap0, rfl⟩ := okWide_slice Tryz.underlying22 hval
  obtain ⟨fuel, hf⟩ := h
  have e : (Value.slice a0 len0 cap0).cells.toList = [Value.slice a0 len0 cap0] := rfl
  rw [e] at hf
  rcases open_slice Tryz.underlying22 hf with ⟨hcs, _⟩ | ⟨a, len, cap, m, n, D, Pl, hcs, _, hlc, hm, hmm, _, hx⟩
  · cases hcs
    exact ⟨[], ⟨none, 0, rfl, fun k x hx => by simp at hx⟩, Nat.zero_le _, fun x hx => by simp at hx⟩
  · cases hcs
    rw [if_pos rfl] at hmm
    have ce : Tryz.prog.cellsOf 27 = 4 := by kernel_rfl
    have each : ∀ i, i < len0 → ∃ z : Sp.LineD × Value, (W.cell? (a.add (i * 4)) = some (.int .i64 z.1.1) ∧ W.cell? (a.add (i * 4 + 1)) = some z.2 ∧ W.cell? (a.add (i * 4 + 2)) = some (.bool z.1.2.2.1) ∧ W.cell? (a.add (i * 4 + 3)) = some (.string ⟨z.1.2.2.2.toArray⟩) ∧ Arg4 z.2 z.1.2.1 W) ∧ Bnd z.1 := by
      intro i hi
      obtain ⟨cs', h1, h2⟩ := hx i (by omega)
      rw [ce] at h1
      obtain ⟨_, hlen, hcell⟩ := World.cells?_some h1
      match cs', hlen with
      | [v0, v1, v2, v3], _ =>
        have e0 := hcell 0 (by omega)
        have e1 := hcell 1 (by omega)
        have e2 := hcell 2 (by omega)
        have e3 := hcell 3 (by omega)
        rw [add_add] at e0 e1 e2 e3
        obtain ⟨x, ⟨rfl, rfl, rfl, ha⟩, hb⟩ := line_core h2
        exact ⟨(x, v1), ⟨by simpa using e0, by simpa using e1, by simpa using e2, by simpa using e3, ha⟩, hb⟩
    haveI : Inhabited (Sp.LineD × Value) := ⟨((0, [], false, []), .bool true)⟩
    obtain ⟨X, hX⟩ := choose_lt (α := Sp.LineD × Value) (p := fun i z => (W.cell? (a.add (i * 4)) = some (.int .i64 z.1.1) ∧ W.cell? (a.add (i * 4 + 1)) = some z.2 ∧ W.cell? (a.add (i * 4 + 2)) = some (.bool z.1.2.2.1) ∧ W.cell? (a.add (i * 4 + 3)) = some (.string ⟨z.1.2.2.2.toArray⟩) ∧ Arg4 z.2 z.1.2.1 W) ∧ Bnd z.1) each
    refine ⟨(List.range len0).map fun i => (X i).1, ⟨some a, cap0, by simp, ?_⟩, by simp; omega, ?_⟩
    · intro k x hk
      have hkl : k < len0 := by
        have := (List.getElem?_eq_some_iff.1 hk).1
        simpa using this
      rw [List.getElem?_map, List.getElem?_range hkl] at hk
      simp at hk
      subst hk
      obtain ⟨⟨h0, h1, h2, h3, h4⟩, _⟩ := hX k hkl
      have hz := (hX 0 (by omega)).1.1
      rw [Nat.zero_mul, Addr.add_zero'] at hz
      obtain ⟨hb, hsp⟩ := cell_block hz
      have ha := plain_addr hsp
      generalize a.block = g at ha hb
      generalize a.off = o at ha
      subst ha
      rw [add_plain] at h0 h1 h2 h3
      rw [← Nat.add_assoc] at h1 h2 h3
      exact ⟨g, o, _, rfl, hb, h0, h1, h2, h3, h4⟩
    · intro x hx
      obtain ⟨i, hi, rfl⟩ := List.mem_map.1 hx
      exact (hX i (List.mem_range.1 hi)).2
end Go.Proofs.YtbdjccmcdifjcaaGreatDoor

set_option linter.unusedVariables false
set_option linter.unusedSimpArgs false
namespace Go.Proofs.YtbdjccmcdifjcaaGreatDoor
open Go.RowKit Go.Shelf

set_option maxHeartbeats 2000000 in
theorem alike_any (B B' : Nat) (va vb : Value) (l m : List T4) (w : World) (ha : Row4 B va l w) (hb : Row4 B' vb m w) (h : Hid (l.map Sp.bare = m.map Sp.bare)) (hl : l.length ≤ 1000000) :
    Calls Tryz.prog 14 #[va, vb] w fun e w' => e = .returned (.bool true) ∧ Below w.heap.size w w' := by
  obtain ⟨pa, ca, rfl, fa⟩ := ha.form
  obtain ⟨pb, cb, rfl, fb⟩ := hb.form
  have hlen : l.length = m.length := by
    have := congrArg List.length h.out
    rwa [List.length_map, List.length_map] at this
  have gl : ((l.length : Int) != (m.length : Int)) = false := by simp; omega
  have hlm : Hid (l.length = m.length) := hlen
  have FA := Lib.hid fa
  have FB := Lib.hid fb
  clear fa fb hlen ha hb
  go_enter Tryz.func14, Tryz.ntmps14
  go_wp2_with fail
  go_loopw [5] (fun i wr => ∃ k : Nat, i = .int .i64 k ∧ k ≤ l.length ∧ ∃ q, wr = w.drewN q) (fun i wr => l.length - (intOf i).toNat)
  case atStart => exact ⟨0, rfl, Nat.zero_le _, 0, rfl⟩
  case round =>
    obtain ⟨k, rfl, hk, q, rfl⟩ := hrel
    by_cases hlt : k < l.length
    · have hkm : k < m.length := by have := hlm.out; omega
      obtain ⟨x, hx⟩ : ∃ x, l[k]? = some x := ⟨_, List.getElem?_eq_getElem hlt⟩
      obtain ⟨y, hy⟩ : ∃ y, m[k]? = some y := ⟨_, List.getElem?_eq_getElem hkm⟩
      have hxy : Sp.bare x = Sp.bare y := by
        have h1 : (l.map Sp.bare)[k]? = some (Sp.bare x) := by rw [List.getElem?_map, hx]; rfl
        have h2 : (m.map Sp.bare)[k]? = some (Sp.bare y) := by rw [List.getElem?_map, hy]; rfl
        rw [h.out, h2] at h1
        exact (Option.some.inj h1).symm
      obtain ⟨x0, x1, x2, x3⟩ := x
      obtain ⟨y0, y1, y2, y3⟩ := y
      obtain ⟨rfl, h2, rfl⟩ : x0 = y0 ∧ x2 = y2 ∧ x3 = y3 := by
        unfold Sp.bare at hxy
        simp only [Prod.mk.injEq] at hxy
        exact hxy
      subst h2
      obtain ⟨ga, rfl, hga, _, a0, a1, a2, a3⟩ := FA.out k _ hx
      obtain ⟨gb, rfl, hgb, _, b0, b1, b2, b3⟩ := FB.out k _ hy
      simp only at a0 a1 a2 a3 b0 b1 b2 b3
      obtain ⟨tb, htb⟩ : ∃ tb : ByteArray, tb = ⟨x2.toArray⟩ := ⟨_, rfl⟩
      rw [← htb] at a2 b2
      have g0 : ((x0 : Int) != x0) = false := by simp
      have g3 : ((x3 : Int) != x3) = false := by simp
      have g2 : (tb.toList != tb.toList) = false := by simp
      clear htb hx hy FA FB h hlm hga hgb hxy
      go_wp2_with fail
      go_quiet (fail)
      go_wp2_with fail
      refine ⟨⟨k + 1, by go_num, by omega, _, rfl⟩, by simp [intOf]; omega⟩
    · clear FA FB
      go_wp2_with fail
      go_ret
      exact ⟨rfl, below_drewN (Below.refl _ _) _⟩
end Go.Proofs.YtbdjccmcdifjcaaGreatDoor

set_option linter.unusedVariables false
set_option linter.unusedSimpArgs false
namespace Go.Proofs.YtbdjccmcdifjcaaGreatDoor
open Go.RowKit Go.Shelf

theorem keep_long {z : T4} (h : ¬ z.2.2.1.length ≤ 20) : Sp.keep8 z = false := by unfold Sp.keep8; simp; omega
theorem keep_other {z : T4} (h : z.2.2.1.length ≤ 20) (h4 : ¬ z.1 = 4) : Sp.keep8 z = true := by
  unfold Sp.keep8 Sp.bk
  rw [if_neg h4]
  simpa using h
theorem keep_two {z : T4} (h : z.2.2.1.length ≤ 20) (h1 : ¬ z.2.2.1.length = 1) : Sp.keep8 z = true := by
  unfold Sp.keep8 Sp.bk
  have e : ∀ c : UInt8, ¬ z.2.2.1 = [c] := fun c e => h1 (by rw [e]; rfl)
  simp [e, h]
theorem keep_one {z : T4} {c : UInt8} (h4 : z.1 = 4) (e : z.2.2.1 = [c]) : Sp.keep8 z = !(decide (c = 40) || decide (c = 41) || decide (c = 91) || decide (c = 93) || decide (c = 123) || decide (c = 125)) := by
  unfold Sp.keep8 Sp.bk
  rw [if_pos h4, e]
  by_cases h1 : c = 40
  · subst h1; rfl
  by_cases h2 : c = 41
  · subst h2; rfl
  by_cases h3 : c = 91
  · subst h3; rfl
  by_cases h4 : c = 93
  · subst h4; rfl
  by_cases h5 : c = 123
  · subst h5; rfl
  by_cases h6 : c = 125
  · subst h6; rfl
  simp [h1, h2, h3, h4, h5, h6]
theorem body_next (l : List T4) (k : Nat) (x : T4) (h : l[k]? = some x) : ((l.take (k + 1)).map Sp.fit4).filter Sp.keep8 = ((l.take k).map Sp.fit4).filter Sp.keep8 ++ if Sp.keep8 (Sp.fit4 x) then [Sp.fit4 x] else [] := by
  rw [List.take_add_one, h, List.map_append, List.filter_append]
  congr 1
  show List.filter Sp.keep8 [Sp.fit4 x] = _
  rw [List.filter_cons]
  rfl
theorem lineB_next (F : List T4) (x : T4) : Sp.lineB (Sp.on1 (F ++ [x])) = Sp.lineB (Sp.on1 F) ++ 32 :: Sp.textB x := by
  have e : Sp.on1 (F ++ [x]) = Sp.on1 F ++ [(0, x)] := by unfold Sp.on1; rw [List.map_append]; rfl
  rw [e, Sp.lineB_snoc]
  rfl

theorem cmt_next (c : Sp.Bs) (i : Nat) (b : UInt8) (h : c[i]? = some b) (hi : i < 20) : ((c.take (i + 1)).filter fun b : UInt8 => decide (¬ b.toNat = 10)) = ((c.take i).filter fun b : UInt8 => decide (¬ b.toNat = 10)) ++ if b.toNat = 10 then [] else [b] := by
  rw [List.take_add_one, h, List.filter_append]
  congr 1
  show List.filter _ [b] = _
  rw [List.filter_cons]
  by_cases hb : b.toNat = 10
  · rw [if_pos hb]; simp [hb]
  · rw [if_neg hb]; simp [hb]

set_option maxHeartbeats 16000000 in
set_option maxRecDepth 100000 in
theorem ltext_any (v : Value) (x : Sp.LineD) (w : World) (ha : ArgL v x w) (hb : Bnd x) : Calls Tryz.prog 12 #[v] w fun e w' => e = .returned (.string ⟨(Sp.txt x).toArray⟩) ∧ Below w.heap.size w w' := by
  obtain ⟨n, l, em, c⟩ := x
  obtain ⟨vt, rfl, pa, ca, rfl, fa⟩ := ha
  obtain ⟨hl, hts, hc⟩ := hb
  simp only at hl hts hc fa ⊢
  have FA := Lib.hid fa
  have HTS := Lib.hid hts
  obtain ⟨cb, hcb⟩ : ∃ cb : ByteArray, cb = ⟨c.toArray⟩ := ⟨_, rfl⟩
  have hcl : cb.data.toList = c := by rw [hcb]
  have hcs : cb.size ≤ 9223372036854775807 := by rw [← size_list, hcl]; unfold maxLen at hc; omega
  rw [← hcb]
  have HCL := Lib.hid hcl
  obtain ⟨y, hy⟩ : ∃ y, y = Sp.wide n := ⟨_, rfl⟩
  have hy12 : y < 12 := by rw [hy]; exact Sp.wide_lt n
  have hand := i64_and65535 n
  have hrem : (n % 65536).tmod 12 = (y : Int) := by
    rw [Int.tmod_eq_emod_of_nonneg (by omega), hy]
    unfold Sp.wide
    omega
  have HTX : Hid (Sp.txt (n, l, em, c) = List.replicate y 32 ++ if em then Sp.cmt c else 120 :: (Sp.lineB (Sp.on1 (Sp.bodyL l)) ++ 32 :: Sp.cmt c)) := by
    show _ = _
    rw [hy]
    rfl
  rw [HTX.out]
  unfold maxLen at hl
  clear fa hts hcb hcl hc hy HTX
  go_enter Tryz.func12, Tryz.ntmps12
  have hci : ∀ (wx : World) (j : Nat) (v : Value), (#[.int .i64 n, .slice pa l.length ca, .bool em, .string cb] : Array Value)[j]? = some v → Below (w.heap.size + 1) (w.alloc (Obj.cells #[.int .i64 n, .slice pa l.length ca, .bool em, .string cb] 27)) wx → wx.cell? ⟨w.heap.size, j, none⟩ = some v := by
    intro wx j v hv hbx
    rw [hbx.cell (p := ⟨w.heap.size, j, none⟩) (by simp)]
    unfold World.cell?
    have hh : (w.alloc (Obj.cells #[.int .i64 n, .slice pa l.length ca, .bool em, .string cb] 27)).heap[w.heap.size]? = some (.cells #[.int .i64 n, .slice pa l.length ca, .bool em, .string cb] 27) := by
      show (w.heap.push _)[w.heap.size]? = _
      simp
    rw [hh]
    exact hv
  go_upto_if 11 with (fail)
  go_cut [3] (fun v3 wx => (∃ sb : ByteArray, v3 = .string sb ∧ Hid (sb.data.toList = Sp.cmt c) ∧ sb.size ≤ 21) ∧ wx = w.alloc (Obj.cells #[.int .i64 n, .slice pa l.length ca, .bool em, .string cb] 27))
  case first =>
    clear hci FA HTS hand hrem hl hy12
    by_cases h0 : 0 < cb.size
    · have hcne : Hid (∀ l : Sp.Bs, (35 :: l) = (35 :: Sp.cmtL c) → (35 :: l) = Sp.cmt c) := by
        intro l h
        rw [h]
        unfold Sp.cmt
        rw [if_neg]
        intro e
        have := HCL.out
        rw [e] at this
        have h2 : cb.size = 0 := by rw [← size_list, this]; rfl
        omega
      go_wp2_with fail
      go_loop [3, 4] (fun v3 v4 => ∃ (k : Nat) (sb : ByteArray), v3 = .string sb ∧ v4 = .int .i64 k ∧ k ≤ cb.size ∧ k ≤ 20 ∧ sb.size ≤ 1 + k ∧ Hid (sb.data.toList = 35 :: ((c.take k).filter fun b : UInt8 => decide (¬ b.toNat = 10)))) (fun _ v4 => 20 - (intOf v4).toNat)
      case atStart => exact ⟨0, ⟨#[35]⟩, rfl, rfl, Nat.zero_le _, Nat.zero_le _, Nat.le_refl _, rfl⟩
      case round =>
        obtain ⟨k, sb, rfl, rfl, hk, hk20, hss, HS⟩ := hrel
        by_cases hlt : k < cb.size
        · by_cases hlt2 : k < 20
          · have hcx : c[k]? = some cb[k] := by
              rw [← HCL.out]
              simp [hlt]
              rfl
            have hnx := cmt_next c k cb[k] hcx hlt2
            have h2 : k + 1 ≤ cb.size := hlt
            obtain ⟨d, HD⟩ := hid_ex (cb.extract k (k + 1))
            have hdl : d.data.toList = [cb[k]] := by
              rw [← HD.out, extract_list]
              have := get_drop cb k hlt
              rw [this, show k + 1 - k = 1 by omega]
              rfl
            have hdz : d.size = 1 := by rw [← size_list, hdl]; rfl
            by_cases h10 : cb[k].toNat = 10
            · have g10 : ((cb[k].toNat : Int) != 10) = false := by simp; omega
              rw [if_pos h10, List.append_nil] at hnx
              have HN : Hid (sb.data.toList = 35 :: ((c.take (k + 1)).filter fun b : UInt8 => decide (¬ b.toNat = 10))) := by show _ = _; rw [hnx]; exact HS.out
              clear hnx hcx HS HCL hcne HD hdl h10
              go_wp2_with fail
              exact ⟨⟨k + 1, sb, rfl, by go_num, by omega, by omega, by omega, HN⟩, by simp [intOf]; omega⟩
            · have g10 : ((cb[k].toNat : Int) != 10) = true := by simp; omega
              rw [if_neg h10] at hnx
              have HN : Hid ((sb ++ d).data.toList = 35 :: ((c.take (k + 1)).filter fun b : UInt8 => decide (¬ b.toNat = 10))) := by
                show _ = _
                rw [hnx]
                have : (sb ++ d).data.toList = sb.data.toList ++ d.data.toList := by simp
                rw [this, HS.out, hdl]
                rfl
              have hsz : (sb ++ d).size ≤ 1 + (k + 1) := by rw [ByteArray.size_append, hdz]; omega
              clear hnx hcx HS HCL hcne hdl h10
              go_wp2_with fail
              rw [HD.out]
              exact ⟨⟨k + 1, _, rfl, by go_num, by omega, by omega, hsz, HN⟩, by simp [intOf]; omega⟩
          · have HN : Hid (sb.data.toList = Sp.cmt c) := by
              show _ = _
              obtain rfl : k = 20 := by omega
              rw [HS.out]
              exact hcne.out _ rfl
            clear HS HCL hcne
            go_wp2_with fail
            go_meet
            exact ⟨⟨sb, rfl, HN, by omega⟩, rfl⟩
        · have HN : Hid (sb.data.toList = Sp.cmt c) := by
            show _ = _
            rw [HS.out]
            refine hcne.out _ ?_
            unfold Sp.cmtL
            have hcl : c.length = cb.size := by rw [← HCL.out, size_list]
            rw [List.take_of_length_le (by omega), List.take_of_length_le (by omega)]
          clear HS HCL hcne
          go_wp2_with fail
          go_meet
          exact ⟨⟨sb, rfl, HN, by omega⟩, rfl⟩
    · have HN : Hid (([] : Sp.Bs) = Sp.cmt c) := by
        show _ = _
        have : c = [] := by
          rw [← HCL.out]
          exact list_of_size0 cb (by omega)
        rw [this]
        rfl
      clear HCL
      go_wp2_with fail
      go_meet
      exact ⟨⟨⟨#[]⟩, rfl, HN, by decide⟩, rfl⟩
  case rest =>
    obtain ⟨⟨sb, rfl, HC, hsb⟩, hw⟩ := hcut
    subst hw
    go_wp2_with fail
    refine (blanks2_any y (by omega) _).mono ?_
    rintro e w1 ⟨rfl, rfl⟩
    obtain ⟨pb, hpb⟩ : ∃ pb : ByteArray, pb = ⟨(List.replicate y 32).toArray⟩ := ⟨_, rfl⟩
    have hpl : pb.data.toList = List.replicate y 32 := by rw [hpb]
    have hpz : pb.size ≤ 11 := by rw [← size_list, hpl, List.length_replicate]; omega
    rw [← hpb]
    have HPL := Lib.hid hpl
    clear hpb hpl hand hrem hy12 HCL
    cases em with
    | true =>
      have HN : Hid ((pb ++ sb).data.toList = List.replicate y 32 ++ Sp.cmt c) := by
        show _ = _
        rw [← HPL.out, ← HC.out]
        simp
      clear HPL HC FA HTS
      go_wp2_with fail
      go_ret
      refine ⟨?_, (Below.refl _ w).alloc (Nat.le_refl _) _⟩
      show Ending.returned (.string (pb ++ sb)) = .returned (.string ⟨(List.replicate y 32 ++ Sp.cmt c).toArray⟩)
      rw [← HN.out, toArray_data]
    | false =>
      have hbel0 : Below w.heap.size w (w.alloc (Obj.cells #[.int .i64 n, .slice pa l.length ca, .bool false, .string cb] 27)) := (Below.refl _ w).alloc (Nat.le_refl _) _
      go_wp2_with fail
      go_loopw [5, 6] (fun v5 v6 wr => ∃ (k : Nat) (out : ByteArray), v5 = .string out ∧ v6 = .int .i64 k ∧ k ≤ l.length ∧ k ≤ 8 ∧ out.size ≤ 12 + 83 * k ∧ Hid (out.data.toList = List.replicate y 32 ++ 120 :: Sp.lineB (Sp.on1 (((l.take k).map Sp.fit4).filter Sp.keep8))) ∧ Below (w.heap.size + 1) (w.alloc (Obj.cells #[.int .i64 n, .slice pa l.length ca, .bool false, .string cb] 27)) wr) (fun _ v6 wr => 8 - (intOf v6).toNat)
      case atStart =>
        refine ⟨0, _, rfl, rfl, Nat.zero_le _, Nat.zero_le _, ?_, ?_, Below.refl _ _⟩
        · simp only [ByteArray.size_append]
          show pb.size + 1 ≤ _
          omega
        · show _ = _
          have : (pb ++ (⟨#[120]⟩ : ByteArray)).data.toList = pb.data.toList ++ [120] := by simp
          rw [this, HPL.out]
          rfl
      case round =>
        obtain ⟨k, out, rfl, rfl, hk, hk8, hos, HO, hbel⟩ := hrel
        have c1 := hci _ 1 _ rfl hbel
        have hbr := hbel.size
        simp at hbr
        have HBW : Hid (Below w.heap.size w wr) := hbel0.trans (hbel.mono (by omega))
        by_cases hlt : k < l.length
        · by_cases hlt2 : k < 8
          · obtain ⟨x, hx⟩ : ∃ x, l[k]? = some x := ⟨_, List.getElem?_eq_getElem hlt⟩
            have htx := HTS.out x (List.mem_of_getElem? hx)
            unfold maxLen at htx
            obtain ⟨g, o, rfl, hg, a0, a1, a2, a3⟩ := FA.out k x hx
            have b0 := (HBW.out.cell (p := ⟨g, o + k * 4, none⟩) hg).trans a0
            have b1 := (HBW.out.cell (p := ⟨g, o + k * 4 + 1, none⟩) hg).trans a1
            have b2 := (HBW.out.cell (p := ⟨g, o + k * 4 + 2, none⟩) hg).trans a2
            have b3 := (HBW.out.cell (p := ⟨g, o + k * 4 + 3, none⟩) hg).trans a3
            clear a0 a1 a2 a3
            obtain ⟨tb, htb⟩ : ∃ tb : ByteArray, tb = ⟨x.2.2.1.toArray⟩ := ⟨_, rfl⟩
            have htl : tb.data.toList = x.2.2.1 := by rw [htb]
            have htbs : tb.size ≤ 9223372036854775807 := by rw [← size_list, htl]; exact htx
            rw [← htb] at b2
            obtain ⟨z, HZ⟩ := hid_ex (Sp.fit4 x)
            obtain ⟨zb, hzb⟩ : ∃ zb : ByteArray, zb = ⟨z.2.2.1.toArray⟩ := ⟨_, rfl⟩
            have hzl : zb.data.toList = z.2.2.1 := by rw [hzb]
            have HFIT : Hid (∀ w, Calls Tryz.prog 20 #[.agg #[.int .i64 x.1, .int .i64 x.2.1, .string tb, .int .i64 x.2.2.2]] w fun e w' => e = .returned (.agg #[.int .i64 z.1, .int .i64 z.2.1, .string zb, .int .i64 z.2.2.2]) ∧ Below w.heap.size w w') := by
              intro w
              refine (fitOne_any x.1 x.2.1 x.2.2.2 tb htbs w).mono ?_
              rintro e w' ⟨rfl, hb⟩
              refine ⟨?_, hb⟩
              rw [htl]
              show Ending.returned (agg4 (Sp.fit4 x)) = _
              rw [HZ.out, hzb]
              rfl
            have hnx := body_next l k x hx
            rw [HZ.out] at hnx
            obtain ⟨kb, HK⟩ := hid_ex (Sp.keep8 z)
            rw [HK.out] at hnx
            have hgood : kb = true → Sp.good z := by
              intro h
              rw [← HZ.out]
              refine Sp.fit4_good' x ?_
              rw [HZ.out]
              have := HK.out
              rw [h] at this
              unfold Sp.keep8 at this
              simp only [Bool.and_eq_true, decide_eq_true_eq] at this
              exact this.1
            have HG := Lib.hid hgood
            have HNX := Lib.hid hnx
            have HZL := Lib.hid hzl
            have hwr : w.heap.size + 1 ≤ wr.heap.size := hbr
            clear htx hx htb htl HZ hzb hzl FA HTS hnx hgood
            have hcase : (kb = false ∧ (20 < zb.size ∨ (z.1 = 4 ∧ ∃ c : UInt8, zb = ⟨#[c]⟩ ∧ (c = 40 ∨ c = 41 ∨ c = 91 ∨ c = 93 ∨ c = 123 ∨ c = 125)))) ∨ (kb = true ∧ ¬ 20 < zb.size ∧ (¬ z.1 = 4 ∨ (z.1 = 4 ∧ ¬ zb.size = 1) ∨ (z.1 = 4 ∧ ∃ c : UInt8, zb = ⟨#[c]⟩ ∧ ¬ (c = 40 ∨ c = 41 ∨ c = 91 ∨ c = 93 ∨ c = 123 ∨ c = 125)))) := by
              have hzs : z.2.2.1.length = zb.size := by rw [← HZL.out, size_list]
              rw [← HK.out]
              by_cases h20 : 20 < zb.size
              · exact Or.inl ⟨keep_long (by omega), Or.inl h20⟩
              · by_cases h4 : z.1 = 4
                · by_cases h1 : zb.size = 1
                  · obtain ⟨c, hc⟩ : ∃ c, z.2.2.1 = [c] := by
                      match z.2.2.1, hzs.trans h1 with
                      | [c], _ => exact ⟨c, rfl⟩
                    have hzc : zb = ⟨#[c]⟩ := by
                      have := HZL.out
                      rw [hc] at this
                      rw [← toArray_data zb, this]
                    have hk1 := keep_one h4 hc
                    by_cases h6 : c = 40 ∨ c = 41 ∨ c = 91 ∨ c = 93 ∨ c = 123 ∨ c = 125
                    · refine Or.inl ⟨?_, Or.inr ⟨h4, c, hzc, h6⟩⟩
                      rw [hk1]
                      rcases h6 with rfl | rfl | rfl | rfl | rfl | rfl <;> rfl
                    · refine Or.inr ⟨?_, h20, Or.inr (Or.inr ⟨h4, c, hzc, h6⟩)⟩
                      rw [hk1]
                      simp only [not_or] at h6
                      simp [h6]
                  · exact Or.inr ⟨keep_two (by omega) (by omega), h20, Or.inr (Or.inl ⟨h4, h1⟩)⟩
                · exact Or.inr ⟨keep_other (by omega) h4, h20, Or.inl h4⟩
            obtain ⟨z0, z1, z2, z3⟩ := z
            simp only at hcase HFIT
            rcases hcase with ⟨rfl, hsk⟩ | ⟨rfl, h20, hkp⟩
            · have HN : Hid (out.data.toList = List.replicate y 32 ++ 120 :: Sp.lineB (Sp.on1 (((l.take (k + 1)).map Sp.fit4).filter Sp.keep8))) := by
                show _ = _
                rw [HNX.out, if_neg (by simp), List.append_nil]
                exact HO.out
              clear HNX HO HK HG HZL
              have fin : ∀ (w1 : World) (O : Obj), Below wr.heap.size wr w1 → Below (w.heap.size + 1) (w.alloc (Obj.cells #[.int .i64 n, .slice (some ⟨g, o, none⟩) l.length ca, .bool false, .string cb] 27)) (w1.alloc O) := by
                intro w1 O hb1
                exact (hbel.trans (hb1.mono hwr)).alloc (Nat.le_trans hwr hb1.size) _
              rcases hsk with h20 | ⟨rfl, c, rfl, h6⟩
              · go_wp2_with fail
                refine (HFIT.out _).mono ?_
                rintro e w1 ⟨rfl, hb1⟩
                clear HFIT
                go_wp2_with fail
                exact ⟨⟨k + 1, out, rfl, by go_num, by omega, by omega, by omega, HN, fin _ _ hb1⟩, by simp [intOf]; omega⟩
              · rcases h6 with rfl | rfl | rfl | rfl | rfl | rfl
                all_goals
                  go_wp2_with fail
                  refine (HFIT.out _).mono ?_
                  rintro e w1 ⟨rfl, hb1⟩
                  clear HFIT
                  go_wp2_with fail
                  exact ⟨⟨k + 1, out, rfl, by go_num, by omega, by omega, by omega, HN, fin _ _ hb1⟩, by simp [intOf]; omega⟩
            · have hg := HG.out rfl
              have hlen2 := (Sp.textB_len hg).2
              have hzl2 : z2 = zb.data.toList := HZL.out.symm
              have hn2 : z0 = 2 → 0 ≤ z3 ∧ z3 < 9223372036854775808 := by
                intro h2
                rcases hg with ⟨h, _⟩ | ⟨_, _, h⟩ | ⟨h, _⟩ | ⟨h, _⟩
                · simp only at h; omega
                · exact h
                · simp only at h; omega
                · simp only at h; omega
              obtain ⟨tx, htx⟩ : ∃ tx : ByteArray, tx = ⟨(Sp.textB (z0, z1, z2, z3)).toArray⟩ := ⟨_, rfl⟩
              have hxl : tx.data.toList = Sp.textB (z0, z1, z2, z3) := by rw [htx]
              have hxs : tx.size ≤ 82 := by rw [← size_list, hxl]; exact hlen2
              have HT : Hid (∀ w, Calls Tryz.prog 21 #[.agg #[.int .i64 z0, .int .i64 z1, .string zb, .int .i64 z3]] w fun e w' => e = .returned (.string tx) ∧ Below w.heap.size w w') := by
                intro w
                refine (text_any z0 z1 z3 zb (by omega) hn2 w).mono ?_
                rintro e w' ⟨rfl, hb⟩
                refine ⟨?_, hb⟩
                rw [htx, hzl2]
              have HN : Hid ((out ++ (⟨#[32]⟩ : ByteArray) ++ tx).data.toList = List.replicate y 32 ++ 120 :: Sp.lineB (Sp.on1 (((l.take (k + 1)).map Sp.fit4).filter Sp.keep8))) := by
                show _ = _
                rw [HNX.out, if_pos rfl, lineB_next]
                have : (out ++ (⟨#[32]⟩ : ByteArray) ++ tx).data.toList = out.data.toList ++ 32 :: tx.data.toList := by simp
                rw [this, HO.out, hxl]
                simp
              have hsz : (out ++ (⟨#[32]⟩ : ByteArray) ++ tx).size ≤ 12 + 83 * (k + 1) := by
                simp only [ByteArray.size_append]
                show out.size + 1 + tx.size ≤ _
                omega
              clear HNX HO HK HG HZL htx hxl hg hlen2 hzl2 hn2
              have fin : ∀ (w1 w2 : World) (O : Obj), Below wr.heap.size wr w1 → Below (w1.alloc O).heap.size (w1.alloc O) w2 → Below (w.heap.size + 1) (w.alloc (Obj.cells #[.int .i64 n, .slice (some ⟨g, o, none⟩) l.length ca, .bool false, .string cb] 27)) w2 := by
                intro w1 w2 O hb1 hb2
                have h1 := (hbel.trans (hb1.mono hwr)).alloc (Nat.le_trans hwr hb1.size) O
                exact h1.trans (hb2.mono (by have := hb1.size; simp; omega))
              have each : (¬ z0 = 4 ∨ (z0 = 4 ∧ ¬ zb.size = 1) ∨ (z0 = 4 ∧ ∃ c : UInt8, zb = ⟨#[c]⟩ ∧ ((((⟨#[c]⟩ : ByteArray)[0]'(Nat.zero_lt_one)).toNat : Int) == 40) = false ∧ ((((⟨#[c]⟩ : ByteArray)[0]'(Nat.zero_lt_one)).toNat : Int) == 41) = false ∧ ((((⟨#[c]⟩ : ByteArray)[0]'(Nat.zero_lt_one)).toNat : Int) == 91) = false ∧ ((((⟨#[c]⟩ : ByteArray)[0]'(Nat.zero_lt_one)).toNat : Int) == 93) = false ∧ ((((⟨#[c]⟩ : ByteArray)[0]'(Nat.zero_lt_one)).toNat : Int) == 123) = false ∧ ((((⟨#[c]⟩ : ByteArray)[0]'(Nat.zero_lt_one)).toNat : Int) == 125) = false)) := by
                rcases hkp with h | h | ⟨h, c, hc, h6⟩
                · exact Or.inl h
                · exact Or.inr (Or.inl h)
                · refine Or.inr (Or.inr ⟨h, c, hc, ?_⟩)
                  simp only [not_or] at h6
                  have key : ∀ d : UInt8, ¬ c = d → ((c.toNat : Int) == (d.toNat : Int)) = false := by
                    intro d hd
                    have : ¬ c.toNat = d.toNat := fun e => hd (UInt8.toNat_inj.1 e)
                    simp
                    omega
                  exact ⟨key 40 h6.1, key 41 h6.2.1, key 91 h6.2.2.1, key 93 h6.2.2.2.1, key 123 h6.2.2.2.2.1, key 125 h6.2.2.2.2.2⟩
              clear hkp
              rcases each with h4 | ⟨rfl, h1⟩ | ⟨rfl, c, rfl, g1, g2, g3, g4, g5, g6⟩
              all_goals
                go_wp2_with fail
                refine (HFIT.out _).mono ?_
                rintro e w1 ⟨rfl, hb1⟩
                clear HFIT
                go_wp2_with fail
                refine (HT.out _).mono ?_
                rintro e w2 ⟨rfl, hb2⟩
                have hfin := fin _ _ _ hb1 hb2
                clear HT hb1 hb2 hbel fin
                go_wp2_with fail
                exact ⟨⟨k + 1, _, rfl, by go_num, by omega, by omega, hsz, HN, hfin⟩, by simp [intOf]; omega⟩
          · obtain rfl : k = 8 := by omega
            have HN : Hid ((out ++ (⟨#[32]⟩ : ByteArray) ++ sb).data.toList = List.replicate y 32 ++ 120 :: (Sp.lineB (Sp.on1 (Sp.bodyL l)) ++ 32 :: Sp.cmt c)) := by
              show _ = _
              have : (out ++ (⟨#[32]⟩ : ByteArray) ++ sb).data.toList = out.data.toList ++ 32 :: sb.data.toList := by simp
              rw [this, HO.out, HC.out]
              unfold Sp.bodyL
              simp
            have hret : Ending.returned (.string (out ++ (⟨#[32]⟩ : ByteArray) ++ sb)) = .returned (.string ⟨(List.replicate y 32 ++ 120 :: (Sp.lineB (Sp.on1 (Sp.bodyL l)) ++ 32 :: Sp.cmt c)).toArray⟩) := by rw [← HN.out, toArray_data]
            have HRET := Lib.hid hret
            have HBN : Hid (Below w.heap.size w wr) := HBW.out
            clear FA HTS HO HC HPL hret HN hbel HBW
            go_wp2_with fail
            go_ret
            exact ⟨HRET.out, HBN.out⟩
        · have HN : Hid ((out ++ (⟨#[32]⟩ : ByteArray) ++ sb).data.toList = List.replicate y 32 ++ 120 :: (Sp.lineB (Sp.on1 (Sp.bodyL l)) ++ 32 :: Sp.cmt c)) := by
            show _ = _
            have : (out ++ (⟨#[32]⟩ : ByteArray) ++ sb).data.toList = out.data.toList ++ 32 :: sb.data.toList := by simp
            rw [this, HO.out, HC.out]
            unfold Sp.bodyL
            rw [List.take_of_length_le (by omega), List.take_of_length_le (by omega)]
            simp
          have hret : Ending.returned (.string (out ++ (⟨#[32]⟩ : ByteArray) ++ sb)) = .returned (.string ⟨(List.replicate y 32 ++ 120 :: (Sp.lineB (Sp.on1 (Sp.bodyL l)) ++ 32 :: Sp.cmt c)).toArray⟩) := by rw [← HN.out, toArray_data]
          have HRET := Lib.hid hret
          have HBN : Hid (Below w.heap.size w wr) := HBW.out
          clear FA HTS HO HC HPL hret HN hbel HBW
          go_wp2_with fail
          go_ret
          exact ⟨HRET.out, HBN.out⟩
end Go.Proofs.YtbdjccmcdifjcaaGreatDoor

set_option linter.unusedVariables false
set_option linter.unusedSimpArgs false
namespace Go.Proofs.YtbdjccmcdifjcaaGreatDoor
open Go.RowKit Go.Shelf

theorem eql_mark (k q : Int) (w : World) : (binOp .eql 37 (.agg #[.int .i64 k, .int .i64 q, .string ⟨#[]⟩, .int .i64 0]) (.agg #[.int .i64 k, .int .i64 q, .string ⟨#[]⟩, .int .i64 0])).run Tryz.prog w = .ok (.bool true) w := by
  rw [eql_tok]
  simp

/-- The lines of a row of lines. -/
def itemsL (l : List Sp.LineD) : List (Nat × Sp.LineD) := l.map fun x => (Sp.wide x.1, x)
theorem itemsL_wide (l : List Sp.LineD) : ∀ x ∈ itemsL l, x.1 ≤ 11 := by
  intro x hx
  obtain ⟨y, _, rfl⟩ := List.mem_map.1 hx
  have := Sp.wide_lt y.1
  show Sp.wide y.1 ≤ 11
  omega
theorem itemsL_next (l : List Sp.LineD) (k : Nat) (x : Sp.LineD) (h : l[k]? = some x) : itemsL (l.take (k + 1)) = itemsL (l.take k) ++ [(Sp.wide x.1, x)] := by
  unfold itemsL
  rw [List.take_add_one, h, List.map_append]
  rfl
theorem srcL_next (xs : List (Nat × Sp.LineD)) (x : Nat × Sp.LineD) : Sp.srcL (xs ++ [x]) = Sp.srcL xs ++ (Sp.ln x.1 x.2 ++ [10]) := by unfold Sp.srcL; simp

set_option maxHeartbeats 8000000 in
set_option maxRecDepth 100000 in
theorem source_any (v : Value) (l : List Sp.LineD) (w : World) (ha : ArgLs v l w) (hbd : ∀ x ∈ l, Bnd x) (hl : l.length ≤ maxLen) :
    Calls Tryz.prog 16 #[v] w fun e w' => ∃ s : ByteArray, e = .returned (.string s) ∧ Hid (s.data.toList = Sp.srcL (itemsL (l.take 30))) ∧ s.size ≤ 20970 ∧ Below w.heap.size w w' := by
  obtain ⟨pa, ca, rfl, fa⟩ := ha
  have FA := Lib.hid fa
  have HBD := Lib.hid hbd
  clear fa hbd
  unfold maxLen at hl
  go_enter Tryz.func16, Tryz.ntmps16
  go_wp2_with fail
  go_loopw [3, 4] (fun v3 v4 wr => ∃ (k : Nat) (sb : ByteArray), v3 = .string sb ∧ v4 = .int .i64 k ∧ k ≤ l.length ∧ k ≤ 30 ∧ sb.size ≤ 699 * k ∧ Hid (sb.data.toList = Sp.srcL (itemsL (l.take k))) ∧ Below w.heap.size w wr) (fun _ v4 wr => 30 - (intOf v4).toNat)
  case atStart => exact ⟨0, ⟨#[]⟩, rfl, rfl, Nat.zero_le _, Nat.zero_le _, Nat.le_refl _, rfl, Below.refl _ _⟩
  case round =>
    obtain ⟨k, sb, rfl, rfl, hk, hk30, hss, HS, hbel⟩ := hrel
    by_cases hlt : k < l.length
    · by_cases hlt2 : k < 30
      · obtain ⟨x, hx⟩ : ∃ x, l[k]? = some x := ⟨_, List.getElem?_eq_getElem hlt⟩
        have hbx := HBD.out x (List.mem_of_getElem? hx)
        obtain ⟨g, o, vt, rfl, hg, a0, a1, a2, a3, a4⟩ := FA.out k x hx
        have b0 := (hbel.cell (p := ⟨g, o + k * 4, none⟩) hg).trans a0
        have b1 := (hbel.cell (p := ⟨g, o + k * 4 + 1, none⟩) hg).trans a1
        have b2 := (hbel.cell (p := ⟨g, o + k * 4 + 2, none⟩) hg).trans a2
        have b3 := (hbel.cell (p := ⟨g, o + k * 4 + 3, none⟩) hg).trans a3
        have b4 := a4.below hbel
        clear a0 a1 a2 a3 a4
        obtain ⟨tb, htb⟩ : ∃ tb : ByteArray, tb = ⟨(Sp.txt x).toArray⟩ := ⟨_, rfl⟩
        have htl : tb.data.toList = Sp.txt x := by rw [htb]
        have hts : tb.size ≤ 698 := by
          rw [← size_list, htl]
          have h1 := Sp.ln_size (Sp.wide x.1) x
          have h2 := Sp.wide_lt x.1
          show (Sp.ln (Sp.wide x.1) x).length ≤ 698
          omega
        have HT := Lib.hid (ltext_any _ x wr ⟨vt, rfl, b4⟩ hbx)
        rw [← htb] at HT
        have HN : Hid ((sb ++ tb ++ (⟨#[10]⟩ : ByteArray)).data.toList = Sp.srcL (itemsL (l.take (k + 1)))) := by
          show _ = _
          rw [itemsL_next l k x hx, srcL_next, ← HS.out]
          show _ = sb.data.toList ++ (Sp.txt x ++ [10])
          rw [← htl]
          simp
        have hsz : (sb ++ tb ++ (⟨#[10]⟩ : ByteArray)).size ≤ 699 * (k + 1) := by
          simp only [ByteArray.size_append]
          show sb.size + tb.size + 1 ≤ _
          omega
        have HB : Hid (Below w.heap.size w wr) := hbel
        clear hx hbx HS htb htl FA HBD b4 hbel
        go_wp2_with fail
        refine HT.out.mono ?_
        rintro e w1 ⟨rfl, hb1⟩
        have hbel1 := HB.out.trans (hb1.mono HB.out.size)
        clear hb1 HB HT
        go_wp2_with fail
        go_roundw
        case rel => exact ⟨k + 1, _, rfl, by go_num, by omega, by omega, hsz, HN, hbel1⟩
        case measure => simp [intOf]; omega
      · obtain rfl : k = 30 := by omega
        clear FA HBD
        go_wp2_with fail
        go_ret
        exact ⟨_, rfl, HS, by omega, hbel⟩
    · have HN : Hid (sb.data.toList = Sp.srcL (itemsL (l.take 30))) := by
        show _ = _
        rw [HS.out, List.take_of_length_le (by omega), List.take_of_length_le (by omega)]
      clear FA HBD HS
      go_wp2_with fail
      go_ret
      exact ⟨_, rfl, HN, by omega, hbel⟩

/-- A row of tokens cut short. -/
theorem Row4.cut {B g N cap m : Nat} {l : List T4} {w : World} (h : Row4 B (.slice (some ⟨g, 0, none⟩) N cap) l w) (hm : m ≤ l.length) : Row4 B (.slice (some ⟨g, 0, none⟩) m cap) (l.take m) w := by
  unfold Row4 at h ⊢
  have hlt : (l.take m).length = m := by rw [List.length_take]; omega
  rw [hlt]
  rcases h.2 with ⟨h', _⟩ | ⟨g', cap', cur, h', hb, hg, hnc, hcm, hcs, htake⟩
  · simp at h'
  · simp only [Value.slice.injEq, Option.some.injEq, Addr.mk.injEq, and_true, true_and] at h'
    obtain ⟨rfl, rfl, rfl⟩ := h'
    have h1 : cur.toList.take (m * 4) = (l.take m).flatMap c4 := by
      rw [← c4_take, ← htake, List.take_take]
      congr 1
      have : m * 4 ≤ l.length * 4 := Nat.mul_le_mul_right 4 hm
      omega
    have h2 : ((l.take m).flatMap c4).length = m * 4 := by rw [← h1, List.length_take, Array.length_toList, hcs]; have : m * 4 ≤ cap * 4 := Nat.mul_le_mul_right 4 (by omega); omega
    exact ⟨h2, .inr ⟨g, cap, cur, rfl, hb, hg, by omega, hcm, hcs, h1⟩⟩
theorem Row4.there {B : Nat} {v : Value} {x : T4} {l : List T4} {w : World} (h : Row4 B v l w) (hx : l[0]? = some x) : ∃ g cap, v = .slice (some ⟨g, 0, none⟩) l.length cap ∧ l.length ≤ cap := by
  rcases h.2 with ⟨_, hn⟩ | ⟨g, cap, cur, rfl, _, _, hnc, _⟩
  · have := (List.getElem?_eq_some_iff.1 hx).1
    omega
  · exact ⟨g, cap, rfl, hnc⟩
end Go.Proofs.YtbdjccmcdifjcaaGreatDoor
