/-
  A number's digits, as plain facts on bytes; and how they are made, at this program.
-/
import Derived.Test.YtbdjccmcdifjcaaGreatDoorQuotes
import Derived.Laws.Bits128
set_option linter.unusedVariables false
set_option linter.unusedSimpArgs false
namespace Go.Proofs.YtbdjccmcdifjcaaGreatDoor
open Go.RowKit Go.Shelf

namespace Sp
/-- What digits spell behind a number. -/
def valFrom (a : Nat) (l : Bs) : Nat := l.foldl (fun a c => a * 10 + (c.toNat - 48)) a
theorem valFrom_nil (a : Nat) : valFrom a [] = a := List.foldl_nil
theorem valFrom_cons (a : Nat) (c : UInt8) (r : Bs) : valFrom a (c :: r) = valFrom (a * 10 + (c.toNat - 48)) r := by unfold valFrom; rw [List.foldl_cons]
def digs (l : Bs) : Prop := ∀ c ∈ l, 48 ≤ c.toNat ∧ c.toNat ≤ 57
theorem digs_cons {c : UInt8} {r : Bs} (h : digs (c :: r)) : (48 ≤ c.toNat ∧ c.toNat ≤ 57) ∧ digs r := ⟨h c (by simp), fun x hx => h x (by simp [hx])⟩
theorem digs_append {l m : Bs} (h : digs l) (k : digs m) : digs (l ++ m) := fun c hc => (List.mem_append.1 hc).elim (h c) (k c)
theorem valFrom_append (a : Nat) (l m : Bs) : valFrom a (l ++ m) = valFrom (valFrom a l) m := by
  induction l generalizing a with
  | nil => rfl
  | cons c r ih => rw [List.cons_append, valFrom_cons, ih, valFrom_cons]
theorem valFrom_add (a : Nat) (l : Bs) : valFrom a l = a * 10 ^ l.length + valFrom 0 l := by
  induction l generalizing a with
  | nil => simp [valFrom_nil]
  | cons c r ih =>
    rw [valFrom_cons, ih, valFrom_cons, ih (0 * 10 + (c.toNat - 48)), List.length_cons, Nat.pow_succ, Nat.add_mul]
    have h1 : a * 10 * 10 ^ r.length = a * (10 ^ r.length * 10) := by rw [Nat.mul_assoc, Nat.mul_comm 10]
    rw [h1, Nat.zero_mul, Nat.zero_add, Nat.add_assoc]
theorem valFrom_ge (a : Nat) (l : Bs) : a ≤ valFrom a l := by
  induction l generalizing a with
  | nil => exact Nat.le_refl _
  | cons c r ih =>
    rw [valFrom_cons]
    have := ih (a * 10 + (c.toNat - 48))
    omega
theorem parse_ok : ∀ (l : Bs) (acc : Nat), digs l → valFrom acc l ≤ 18446744073709551615 → Lib.parseUintM (2 ^ 64 - 1) acc l = .ok (valFrom acc l) := by
  intro l
  induction l with
  | nil => intro acc _ _; rfl
  | cons c r ih =>
    intro acc hd hv
    obtain ⟨hc, hr⟩ := digs_cons hd
    rw [valFrom_cons] at hv ⊢
    have hg := valFrom_ge (acc * 10 + (c.toNat - 48)) r
    rw [Lib.parseUintM, if_pos hc, if_neg (by omega), if_neg (by omega)]
    exact ih _ hr hv
theorem parse_range : ∀ (l : Bs) (acc : Nat), digs l → acc ≤ 18446744073709551615 → 18446744073709551615 < valFrom acc l → Lib.parseUintM (2 ^ 64 - 1) acc l = .range := by
  intro l
  induction l with
  | nil => intro acc _ h1 h2; rw [valFrom_nil] at h2; omega
  | cons c r ih =>
    intro acc hd h1 hv
    obtain ⟨hc, hr⟩ := digs_cons hd
    rw [valFrom_cons] at hv
    rw [Lib.parseUintM, if_pos hc]
    by_cases h2 : 1844674407370955162 ≤ acc
    · rw [if_pos h2]
    · rw [if_neg h2]
      by_cases h3 : 2 ^ 64 - 1 < acc * 10 + (c.toNat - 48)
      · rw [if_pos h3]
      · rw [if_neg h3]
        exact ih _ hr (by omega) hv
/-- With a byte that is no digit there is no number. -/
theorem parse_odd : ∀ (l : Bs) (acc : Nat) (c : UInt8) (u : Bs), ¬ (48 ≤ c.toNat ∧ c.toNat ≤ 57) → ∀ n, Lib.parseUintM (2 ^ 64 - 1) acc (l ++ c :: u) ≠ .ok n := by
  intro l
  induction l with
  | nil => intro acc c u hc n; rw [List.nil_append, Lib.parseUintM, if_neg hc]; simp
  | cons d r ih =>
    intro acc c u hc n
    rw [List.cons_append, Lib.parseUintM]
    split
    · split
      · simp
      · split
        · simp
        · exact ih _ c u hc n
    · simp
theorem parseInt_digs {c : UInt8} {r : Bs} (hd : digs (c :: r)) (hv : valFrom 0 (c :: r) < 9223372036854775808) : Lib.parseIntB 64 (c :: r) = .ok (valFrom 0 (c :: r) : Int) := by
  obtain ⟨hc, hr⟩ := digs_cons hd
  unfold Lib.parseIntB
  simp only []
  rw [if_neg (by omega)]
  unfold Lib.parseUintB
  rw [if_neg (by simp), parse_ok _ _ hd (by omega)]
  simp only []
  rw [if_neg (by omega), if_neg (by omega), if_neg (by omega)]
theorem parseInt_big {c : UInt8} {r : Bs} (hd : digs (c :: r)) (hv : 9223372036854775808 ≤ valFrom 0 (c :: r)) : Lib.parseIntB 64 (c :: r) = .range := by
  obtain ⟨hc, hr⟩ := digs_cons hd
  unfold Lib.parseIntB
  simp only []
  rw [if_neg (by omega)]
  unfold Lib.parseUintB
  rw [if_neg (by simp)]
  by_cases h : valFrom 0 (c :: r) ≤ 18446744073709551615
  · rw [parse_ok _ _ hd h]
    simp only []
    rw [if_pos (by omega)]
  · rw [parse_range _ _ hd (by omega) (by omega)]
theorem parseInt_odd {c d : UInt8} {r u : Bs} (hc : 48 ≤ c.toNat ∧ c.toNat ≤ 57) (hd : ¬ (48 ≤ d.toNat ∧ d.toNat ≤ 57)) : ∀ n, Lib.parseIntB 64 (c :: r ++ d :: u) ≠ .ok n := by
  intro n
  unfold Lib.parseIntB
  simp only [List.cons_append]
  rw [if_neg (by omega)]
  unfold Lib.parseUintB
  rw [if_neg (by simp)]
  have := parse_odd (c :: r) 0 d u hd
  rw [List.cons_append] at this
  rcases hx : Lib.parseUintM (2 ^ 64 - 1) 0 (c :: (r ++ d :: u)) with v | _ | _
  · exact absurd hx (this v)
  · simp
  · simp

def decGo : Nat → Nat → Bs → Bs
  | 0, _, acc => acc
  | f + 1, n, acc => if n = 0 then acc else decGo f (n / 10) (UInt8.ofNat (48 + n % 10) :: acc)
def dec (n : Nat) : Bs := decGo n (n / 10) [UInt8.ofNat (48 + n % 10)]
theorem dig_of (n : Nat) : 48 ≤ (UInt8.ofNat (48 + n % 10)).toNat ∧ (UInt8.ofNat (48 + n % 10)).toNat ≤ 57 ∧ (UInt8.ofNat (48 + n % 10)).toNat = 48 + n % 10 := by
  have : (UInt8.ofNat (48 + n % 10)).toNat = 48 + n % 10 := by simp; omega
  omega
theorem decGo_more : ∀ (f g n : Nat) (acc : Bs), n ≤ f → n ≤ g → decGo f n acc = decGo g n acc := by
  intro f
  induction f with
  | zero =>
    intro g n acc h1 h2
    obtain rfl : n = 0 := by omega
    cases g <;> simp [decGo]
  | succ f ih =>
    intro g n acc h1 h2
    by_cases hn : n = 0
    · subst hn; cases g <;> simp [decGo]
    · obtain ⟨g, rfl⟩ : ∃ g', g = g' + 1 := ⟨g - 1, by omega⟩
      rw [decGo, decGo, if_neg hn, if_neg hn]
      exact ih g _ _ (by omega) (by omega)
theorem decGo_step (f n : Nat) (acc : Bs) (h : n ≤ f) (hn : n ≠ 0) : decGo f n acc = decGo f (n / 10) (UInt8.ofNat (48 + n % 10) :: acc) := by
  obtain ⟨f, rfl⟩ : ∃ f', f = f' + 1 := ⟨f - 1, by omega⟩
  rw [decGo, if_neg hn]
  exact decGo_more f (f + 1) _ _ (by omega) (by omega)
theorem decGo_digs : ∀ (f n : Nat) (acc : Bs), digs acc → digs (decGo f n acc) := by
  intro f
  induction f with
  | zero => intro n acc h; exact h
  | succ f ih =>
    intro n acc h
    rw [decGo]
    split
    · exact h
    · refine ih _ _ ?_
      intro c hc
      rcases List.mem_cons.1 hc with rfl | hc
      · have := dig_of n; omega
      · exact h c hc
theorem decGo_val : ∀ (f n : Nat) (acc : Bs), n ≤ f → valFrom 0 (decGo f n acc) = n * 10 ^ acc.length + valFrom 0 acc := by
  intro f
  induction f with
  | zero =>
    intro n acc h
    obtain rfl : n = 0 := by omega
    simp [decGo]
  | succ f ih =>
    intro n acc h
    rw [decGo]
    split
    · rename_i h0; simp [h0]
    · rw [ih _ _ (by omega), List.length_cons, valFrom_cons, valFrom_add (0 * 10 + _), Nat.pow_succ]
      have h1 := (dig_of n).2.2
      rw [h1]
      have h2 : 0 * 10 + (48 + n % 10 - 48) = n % 10 := by omega
      rw [h2]
      have h3 : n / 10 * (10 ^ acc.length * 10) = (n / 10 * 10) * 10 ^ acc.length := by rw [Nat.mul_comm (10 ^ acc.length), Nat.mul_assoc]
      rw [h3, ← Nat.add_assoc, ← Nat.add_mul]
      congr 2
      omega
theorem decGo_head : ∀ (f n : Nat) (acc : Bs), n ≤ f → 0 < n → ∃ d r, decGo f n acc = d :: r ∧ d.toNat ≠ 48 := by
  intro f
  induction f with
  | zero => intro n acc h h0; omega
  | succ f ih =>
    intro n acc h h0
    rw [decGo, if_neg (by omega)]
    by_cases h1 : n / 10 = 0
    · rw [h1]
      refine ⟨UInt8.ofNat (48 + n % 10), acc, ?_, ?_⟩
      · cases f <;> simp [decGo]
      · rw [(dig_of n).2.2]; omega
    · exact ih _ _ (by omega) (by omega)
theorem decGo_len : ∀ (k f n : Nat) (acc : Bs), n < 10 ^ k → (decGo f n acc).length ≤ acc.length + k := by
  intro k
  induction k with
  | zero =>
    intro f n acc h
    obtain rfl : n = 0 := by simp at h; exact h
    cases f <;> simp [decGo]
  | succ k ih =>
    intro f n acc h
    cases f with
    | zero => simp [decGo]
    | succ f =>
      rw [decGo]
      split
      · omega
      · have := ih f (n / 10) (UInt8.ofNat (48 + n % 10) :: acc) (by rw [Nat.pow_succ] at h; omega)
        simp only [List.length_cons] at this
        omega
theorem decGo_ne : ∀ (f n : Nat) (acc : Bs), acc ≠ [] → decGo f n acc ≠ [] := by
  intro f
  induction f with
  | zero => intro n acc h; exact h
  | succ f ih =>
    intro n acc h
    rw [decGo]
    split
    · exact h
    · exact ih _ _ (by simp)
theorem dec_said (n : Nat) (h : n < 9223372036854775808) : ∃ c r, dec n = c :: r ∧ digs (c :: r) ∧ valFrom 0 (c :: r) = n ∧ (r = [] ∨ c.toNat ≠ 48) ∧ (c :: r).length ≤ 20 := by
  have h1 : digs (dec n) := decGo_digs _ _ _ (by
    intro c hc
    rw [List.mem_singleton] at hc
    rw [hc]
    have := dig_of n
    omega)
  have h2 : valFrom 0 (dec n) = n := by
    unfold dec
    rw [decGo_val _ _ _ (by omega)]
    simp only [List.length_cons, List.length_nil, valFrom_cons, valFrom_nil]
    rw [(dig_of n).2.2]
    omega
  have h3 : (dec n).length ≤ 1 + 19 := decGo_len 19 _ _ _ (by
    have : n / 10 < 9223372036854775808 := by omega
    refine Nat.lt_of_lt_of_le this (by decide))
  have h4 : dec n ≠ [] := decGo_ne _ _ _ (by simp)
  by_cases h0 : n / 10 = 0
  · have e : dec n = [UInt8.ofNat (48 + n % 10)] := by
      unfold dec
      rw [h0]
      cases n <;> simp [decGo]
    exact ⟨_, _, e, by rw [← e]; exact h1, by rw [← e]; exact h2, Or.inl rfl, by rw [← e]; omega⟩
  · obtain ⟨d, r, e, hd⟩ := decGo_head n (n / 10) [UInt8.ofNat (48 + n % 10)] (by omega) (by omega)
    have e' : dec n = d :: r := e
    exact ⟨d, r, e', by rw [← e']; exact h1, by rw [← e']; exact h2, Or.inr hd, by rw [← e']; omega⟩

theorem dig_isDig {c : UInt8} (h : 48 ≤ c.toNat ∧ c.toNat ≤ 57) : isDig c = true := by unfold isDig; simp; omega
theorem word_all : ∀ l : Bs, (∀ c ∈ l, isWd c = true) → wordLen l = l.length := by
  intro l
  induction l with
  | nil => intro _; rfl
  | cons c r ih =>
    intro h
    rw [wordLen, if_pos (h c (by simp)), ih (fun x hx => h x (by simp [hx]))]
    rfl
/-- A line that is one word, its first byte a digit. -/
theorem tok1_num {c : UInt8} {r : Bs} (hc : 48 ≤ c.toNat ∧ c.toNat ≤ 57) (h : ∀ x ∈ c :: r, isWd x = true) : tok1 (c :: r) = tokInt (c :: r) := by
  rw [tok1, if_neg (by omega), dig_isDig hc, if_pos rfl, word_all _ h, List.take_length]
theorem lexAt_word (pos : Nat) {c : UInt8} {r : Bs} (hc : 48 ≤ c.toNat ∧ c.toNat ≤ 57) (h : ∀ x ∈ c :: r, isWd x = true) : lexAt pos (c :: r) = match tokInt (c :: r) with
    | .error e => .error (pos, e)
    | .ok t => .ok [(pos, t)] := by
  have h1 := tok1_num hc h
  cases ht : tokInt (c :: r) with
  | error e => rw [lexAt_err pos c r (by omega) (by omega) e (by rw [h1, ht])]
  | ok t =>
    rw [lexAt_tok pos c r (by omega) (by omega) t (by rw [h1, ht])]
    have := tokInt_size ht
    rw [this, List.drop_length, lexAt_nil]
    rfl
theorem digs_wd {l : Bs} (h : digs l) : ∀ x ∈ l, isWd x = true := fun x hx => by unfold isWd; rw [dig_isDig (h x hx)]; simp
theorem lex_dec (n : Nat) (h : n < 9223372036854775808) : lex (dec n) = .ok [(0, ⟨2, [], n, (dec n).length⟩)] := by
  obtain ⟨c, r, e, hd, hv, hz, hl⟩ := dec_said n h
  rw [e]
  unfold lex
  rw [lexAt_word 0 (digs_cons hd).1 (digs_wd hd)]
  have ht : tokInt (c :: r) = .ok ⟨2, [], n, (c :: r).length⟩ := by
    unfold tokInt
    rw [if_neg ?_, parseInt_digs hd (by omega), hv]
    rintro ⟨h1, h2⟩
    rcases hz with rfl | hz
    · simp at h1
    · simp at h2
      rw [h2] at hz
      exact hz (by decide)
  rw [ht]
theorem tokInt_odd {c d : UInt8} {r u : Bs} (hc : 48 ≤ c.toNat ∧ c.toNat ≤ 57) (hd : ¬ (48 ≤ d.toNat ∧ d.toNat ≤ 57)) : tokInt (c :: r ++ d :: u) = .error 11 := by
  unfold tokInt
  split
  · rfl
  · split
    · rename_i v hv
      exact absurd hv (parseInt_odd hc hd v)
    · rfl
theorem lex_dec_more (n : Nat) (h : n < 9223372036854775808) (d : UInt8) (hd : isLet d = true) : lex (dec n ++ [d]) = .error (0, 11) := by
  obtain ⟨c, r, e, hds, hv, hz, hl⟩ := dec_said n h
  rw [e]
  unfold lex
  have hw : ∀ x ∈ c :: (r ++ [d]), isWd x = true := by
    intro x hx
    rw [← List.cons_append, List.mem_append] at hx
    rcases hx with hx | hx
    · exact digs_wd hds x hx
    · simp at hx; subst hx; unfold isWd; rw [hd]; rfl
  have hnd : ¬ (48 ≤ d.toNat ∧ d.toNat ≤ 57) := by
    unfold isLet at hd
    simp at hd
    omega
  rw [List.cons_append, lexAt_word 0 (digs_cons hds).1 hw, ← List.cons_append, tokInt_odd (digs_cons hds).1 hnd]
theorem lex_noughts (k n : Nat) (h : n < 9223372036854775808) : lex (43 :: (48 :: List.replicate k 48 ++ dec n)) = .error (1, 11) := by
  obtain ⟨c, r, e, hds, hv, hz, hl⟩ := dec_said n h
  have h0 : digs (48 :: (List.replicate k 48 ++ dec n)) := by
    rw [← List.cons_append]
    refine digs_append ?_ (by rw [e]; exact hds)
    intro x hx
    rw [show (48 : UInt8) :: List.replicate k 48 = List.replicate (k + 1) 48 from rfl] at hx
    rw [(List.mem_replicate.1 hx).2]
    decide
  have h1 : tok1 (43 :: (48 :: List.replicate k 48 ++ dec n)) = .ok ⟨4, [43], 0, 1⟩ := rfl
  unfold lex
  rw [lexAt_tok 0 43 _ (by decide) (by decide) _ h1]
  show ahead _ (lexAt 1 (48 :: (List.replicate k 48 ++ dec n))) = _
  rw [lexAt_word 1 (by decide) (digs_wd h0)]
  have h2 : tokInt (48 :: (List.replicate k 48 ++ dec n)) = .error 11 := by
    unfold tokInt
    rw [if_pos ?_]
    refine ⟨?_, rfl⟩
    rw [e]
    simp
    omega
  rw [h2]
  rfl
theorem lex_great (n : Nat) (h : n < 9223372036854775808) : lex (49 :: (dec n ++ List.replicate 18 48)) = .error (0, 11) := by
  obtain ⟨c, r, e, hds, hv, hz, hl⟩ := dec_said n h
  have h0 : digs (49 :: (dec n ++ List.replicate 18 48)) := by
    intro x hx
    rcases List.mem_cons.1 hx with rfl | hx
    · decide
    · refine digs_append (by rw [e]; exact hds) ?_ x hx
      intro y hy
      rw [(List.mem_replicate.1 hy).2]
      decide
  unfold lex
  rw [lexAt_word 0 (by decide) (digs_wd h0)]
  have h2 : tokInt (49 :: (dec n ++ List.replicate 18 48)) = .error 11 := by
    unfold tokInt
    rw [if_neg (by rintro ⟨_, h⟩; simp at h), parseInt_big h0 ?_]
    rw [valFrom_cons, valFrom_add, List.length_append, List.length_replicate]
    have hl1 : 1 ≤ (dec n).length := by rw [e]; simp
    have hp : 10 ^ 19 ≤ 10 ^ ((dec n).length + 18) := Nat.pow_le_pow_right (by decide) (by omega)
    have h1 : 0 * 10 + ((49 : UInt8).toNat - 48) = 1 := by decide
    rw [h1, Nat.one_mul]
    have h3 : (9223372036854775808 : Nat) ≤ 10 ^ 19 := by decide
    omega
  rw [h2]
end Sp

theorem and_max (n : Int) : bits .and .i64 n 9223372036854775807 = n % 9223372036854775808 := by
  have h127 : (BitVec.ofInt 64 9223372036854775807).toNat = 2 ^ 63 - 1 := by decide
  have key : (BitVec.ofInt 64 n &&& BitVec.ofInt 64 9223372036854775807).toNat = (n % ((2 ^ 64 : Nat) : Int)).toNat % 2 ^ 63 := by
    rw [BitVec.toNat_and, BitVec.toNat_ofInt, h127, Nat.and_two_pow_sub_one_eq_mod]
  show IntKind.i64.wrap ((BitVec.ofInt 64 n &&& BitVec.ofInt 64 9223372036854775807).toNat : Nat) = n % 9223372036854775808
  rw [key, IntKind.wrap_i64]
  omega
end Go.Proofs.YtbdjccmcdifjcaaGreatDoor
