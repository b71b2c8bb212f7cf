/-
  NumberOrder of layer 8: the walk, at this program (made by wip/tools/genLaw8.py).
-/
import Derived.Test.YtaekjkihdecmcaaNuV
set_option linter.unusedVariables false
set_option linter.unusedSimpArgs false
namespace Go.Proofs.Ytaekjkihdecmcaa
namespace lawNumberOrder
open Go.RowKit

set_option maxHeartbeats 16000000 in
set_option maxRecDepth 100000 in
theorem less_snoc : ∀ (l m : List UInt8) (c d : UInt8), l.length = m.length → (Op.bytesLess l m = true ∨ (l = m ∧ c < d)) → Op.bytesLess (l ++ [c]) (m ++ [d]) = true
  | [], [], c, d, _, h => by
    rcases h with h | ⟨_, h⟩
    · simp [Op.bytesLess] at h
    · simp [Op.bytesLess, h]
  | [], _ :: _, _, _, h, _ => by simp at h
  | _ :: _, [], _, _, h, _ => by simp at h
  | a :: l, b :: m, c, d, hl, h => by
    have hl2 : l.length = m.length := by simpa using hl
    simp only [List.cons_append, Op.bytesLess, Bool.or_eq_true, Bool.and_eq_true, decide_eq_true_eq, beq_iff_eq] at h ⊢
    rcases h with (h | ⟨h1, h2⟩) | ⟨h1, h2⟩
    · exact Or.inl h
    · exact Or.inr ⟨h1, less_snoc l m c d hl2 (Or.inl h2)⟩
    · injection h1 with e1 e2
      exact Or.inr ⟨e1, less_snoc l m c d hl2 (Or.inr ⟨e2, h2⟩)⟩
theorem dec_length_pos (n : Nat) : 0 < (Nu.dec n).length := List.length_pos_iff.2 (Nu.dec_ne n)
theorem dec_le : ∀ (n m : Nat), n ≤ m → (Nu.dec n).length < (Nu.dec m).length ∨ ((Nu.dec n).length = (Nu.dec m).length ∧ (Op.bytesLess (Nu.dec n) (Nu.dec m) = true ∨ n = m)) := by
  intro n
  induction n using Nat.strongRecOn with
  | _ n ih =>
    intro m h
    by_cases h1 : n < 10
    · by_cases h2 : m < 10
      · refine Or.inr ⟨by rw [Nu.dec_small h1, Nu.dec_small h2]; rfl, ?_⟩
        by_cases e : n = m
        · exact Or.inr e
        · left
          rw [Nu.dec_small h1, Nu.dec_small h2]
          have hlt : UInt8.ofNat (48 + n) < UInt8.ofNat (48 + m) := by
            rw [UInt8.lt_iff_toNat_lt, Nu.digit_toNat h1, Nu.digit_toNat h2]; omega
          exact (show (decide (UInt8.ofNat (48 + n) < UInt8.ofNat (48 + m)) || _) = true from by rw [decide_eq_true hlt]; rfl)
      · left
        rw [Nu.dec_small h1, Nu.dec_big (by omega)]
        have := dec_length_pos (m / 10)
        simp only [List.length_append, List.length_cons, List.length_nil]
        omega
    · have h2 : 10 ≤ m := by omega
      have hq : n / 10 ≤ m / 10 := Nat.div_le_div_right h
      rw [Nu.dec_big (n := n) (by omega), Nu.dec_big h2]
      simp only [List.length_append, List.length_cons, List.length_nil]
      rcases ih (n / 10) (by omega) (m / 10) hq with g | ⟨g1, g2⟩
      · exact Or.inl (by omega)
      · refine Or.inr ⟨by omega, ?_⟩
        rcases g2 with g2 | g2
        · exact Or.inl (less_snoc _ _ _ _ g1 (Or.inl g2))
        · by_cases e : n % 10 = m % 10
          · exact Or.inr (by omega)
          · left
            refine less_snoc _ _ _ _ g1 (Or.inr ⟨by rw [g2], ?_⟩)
            rw [UInt8.lt_iff_toNat_lt, Nu.digit_toNat (by omega), Nu.digit_toNat (by omega)]
            omega
def texLe (x y : Nu.Bs) : Prop := decide (x.length ≤ y.length) = true ∧ (decide (x.length < y.length) = true ∨ (decide (x.length < y.length) = false ∧ (Op.bytesLess x y || x == y) = true))
theorem text_le {a b : Int} (h1 : 0 ≤ a) (h2 : a ≤ b) : texLe (Nu.text a) (Nu.text b) := by
  unfold Nu.text
  rw [if_neg (by omega), if_neg (by omega)]
  rcases dec_le a.natAbs b.natAbs (by omega) with g | ⟨g1, g2⟩
  · exact ⟨decide_eq_true (by omega), Or.inl (decide_eq_true g)⟩
  · refine ⟨decide_eq_true (by omega), Or.inr ⟨decide_eq_false (by omega), ?_⟩⟩
    rcases g2 with g2 | g2
    · rw [g2]; simp
    · rw [g2]; simp
theorem fit_two {z n : Int} {t : Nu.Bs} (h : Nu.fit z = (n, t)) : (t = [] ∧ n = z) ∨ (t = Nu.nOver ∧ n = 0) := by
  unfold Nu.fit at h
  split at h
  · injection h with h1 h2; exact Or.inl ⟨h2.symm, h1.symm⟩
  · injection h with h1 h2; exact Or.inr ⟨h2.symm, h1.symm⟩
set_option maxHeartbeats 16000000 in
set_option maxRecDepth 100000 in
theorem walk (a b c : Int) (w : World) (ha : Nu.fits a = true) (hb : Nu.fits b = true) (hc : Nu.fits c = true) : Calls Try.prog 13 #[.int .i64 a, .int .i64 b, .int .i64 c] w fun e w' => e = .returned (.bool true) ∧ Below w.heap.size w w' := by
  have ha1 := (Nu.fits_iff a).1 ha
  have hb1 := (Nu.fits_iff b).1 hb
  have hc1 := (Nu.fits_iff c).1 hc
  have HA := Lib.hid ha
  have HB := Lib.hid hb
  have HC := Lib.hid hc
  obtain ⟨n, t, h10⟩ : ∃ n t, Nu.fit (a + c) = (n, t) := ⟨_, _, rfl⟩
  obtain ⟨m, u, h20⟩ : ∃ m u, Nu.fit (b + c) = (m, u) := ⟨_, _, rfl⟩
  obtain ⟨d, v, h30⟩ : ∃ d v, Nu.fit (a - b) = (d, v) := ⟨_, _, rfl⟩
  have f1 := fit_two h10
  have f2 := fit_two h20
  have f3 := fit_two h30
  have h1 : Hid (Nu.doN (⟨#[43]⟩ : ByteArray).data.toList a c = (n, t)) := (show _ = _ from h10)
  have h2 : Hid (Nu.doN (⟨#[43]⟩ : ByteArray).data.toList b c = (m, u)) := (show _ = _ from h20)
  have h3 : Hid (Nu.doN (⟨#[45]⟩ : ByteArray).data.toList a b = (d, v)) := (show _ = _ from h30)
  obtain ⟨x, hx⟩ : ∃ x, Nu.text a = x := ⟨_, rfl⟩
  obtain ⟨y, hy⟩ : ∃ y, Nu.text b = y := ⟨_, rfl⟩
  have h4 := Lib.hid hx
  have h5 := Lib.hid hy
  clear h10 h20 h30 ha hb hc
  have tri : (decide (a < b) = true ∧ (a == b) = false ∧ decide (b < a) = false) ∨ (decide (a < b) = false ∧ (a == b) = true ∧ decide (b < a) = false) ∨ (decide (a < b) = false ∧ (a == b) = false ∧ decide (b < a) = true) := by
    rcases Int.lt_trichotomy a b with h | h | h
    · exact Or.inl ⟨decide_eq_true h, by simp; omega, decide_eq_false (by omega)⟩
    · exact Or.inr (Or.inl ⟨decide_eq_false (by omega), by simp; omega, decide_eq_false (by omega)⟩)
    · exact Or.inr (Or.inr ⟨decide_eq_false (by omega), by simp; omega, decide_eq_true h⟩)
  have hS : (t = [] ∧ u = [] ∧ decide (n < m) = decide (a < b)) ∨ (t = [] ∧ u = Nu.nOver) ∨ t = Nu.nOver := by
    rcases f1 with ⟨g1, g2⟩ | ⟨g1, _⟩
    · rcases f2 with ⟨g3, g4⟩ | ⟨g3, _⟩
      · exact Or.inl ⟨g1, g3, by rw [g2, g4, decide_eq_decide]; omega⟩
      · exact Or.inr (Or.inl ⟨g1, g3⟩)
    · exact Or.inr (Or.inr g1)
  have hD : (v = [] ∧ decide (d < 0) = decide (a < b) ∧ (d == 0) = (a == b)) ∨ v = Nu.nOver := by
    rcases f3 with ⟨g1, g2⟩ | ⟨g1, _⟩
    · refine Or.inl ⟨g1, by rw [g2, decide_eq_decide]; omega, ?_⟩
      rw [g2, Bool.eq_iff_iff]
      simp
      omega
    · exact Or.inr g1
  have hle : 0 ≤ a → a ≤ b → texLe x y := fun h1 h2 => by
    rw [← hx, ← hy]
    exact text_le h1 h2
  have hT : decide (a < 0) = true ∨ decide (a < 0) = false ∧ (decide (b < a) = true ∨ texLe x y) := by
    by_cases h1 : a < 0
    · exact Or.inl (decide_eq_true h1)
    · refine Or.inr ⟨decide_eq_false h1, ?_⟩
      by_cases h2 : b < a
      · exact Or.inl (decide_eq_true h2)
      · exact Or.inr (hle (by omega) (by omega))
  clear f1 f2 f3 hle hx hy
  rcases tri with ⟨p1, p2, p3⟩ | ⟨p1, p2, p3⟩ | ⟨p1, p2, p3⟩
  all_goals
    rw [p1] at hS hD
    rw [p2] at hD
    rw [p3] at hT
    rcases hS with ⟨rfl, rfl, s1⟩ | ⟨rfl, rfl⟩ | rfl
    all_goals
      rcases hD with ⟨rfl, d1, d2⟩ | rfl
      all_goals
        rcases hT with z1 | ⟨z1, q1 | ⟨q1, q2 | ⟨q2, q3⟩⟩⟩
        all_goals first
          | (exfalso; cases q1; done)
          | skip
        all_goals
          go_enter Try.func13, Try.ntmps13
          go_wp2_with (first
            | (go_at_call 21; with_reducible (show Calls _ _ #[Value.int _ b] _ _); refine (nText_is h5 _ HB.out).mono ?_; rintro e w5 ⟨rfl, b5⟩)
            | (go_at_call 21; with_reducible (show Calls _ _ #[Value.int _ a] _ _); refine (nText_is h4 _ HA.out).mono ?_; rintro e w4 ⟨rfl, b4⟩)
            | (go_at_call 15; with_reducible (show Calls _ _ #[Value.string { data := #[45] }, Value.int _ a, Value.int _ b] _ _); refine (nDo_is h3 _ HA.out HB.out).mono ?_; rintro e w3 ⟨rfl, b3⟩)
            | (go_at_call 15; with_reducible (show Calls _ _ #[Value.string { data := #[43] }, Value.int _ b, Value.int _ c] _ _); refine (nDo_is h2 _ HB.out HC.out).mono ?_; rintro e w2 ⟨rfl, b2⟩)
            | (go_at_call 15; with_reducible (show Calls _ _ #[Value.string { data := #[43] }, Value.int _ a, Value.int _ c] _ _); refine (nDo_is h1 _ HA.out HC.out).mono ?_; rintro e w1 ⟨rfl, b1⟩)
            | (go_at_call 14; refine (shown8 _).mono ?_; rintro e w0 ⟨rfl, b0⟩))
          all_goals
            first
              | (go_ret; exact ⟨ret_bool (by first | rfl | (simp; done)), (bseq (bseq (bseq b0 b1) b2) b3)⟩)
              | (go_ret; exact ⟨ret_bool (by first | rfl | (exact q3) | (rw [q3]; rfl) | (simp; done) | (simpa using q3)), (bseq (bseq (bseq (bseq (bseq b0 b1) b2) b3) b4) b5)⟩)
              | fail
end lawNumberOrder
end Go.Proofs.Ytaekjkihdecmcaa
