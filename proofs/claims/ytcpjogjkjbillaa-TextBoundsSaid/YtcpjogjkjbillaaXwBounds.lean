/-
  TextBounds of layer 9: the walk, at this program (made by wip/tools/genLaw9.py).
-/
import Derived.Test.YtcpjogjkjbillaaTxV
set_option linter.unusedVariables false
set_option linter.unusedSimpArgs false
namespace Go.Proofs.Ytcpjogjkjbillaa
namespace lawTextBounds
open Go.RowKit

set_option maxHeartbeats 16000000 in
set_option maxRecDepth 100000 in
theorem walk  (n : Int) (f : Int) (t : Int) (w : World)  (hn : -9223372036854775808 ≤ n ∧ n ≤ 9223372036854775807) (hf : -9223372036854775808 ≤ f ∧ f ≤ 9223372036854775807) (ht : -9223372036854775808 ≤ t ∧ t ≤ 9223372036854775807) : Calls Try.prog 11 #[.int .i64 n, .int .i64 f, .int .i64 t] w fun e w' => e = .returned (.bool true) ∧ Below w.heap.size w w' := by
  obtain ⟨⟨p, q⟩, hg⟩ : ∃ p, Tx.bounds n f t = p := ⟨_, rfl⟩
  have hr := Tx.bounds_range n f t
  obtain ⟨⟨p2, q2⟩, hg2⟩ : ∃ z, Tx.bounds n p q = z := ⟨_, rfl⟩
  obtain ⟨m, hm⟩ : ∃ m, m = if n < 0 then 0 else n := ⟨_, rfl⟩
  rw [hg, ← hm] at hr
  simp only at hr
  have hown : n < 1 ∨ (p2 = p ∧ q2 = q) := by
    by_cases h1 : n < 1
    · exact Or.inl h1
    · right
      rw [if_neg (by omega)] at hm
      subst hm
      unfold Tx.bounds Tx.place at hg2
      simp only at hg2
      injection hg2 with e1 e2
      rw [if_neg (by omega)] at e1 e2
      constructor
      · rw [← e1]; (repeat' split) <;> omega
      · rw [← e2]; (repeat' split) <;> omega
  have hlow : f < 0 ∨ m < f ∨ p = f := by
    by_cases h1 : f < 0
    · exact Or.inl h1
    · by_cases h2 : m < f
      · exact Or.inr (Or.inl h2)
      · right; right
        unfold Tx.bounds Tx.place at hg
        simp only at hg
        injection hg with e1 e2
        rw [← hm, if_neg h1] at e1
        rw [← e1]
        rw [if_neg h1, if_neg h2]
  have HG := Lib.hid hg
  have HG2 := Lib.hid hg2
  have hp : -9223372036854775808 ≤ p ∧ p ≤ 9223372036854775807 := by rw [hm] at hr; split at hr <;> omega
  have hq : -9223372036854775808 ≤ q ∧ q ≤ 9223372036854775807 := by rw [hm] at hr; split at hr <;> omega
  clear hg hg2
  have c1 : ¬ p < 0 := by omega
  have c2 : ¬ q < p := by omega
  have c3 : ¬ m < q := by omega
  have HP := Lib.hid hp
  have HQ := Lib.hid hq
  clear hp hq hr
  have ho : (n < 1) ∨ (¬ n < 1 ∧ (p2 == p) = true ∧ (q2 == q) = true) := by
    by_cases h1 : n < 1
    · exact Or.inl h1
    · rcases hown with h | h
      · exact absurd h h1
      · exact Or.inr ⟨h1, beq_iff_eq.2 h.1, beq_iff_eq.2 h.2⟩
  have hl : (f < 0) ∨ (¬ f < 0 ∧ m < f) ∨ (¬ f < 0 ∧ ¬ m < f ∧ (p == f) = true) := by
    by_cases h1 : f < 0
    · exact Or.inl h1
    · by_cases h2 : m < f
      · exact Or.inr (Or.inl ⟨h1, h2⟩)
      · rcases hlow with h | h | h
        · exact absurd h h1
        · exact absurd h h2
        · exact Or.inr (Or.inr ⟨h1, h2, beq_iff_eq.2 h⟩)
  clear hown hlow
  have hneg : (n < 0 ∧ m = 0) ∨ (¬ n < 0 ∧ m = n) := by
    by_cases h1 : n < 0
    · rw [if_pos h1] at hm; exact Or.inl ⟨h1, hm⟩
    · rw [if_neg h1] at hm; exact Or.inr ⟨h1, hm⟩
  clear hm
  have HN := Lib.hid hn
  have HF := Lib.hid hf
  have HT := Lib.hid ht
  clear hn hf ht
  rcases hneg with ⟨n0, m0⟩ | ⟨n0, m0⟩
  all_goals subst m0
  all_goals
    rcases ho with o1 | ⟨o1, o2, o3⟩
    all_goals
      first
        | (exfalso; omega)
        | skip
      all_goals
        rcases hl with l1 | ⟨l1, l2⟩ | ⟨l1, l2, l3⟩
        all_goals
          go_enter Try.func11, Try.ntmps11
          go_wp2_with (first
            | (go_at_call 20; with_reducible (show Calls _ _ #[_, Value.int _ p, Value.int _ q] _ _); refine (tBounds_is HG2 HN.out HP.out HQ.out _).mono ?_; rintro e w2 ⟨rfl, b2⟩)
            | (go_at_call 20; with_reducible (show Calls _ _ #[_, Value.int _ f, Value.int _ t] _ _); refine (tBounds_is HG HN.out HF.out HT.out _).mono ?_; rintro e w1 ⟨rfl, b1⟩)
            | (go_at_call 17; refine (said9 _).mono ?_; rintro e w0 ⟨rfl, b0⟩))
          all_goals
            go_ret
            exact ⟨ret_bool (by first | rfl | (simp; done) | (simp; omega)), bseq (bseq b1 b2) b0⟩
end lawTextBounds
end Go.Proofs.Ytcpjogjkjbillaa
