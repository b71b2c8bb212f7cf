/-
  What the program's power tells, at this program.
-/
import Derived.Test.YtaekjkihdecmcaaNuRc
set_option linter.unusedVariables false
set_option linter.unusedSimpArgs false
namespace Go.Proofs.Ytaekjkihdecmcaa
open Go.RowKit

theorem one_le_natAbs_pow {x : Int} (h : x ≠ 0) (k : Nat) : 1 ≤ (x ^ k).natAbs := by
  rw [Int.natAbs_pow]; exact Nat.pow_pos (by omega)
/-- A product by the square of what is not 0 lies as far, or farther. -/
theorem far_mul_sq {z x : Int} (h : ¬ (-9223372036854775808 ≤ z ∧ z ≤ 9223372036854775807)) (hx : x ≠ 0) (k : Nat) : ¬ (-9223372036854775808 ≤ z * (x * x) ^ k ∧ z * (x * x) ^ k ≤ 9223372036854775807) := by
  have h1 : 1 ≤ (x * x) ^ k := by
    have h2 : 0 < x * x := by
      rcases Int.lt_or_gt_of_ne hx with g | g
      · exact Int.mul_pos_of_neg_of_neg g g
      · exact Int.mul_pos g g
    exact Int.pow_pos h2
  generalize (x * x) ^ k = t at *
  rcases Int.lt_or_le z 0 with g | g
  · have : z * t ≤ z * 1 := Int.mul_le_mul_of_nonpos_left (by omega) h1
    omega
  · have : z * 1 ≤ z * t := Int.mul_le_mul_of_nonneg_left h1 g
    omega
theorem sq_ne (x : Int) : (x * x).natAbs ≠ 9223372036854775808 := by
  rw [Int.natAbs_mul]
  intro h
  rcases Nat.lt_or_ge x.natAbs 3037000500 with g | g
  · have := Nat.mul_le_mul (show x.natAbs ≤ 3037000499 by omega) (show x.natAbs ≤ 3037000499 by omega)
    omega
  · have := Nat.mul_le_mul g g
    omega
theorem far_sq {p x : Int} (h : ¬ (-9223372036854775808 ≤ x * x ∧ x * x ≤ 9223372036854775807)) (hp : p ≠ 0) (k : Nat) : ¬ (-9223372036854775808 ≤ p * (x * x) ^ (k + 1) ∧ p * (x * x) ^ (k + 1) ≤ 9223372036854775807) := by
  have h1 := sq_ne x
  have h2 : 9223372036854775808 < (x * x).natAbs := by omega
  have h3 : (p * (x * x) ^ (k + 1)).natAbs = p.natAbs * ((x * x).natAbs ^ k * (x * x).natAbs) := by rw [Int.natAbs_mul, Int.natAbs_pow, Nat.pow_succ]
  have h4 : 1 ≤ (x * x).natAbs ^ k := Nat.pow_pos (by omega)
  have h5 := Nat.mul_le_mul h4 (Nat.le_refl (x * x).natAbs)
  have h6 := Nat.mul_le_mul (show 1 ≤ p.natAbs by omega) h5
  omega
/-- A power by squares: what is still to be multiplied. -/
structure Pw (a : Int) (b : Nat) (p x : Int) (m : Nat) : Prop where
  val : p * x ^ m = a ^ b
  zero : p = 0 → x = 0
theorem Pw.start (a : Int) (b : Nat) : Pw a b 1 a b := ⟨by rw [Int.one_mul], fun h => by omega⟩
theorem Pw.end_ {a : Int} {b : Nat} {p x : Int} (h : Pw a b p x 0) : p = a ^ b := by have := h.val; rwa [Int.pow_zero, Int.mul_one] at this
theorem pow_sq (x : Int) (k : Nat) : x ^ (2 * k) = (x * x) ^ k := by
  rw [Int.pow_mul]; congr 1; rw [Int.pow_succ, Int.pow_succ, Int.pow_zero, Int.one_mul]
theorem Pw.odd {a : Int} {b : Nat} {p x : Int} {k : Nat} (h : Pw a b p x (2 * k + 1)) : Pw a b (p * x) x (2 * k) :=
  ⟨by rw [← h.val, Int.pow_succ, Int.mul_assoc, Int.mul_comm x], fun e => by
    rcases Int.mul_eq_zero.1 e with g | g
    · exact h.zero g
    · exact g⟩
theorem Pw.odd_far {a : Int} {b : Nat} {p x : Int} {k : Nat} (h : Pw a b p x (2 * k + 1)) (hf : ¬ (-9223372036854775808 ≤ p * x ∧ p * x ≤ 9223372036854775807)) : ¬ (-9223372036854775808 ≤ a ^ b ∧ a ^ b ≤ 9223372036854775807) := by
  have h1 := h.odd.val
  rw [← h1, pow_sq]
  exact far_mul_sq hf (fun e => by rw [e, Int.mul_zero] at hf; omega) k
theorem Pw.square {a : Int} {b : Nat} {p x : Int} {k : Nat} (h : Pw a b p x (2 * k)) : Pw a b p (x * x) k :=
  ⟨by rw [← h.val, pow_sq], fun e => by rw [h.zero e]; rfl⟩
theorem Pw.square_far {a : Int} {b : Nat} {p x : Int} {k : Nat} (h : Pw a b p x (2 * (k + 1))) (hf : ¬ (-9223372036854775808 ≤ x * x ∧ x * x ≤ 9223372036854775807)) : ¬ (-9223372036854775808 ≤ a ^ b ∧ a ^ b ≤ 9223372036854775807) := by
  have h1 := h.square.val
  rw [← h1]
  exact far_sq hf (fun e => by rw [h.zero e] at hf; omega) k
end Go.Proofs.Ytaekjkihdecmcaa
