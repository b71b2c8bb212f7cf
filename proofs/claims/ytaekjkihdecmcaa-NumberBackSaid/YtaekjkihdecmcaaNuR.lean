/-
  What the program's functions of two ints tell: sums, differences, products, quotients, at this program.
-/
import Derived.Test.YtaekjkihdecmcaaNuB
set_option linter.unusedVariables false
set_option linter.unusedSimpArgs false
namespace Go.Proofs.Ytaekjkihdecmcaa
open Go.RowKit

abbrev strN (t : Nu.Bs) : Value := .string ⟨t.toArray⟩
/-- An int and the class of what is raised. -/
abbrev toldN (p : Int × Nu.Bs) : Ending := .returned (.tuple #[.int .i64 p.1, strN p.2])
theorem wrap_def (z : Int) : IntKind.i64.wrap z = (z + 9223372036854775808) % 18446744073709551616 - 9223372036854775808 := by
  rw [IntWalk.i64_left]; unfold wrap64; rfl
theorem fit_no {z : Int} (h : ¬ (-9223372036854775808 ≤ z ∧ z ≤ 9223372036854775807)) : Nu.fit z = (0, Nu.nOver) := by
  unfold Nu.fit
  rw [if_neg (by rw [Nu.fits_iff]; exact h)]
theorem fit_yes {z : Int} (h : -9223372036854775808 ≤ z ∧ z ≤ 9223372036854775807) : Nu.fit z = (z, []) := Nu.fit_fits ((Nu.fits_iff z).2 h)
theorem nneg_is {a : Int} {p : Int × Nu.Bs} (hp : Hid (Nu.fit (-a) = p)) (w : World) (ha : -9223372036854775808 ≤ a ∧ a ≤ 9223372036854775807) :
    Calls Try.prog 17 #[.int .i64 a] w fun e w' => e = toldN p ∧ w' = w := by
  by_cases h : a = -9223372036854775808
  · subst h
    have HP : Hid (p = (0, Nu.nOver)) := (show _ = _ by rw [← hp.out]; exact fit_no (by omega))
    rw [HP.out]
    clear HP hp
    go_enter Try.func17, Try.ntmps17
    go_wp2_with fail
    refine bodyPost_ret (results_tmp2 rfl _ _ _) rfl ?_
    exact ⟨rfl, rfl⟩
  · have HP : Hid (p = (-a, [])) := (show _ = _ by rw [← hp.out]; exact fit_yes (by omega))
    rw [HP.out]
    clear HP hp
    have h1 : (a == -9223372036854775808) = false := by simp; exact h
    have h2 : IntKind.i64.wrap (-a) = -a := by rw [wrap_def]; omega
    go_enter Try.func17, Try.ntmps17
    go_wp2_with fail
    refine bodyPost_ret (results_tmp2 rfl _ _ _) rfl ?_
    exact ⟨rfl, rfl⟩
theorem nsum_is {a b : Int} {p : Int × Nu.Bs} (hp : Hid (Nu.fit (a + b) = p)) (w : World) (ha : -9223372036854775808 ≤ a ∧ a ≤ 9223372036854775807) (hb : -9223372036854775808 ≤ b ∧ b ≤ 9223372036854775807) :
    Calls Try.prog 35 #[.int .i64 a, .int .i64 b] w fun e w' => e = toldN p ∧ w' = w := by
  obtain ⟨S, hS⟩ : ∃ S, IntKind.i64.wrap (a + b) = S := ⟨_, rfl⟩
  have hS' := hS
  rw [wrap_def] at hS'
  by_cases h : -9223372036854775808 ≤ a + b ∧ a + b ≤ 9223372036854775807
  · have HP : Hid (p = (S, [])) := (show _ = _ by rw [← hp.out, fit_yes h, ← hS, wrap_def]; congr 1; omega)
    rw [HP.out]
    clear HP hp
    obtain ⟨x, hx⟩ : ∃ x, decide (b < 0) = x := ⟨_, rfl⟩
    have hy : decide (S < a) = x := by rw [← hx]; apply decide_eq_decide.2; omega
    clear h hS'
    go_enter Try.func35, Try.ntmps35
    go_wp2_with fail
    refine bodyPost_ret (results_tmp2 rfl _ _ _) rfl ?_
    exact ⟨rfl, rfl⟩
  · have HP : Hid (p = (0, Nu.nOver)) := (show _ = _ by rw [← hp.out]; exact fit_no h)
    rw [HP.out]
    clear HP hp
    obtain ⟨x, hx⟩ : ∃ x, decide (b < 0) = x := ⟨_, rfl⟩
    have hy : decide (S < a) = !x := by
      rw [← hx, ← decide_not]; apply decide_eq_decide.2; omega
    clear h hS'
    cases x
    all_goals
      go_enter Try.func35, Try.ntmps35
      go_wp2_with fail
      refine bodyPost_ret (results_tmp2 rfl _ _ _) rfl ?_
      exact ⟨rfl, rfl⟩
theorem ndiff_is {a b : Int} {p : Int × Nu.Bs} (hp : Hid (Nu.fit (a - b) = p)) (w : World) (ha : -9223372036854775808 ≤ a ∧ a ≤ 9223372036854775807) (hb : -9223372036854775808 ≤ b ∧ b ≤ 9223372036854775807) :
    Calls Try.prog 36 #[.int .i64 a, .int .i64 b] w fun e w' => e = toldN p ∧ w' = w := by
  obtain ⟨S, hS⟩ : ∃ S, IntKind.i64.wrap (a - b) = S := ⟨_, rfl⟩
  have hS' := hS
  rw [wrap_def] at hS'
  by_cases h : -9223372036854775808 ≤ a - b ∧ a - b ≤ 9223372036854775807
  · have HP : Hid (p = (S, [])) := (show _ = _ by rw [← hp.out, fit_yes h, ← hS, wrap_def]; congr 1; omega)
    rw [HP.out]
    clear HP hp
    obtain ⟨x, hx⟩ : ∃ x, decide (b < 0) = x := ⟨_, rfl⟩
    have hy : decide (a < S) = x := by rw [← hx]; apply decide_eq_decide.2; omega
    clear h hS'
    cases x
    all_goals
      go_enter Try.func36, Try.ntmps36
      go_wp2_with fail
      refine bodyPost_ret (results_tmp2 rfl _ _ _) rfl ?_
      exact ⟨rfl, rfl⟩
  · have HP : Hid (p = (0, Nu.nOver)) := (show _ = _ by rw [← hp.out]; exact fit_no h)
    rw [HP.out]
    clear HP hp
    obtain ⟨x, hx⟩ : ∃ x, decide (b < 0) = x := ⟨_, rfl⟩
    have hy : decide (a < S) = !x := by
      rw [← hx, ← decide_not]; apply decide_eq_decide.2; omega
    clear h hS'
    cases x
    all_goals
      go_enter Try.func36, Try.ntmps36
      go_wp2_with fail
      refine bodyPost_ret (results_tmp2 rfl _ _ _) rfl ?_
      exact ⟨rfl, rfl⟩
end Go.Proofs.Ytaekjkihdecmcaa
