/-
  What the program's product, quotient and remainder tell, at this program.
-/
import Derived.Test.YtaekjkihdecmcaaNuR
set_option linter.unusedVariables false
set_option linter.unusedSimpArgs false
namespace Go.Proofs.Ytaekjkihdecmcaa
open Go.RowKit

theorem tdiv_le (a b : Int) : (a.tdiv b).natAbs ≤ a.natAbs := by
  rw [Int.natAbs_tdiv]; exact Nat.div_le_self _ _
theorem tmod_lt {a b : Int} (hb : b ≠ 0) : (a.tmod b).natAbs < b.natAbs := by
  rw [Int.natAbs_tmod]; exact Nat.mod_lt _ (by omega)
/-- What goes round is seen by dividing. -/
theorem round_seen {a b P : Int} (ha : a ≠ 0) (hb : a.natAbs ≤ 9223372036854775808) (hP : P = a * b ∨ 18446744073709551616 ≤ (P - a * b).natAbs) : P.tdiv a = b ↔ P = a * b := by
  constructor
  · intro h
    have h1 := Int.mul_tdiv_add_tmod P a
    rw [h] at h1
    have h2 := tmod_lt (a := P) ha
    omega
  · intro h
    rw [h]
    exact Int.mul_tdiv_cancel_left b ha
theorem wrap_far (z : Int) : IntKind.i64.wrap z = z ∨ 18446744073709551616 ≤ (IntKind.i64.wrap z - z).natAbs := by
  rw [wrap_def]; omega
theorem wrap_range (z : Int) : -9223372036854775808 ≤ IntKind.i64.wrap z ∧ IntKind.i64.wrap z ≤ 9223372036854775807 := by
  rw [wrap_def]; omega
theorem wrap_id {z : Int} (h : -9223372036854775808 ≤ z ∧ z ≤ 9223372036854775807) : IntKind.i64.wrap z = z := by
  rw [wrap_def]; omega
set_option maxHeartbeats 1000000 in
theorem nprod_is {a b : Int} {p : Int × Nu.Bs} (hp : Hid (Nu.fit (a * b) = p)) (w : World) (ha : -9223372036854775808 ≤ a ∧ a ≤ 9223372036854775807) (hb : -9223372036854775808 ≤ b ∧ b ≤ 9223372036854775807) :
    Calls Try.prog 37 #[.int .i64 a, .int .i64 b] w fun e w' => e = toldN p ∧ w' = w := by
  by_cases h0 : a = 0
  · subst h0
    have HP : Hid (p = (0, [])) := (show _ = _ by rw [← hp.out, Int.zero_mul]; exact fit_yes (by omega))
    rw [HP.out]
    clear HP hp
    go_enter Try.func37, Try.ntmps37
    go_wp2_with fail
    refine bodyPost_ret (results_tmp2 rfl _ _ _) rfl ?_
    exact ⟨rfl, rfl⟩
  by_cases h1 : a = -1
  · subst h1
    have HP : Hid (Nu.fit (-b) = p) := (show _ = _ by rw [← hp.out, Int.neg_one_mul])
    clear hp
    go_enter Try.func37, Try.ntmps37
    go_wp2_with (go_at_call 17; refine (nneg_is HP _ hb).mono ?_; rintro e w' ⟨rfl, rfl⟩)
    refine bodyPost_ret (results_tmp2 rfl _ _ _) rfl ?_
    exact ⟨rfl, rfl⟩
  obtain ⟨P, hP⟩ : ∃ P, IntKind.i64.wrap (a * b) = P := ⟨_, rfl⟩
  have hfar := wrap_far (a * b)
  have hrange := wrap_range (a * b)
  rw [hP] at hfar hrange
  have hseen := round_seen h0 (by omega) hfar
  have hq1 : IntKind.i64.wrap (P.tdiv a) = P.tdiv a := wrap_id (by
    have h2 := tdiv_le P a
    by_cases e : a = 1
    · subst e; rw [Int.tdiv_one]; exact hrange
    · have : (P.tdiv a).natAbs < 9223372036854775808 := by
        rw [Int.natAbs_tdiv]
        have h3 : 2 ≤ a.natAbs := by omega
        have h4 : P.natAbs ≤ 9223372036854775808 := by omega
        calc P.natAbs / a.natAbs ≤ P.natAbs / 2 := Nat.div_le_div_left h3 (by omega)
          _ < 9223372036854775808 := by omega
      omega)
  have e0 : (a == 0) = false := by simp; exact h0
  have e1 : (a == -1) = false := by simp; exact h1
  by_cases h : -9223372036854775808 ≤ a * b ∧ a * b ≤ 9223372036854775807
  · have hPe : P = a * b := by rw [← hP]; exact wrap_id h
    have hq2 := hseen.2 hPe
    have HP : Hid (p = (P, [])) := (show _ = _ by rw [← hp.out, fit_yes h, hPe])
    rw [HP.out]
    rw [hq2] at hq1
    clear HP hp hPe hseen hfar hrange h
    go_enter Try.func37, Try.ntmps37
    go_wp2_with fail
    refine bodyPost_ret (results_tmp2 rfl _ _ _) rfl ?_
    exact ⟨rfl, rfl⟩
  · have hq2 : P.tdiv a ≠ b := fun e => h (by rw [← hseen.1 e]; exact hrange)
    have hq3 : (P.tdiv a == b) = false := by simp; exact hq2
    have HP : Hid (p = (0, Nu.nOver)) := (show _ = _ by rw [← hp.out]; exact fit_no h)
    rw [HP.out]
    obtain ⟨Q, hQ⟩ : ∃ Q, P.tdiv a = Q := ⟨_, rfl⟩
    rw [hQ] at hq1 hq3
    clear HP hp hseen hfar hrange h hq2
    go_enter Try.func37, Try.ntmps37
    go_wp2_with fail
    refine bodyPost_ret (results_tmp2 rfl _ _ _) rfl ?_
    exact ⟨rfl, rfl⟩
/-- The quotient rounded down, and what is left: the only ones. -/
theorem parts_of {a b q r : Int} (hb : b ≠ 0) (h : b * q + r = a) (h1 : 0 < b → 0 ≤ r ∧ r < b) (h2 : b < 0 → b < r ∧ r ≤ 0) : a.fdiv b = q ∧ a.fmod b = r := by
  rcases Int.lt_or_gt_of_ne hb with hn | hp
  · exact (Int.fdiv_fmod_unique' hn).2 ⟨by omega, (h2 hn).1, (h2 hn).2⟩
  · exact (Int.fdiv_fmod_unique hp).2 ⟨by omega, (h1 hp).1, (h1 hp).2⟩
theorem tparts (a b : Int) (hb : b ≠ 0) : b * a.tdiv b + a.tmod b = a ∧ (a.tmod b).natAbs < b.natAbs ∧ (a.tmod b ≠ 0 → (a.tmod b < 0 ↔ a < 0)) := by
  refine ⟨Int.mul_tdiv_add_tmod a b, tmod_lt hb, fun h => ?_⟩
  constructor
  · intro h1
    rcases Int.lt_or_le a 0 with h2 | h2
    · exact h2
    · have := Int.tmod_nonneg b h2; omega
  · intro h1
    have := Int.tmod_nonneg b (a := -a) (by omega)
    rw [Int.neg_tmod] at this
    omega
theorem fparts {a b : Int} (hb : b ≠ 0) : a.fdiv b = (if a.tmod b ≠ 0 ∧ ¬ (a < 0 ↔ b < 0) then a.tdiv b - 1 else a.tdiv b) ∧ a.fmod b = (if a.tmod b ≠ 0 ∧ ¬ (a < 0 ↔ b < 0) then a.tmod b + b else a.tmod b) := by
  obtain ⟨h1, h2, h3⟩ := tparts a b hb
  by_cases h : a.tmod b ≠ 0 ∧ ¬ (a < 0 ↔ b < 0)
  · rw [if_pos h, if_pos h]
    have h4 := h3 h.1
    have h5 := h.2
    refine parts_of hb ?_ (fun _ => by omega) (fun _ => by omega)
    rw [Int.mul_sub, Int.mul_one]; omega
  · rw [if_neg h, if_neg h]
    refine parts_of hb h1 (fun _ => ?_) (fun _ => ?_)
    all_goals
      by_cases e : a.tmod b = 0
      · omega
      · have h4 := h3 e
        have h5 : (a < 0 ↔ b < 0) := by
          by_cases g : (a < 0 ↔ b < 0)
          · exact g
          · exact absurd ⟨e, g⟩ h
        omega
end Go.Proofs.Ytaekjkihdecmcaa
