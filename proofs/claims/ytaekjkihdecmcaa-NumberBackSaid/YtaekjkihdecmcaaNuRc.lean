/-
  What the program's quotient and remainder tell, at this program.
-/
import Derived.Test.YtaekjkihdecmcaaNuRb
set_option linter.unusedVariables false
set_option linter.unusedSimpArgs false
namespace Go.Proofs.Ytaekjkihdecmcaa
open Go.RowKit

set_option maxHeartbeats 1000000 in
theorem nquo_is {a b : Int} {p : Int × Nu.Bs} (hp : Hid ((if b = 0 then (0, Nu.nZero) else Nu.fit (a.fdiv b)) = p)) (w : World) (ha : -9223372036854775808 ≤ a ∧ a ≤ 9223372036854775807) (hb : -9223372036854775808 ≤ b ∧ b ≤ 9223372036854775807) :
    Calls Try.prog 38 #[.int .i64 a, .int .i64 b] w fun e w' => e = toldN p ∧ w' = w := by
  by_cases h0 : b = 0
  · have HP : Hid (p = (0, Nu.nZero)) := (show _ = _ by rw [← hp.out, if_pos h0])
    subst h0
    rw [HP.out]
    clear HP hp
    go_enter Try.func38, Try.ntmps38
    go_wp2_with fail
    refine bodyPost_ret (results_tmp2 rfl _ _ _) rfl ?_
    exact ⟨rfl, rfl⟩
  by_cases h1 : b = -1
  · have HP : Hid (Nu.fit (-a) = p) := (show _ = _ by
      rw [← hp.out, if_neg h0, h1]
      obtain ⟨e, _, _⟩ := Nu.parts_range a (-1)
      have e2 := (fparts (a := a) (b := -1) (by omega)).1
      rw [show a.tmod (-1) = 0 by rw [Int.tmod_neg, Int.tmod_one]] at e2
      rw [e2]
      simp)
    subst h1
    clear hp
    go_enter Try.func38, Try.ntmps38
    go_wp2_with (go_at_call 17; refine (nneg_is HP _ ha).mono ?_; rintro e w' ⟨rfl, rfl⟩)
    refine bodyPost_ret (results_tmp2 rfl _ _ _) rfl ?_
    exact ⟨rfl, rfl⟩
  have e0 : (b == 0) = false := by simp; exact h0
  have e1 : (b == -1) = false := by simp; exact h1
  obtain ⟨k1, k2, k3⟩ := tparts a b h0
  have k4 := tdiv_le a b
  have k5 : b ≠ 1 → (a.tdiv b).natAbs < 9223372036854775808 := fun e => by
    rw [Int.natAbs_tdiv]
    calc a.natAbs / b.natAbs ≤ a.natAbs / 2 := Nat.div_le_div_left (by omega) (by omega)
      _ < 9223372036854775808 := by omega
  have k6 : b = 1 → a.tmod b = 0 := fun e => by rw [e, Int.tmod_one]
  have k7 : b = 1 → a.tdiv b = a := fun e => by rw [e, Int.tdiv_one]
  have hf := (fparts (a := a) h0).1
  obtain ⟨q, hq⟩ : ∃ q, a.tdiv b = q := ⟨_, rfl⟩
  obtain ⟨r, hr⟩ : ∃ r, a.tmod b = r := ⟨_, rfl⟩
  rw [hq] at k1 k4 k5 k7 hf
  rw [hr] at k1 k2 k3 k6 hf
  have hqr : -9223372036854775808 ≤ q ∧ q ≤ 9223372036854775807 := by
    by_cases e : b = 1
    · have := k7 e; omega
    · have := k5 e; omega
  have w1 : IntKind.i64.wrap q = q := wrap_id hqr
  have w2 : IntKind.i64.wrap r = r := wrap_id (by omega)
  by_cases h : r ≠ 0 ∧ ¬ (a < 0 ↔ b < 0)
  · have HP : Hid (p = (q - 1, [])) := (show _ = _ by
      rw [← hp.out, if_neg h0, hf, if_pos h]
      refine fit_yes ?_
      by_cases e : b = 1
      · exact absurd (k6 e) h.1
      · have := k5 e; omega)
    have w3 : IntKind.i64.wrap (q - 1) = q - 1 := wrap_id (by
      by_cases e : b = 1
      · exact absurd (k6 e) h.1
      · have := k5 e; omega)
    have e2 : (r == 0) = false := by simp; exact h.1
    obtain ⟨x, hx⟩ : ∃ x, decide (b < 0) = x := ⟨_, rfl⟩
    have hy : decide (a < 0) = !x := by
      rw [← hx, ← decide_not]; apply decide_eq_decide.2
      have := h.2
      omega
    rw [HP.out]
    clear HP hp hf hqr k1 k2 k3 k4 k5 k6 k7 h
    cases x
    all_goals
      go_enter Try.func38, Try.ntmps38
      go_wp2_with fail
      all_goals (refine bodyPost_ret (results_tmp2 rfl _ _ _) rfl ?_; first | exact ⟨rfl, rfl⟩ | (exfalso; simp at e2; omega))
  · have HP : Hid (p = (q, [])) := (show _ = _ by rw [← hp.out, if_neg h0, hf, if_neg h]; exact fit_yes hqr)
    rw [HP.out]
    by_cases h2 : r = 0
    · have e2 : (r == 0) = true := by simp; exact h2
      subst h2
      clear HP hp hf hqr k1 k2 k3 k4 k5 k6 k7 h e2
      go_enter Try.func38, Try.ntmps38
      go_wp2_with fail
      all_goals (refine bodyPost_ret (results_tmp2 rfl _ _ _) rfl ?_; first | exact ⟨rfl, rfl⟩ | (exfalso; simp at e2; omega))
    · have e2 : (r == 0) = false := by simp; exact h2
      obtain ⟨x, hx⟩ : ∃ x, decide (b < 0) = x := ⟨_, rfl⟩
      have hy : decide (a < 0) = x := by
        rw [← hx]; apply decide_eq_decide.2
        by_cases g : (a < 0 ↔ b < 0)
        · exact g
        · exact absurd ⟨h2, g⟩ h
      clear HP hp hf hqr k1 k2 k3 k4 k5 k6 k7 h
      cases x
      all_goals
        go_enter Try.func38, Try.ntmps38
        go_wp2_with fail
        all_goals (refine bodyPost_ret (results_tmp2 rfl _ _ _) rfl ?_; first | exact ⟨rfl, rfl⟩ | (exfalso; simp at e2; omega))
set_option maxHeartbeats 1000000 in
theorem nrem_is {a b : Int} {p : Int × Nu.Bs} (hp : Hid ((if b = 0 then (0, Nu.nZero) else Nu.fit (a.fmod b)) = p)) (w : World) (ha : -9223372036854775808 ≤ a ∧ a ≤ 9223372036854775807) (hb : -9223372036854775808 ≤ b ∧ b ≤ 9223372036854775807) :
    Calls Try.prog 39 #[.int .i64 a, .int .i64 b] w fun e w' => e = toldN p ∧ w' = w := by
  by_cases h0 : b = 0
  · have HP : Hid (p = (0, Nu.nZero)) := (show _ = _ by rw [← hp.out, if_pos h0])
    subst h0
    rw [HP.out]
    clear HP hp
    go_enter Try.func39, Try.ntmps39
    go_wp2_with fail
    refine bodyPost_ret (results_tmp2 rfl _ _ _) rfl ?_
    exact ⟨rfl, rfl⟩
  have e0 : (b == 0) = false := by simp; exact h0
  obtain ⟨k1, k2, k3⟩ := tparts a b h0
  have hf := (fparts (a := a) h0).2
  obtain ⟨r, hr⟩ : ∃ r, a.tmod b = r := ⟨_, rfl⟩
  rw [hr] at k1 k2 k3 hf
  have w2 : IntKind.i64.wrap r = r := wrap_id (by omega)
  have hiff : r ≠ 0 → ((a < 0 ↔ b < 0) ↔ (r < 0 ↔ b < 0)) := fun h => by have := k3 h; omega
  by_cases h : r ≠ 0 ∧ ¬ (a < 0 ↔ b < 0)
  · have g1 := (hiff h.1)
    have g2 := h.2
    have hrb : -9223372036854775808 ≤ r + b ∧ r + b ≤ 9223372036854775807 := by omega
    have HP : Hid (p = (r + b, [])) := (show _ = _ by
      rw [← hp.out, if_neg h0, hf, if_pos h]
      exact fit_yes hrb)
    have w3 : IntKind.i64.wrap (r + b) = r + b := wrap_id hrb
    have e2 : (r == 0) = false := by simp; exact h.1
    obtain ⟨x, hx⟩ : ∃ x, decide (b < 0) = x := ⟨_, rfl⟩
    have hy : decide (r < 0) = !x := by
      rw [← hx, ← decide_not]; apply decide_eq_decide.2
      omega
    rw [HP.out]
    clear HP hp hf hrb k1 k2 k3 h hiff g1 g2
    cases x
    all_goals
      go_enter Try.func39, Try.ntmps39
      go_wp2_with fail
      all_goals (refine bodyPost_ret (results_tmp2 rfl _ _ _) rfl ?_; first | exact ⟨rfl, rfl⟩ | (exfalso; simp at e2; omega))
  · have HP : Hid (p = (r, [])) := (show _ = _ by rw [← hp.out, if_neg h0, hf, if_neg h]; exact fit_yes (by omega))
    rw [HP.out]
    by_cases h2 : r = 0
    · subst h2
      clear HP hp hf k1 k2 k3 h hiff
      go_enter Try.func39, Try.ntmps39
      go_wp2_with fail
      all_goals (refine bodyPost_ret (results_tmp2 rfl _ _ _) rfl ?_; first | exact ⟨rfl, rfl⟩ | (exfalso; simp at e2; omega))
    · have e2 : (r == 0) = false := by simp; exact h2
      obtain ⟨x, hx⟩ : ∃ x, decide (b < 0) = x := ⟨_, rfl⟩
      have hy : decide (r < 0) = x := by
        rw [← hx]; apply decide_eq_decide.2
        have g1 := hiff h2
        by_cases g : (a < 0 ↔ b < 0)
        · exact g1.1 g
        · exact absurd ⟨h2, g⟩ h
      clear HP hp hf k1 k2 k3 h hiff
      cases x
      all_goals
        go_enter Try.func39, Try.ntmps39
        go_wp2_with fail
        all_goals (refine bodyPost_ret (results_tmp2 rfl _ _ _) rfl ?_; first | exact ⟨rfl, rfl⟩ | (exfalso; simp at e2; omega))
end Go.Proofs.Ytaekjkihdecmcaa
