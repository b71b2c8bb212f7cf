/-
  The program's Key, at this program.
-/
import Derived.Test.YtaghkidelbepnaaDiB
set_option linter.unusedVariables false
set_option linter.unusedSimpArgs false
namespace Go.Proofs.Ytaghkidelbepnaa
open Go.RowKit
open Di

set_option maxHeartbeats 2000000 in
theorem dKey_is {v : V} {r : Bool} (hr : Hid (keyOk v = r)) (w : World) : Calls Try.prog 19 #[vV v] w fun e w' => e = .returned (.bool r) ∧ Below w.heap.size w w' := by
  obtain ⟨k, n, s⟩ := v
  have HK : Hid (keyOk (k, n, s) = r) := hr
  show Calls Try.prog 19 #[.agg #[.int .i64 k, .int .i64 n, .string s]] w _
  rw [keyOk_is] at HK
  obtain ⟨e, he⟩ : ∃ e, s.toList.isEmpty = e := ⟨_, rfl⟩
  obtain ⟨z, hz⟩ : ∃ z, (n == 0) = z := ⟨_, rfl⟩
  obtain ⟨o, ho⟩ : ∃ o, (n == 1) = o := ⟨_, rfl⟩
  rw [he, hz, ho] at HK
  have HB : Hid (Below w.heap.size w (w.alloc (.cells #[.int .i64 k, .int .i64 n, .string s] 32))) := (Below.refl _ _).alloc (Nat.le_refl _) _
  clear hr
  by_cases h0 : k = 0
  · subst h0
    have HR : Hid (r = (z && e)) := (show _ = _ by rw [← HK.out]; rfl)
    rw [HR.out]
    clear HK
    cases z
    all_goals
      go_enter Try.func19, Try.ntmps19
      go_wp2_with fail
      go_ret
      exact ⟨rfl, HB.out⟩
  by_cases h1 : k = 1
  · subst h1
    have HR : Hid (r = ((z || o) && e)) := (show _ = _ by rw [← HK.out]; rfl)
    rw [HR.out]
    clear HK
    cases z <;> cases o
    all_goals
      go_enter Try.func19, Try.ntmps19
      go_wp2_with fail
      go_ret
      exact ⟨rfl, HB.out⟩
  by_cases h2 : k = 2
  · subst h2
    have HR : Hid (r = e) := (show _ = _ by rw [← HK.out]; rfl)
    rw [HR.out]
    clear HK
    go_enter Try.func19, Try.ntmps19
    go_wp2_with fail
    go_ret
    exact ⟨rfl, HB.out⟩
  by_cases h3 : k = 3
  · subst h3
    have HR : Hid (r = z) := (show _ = _ by rw [← HK.out]; rfl)
    rw [HR.out]
    clear HK
    go_enter Try.func19, Try.ntmps19
    go_wp2_with fail
    go_ret
    exact ⟨rfl, HB.out⟩
  · have HR : Hid (r = false) := (show _ = _ by rw [← HK.out, if_neg h0, if_neg h1, if_neg h2, if_neg h3])
    rw [HR.out]
    have g0 : (k == 0) = false := by simp; exact h0
    have g1 : (k == 1) = false := by simp; exact h1
    have g2 : (k == 2) = false := by simp; exact h2
    have g3 : (k == 3) = false := by simp; exact h3
    clear HK
    go_enter Try.func19, Try.ntmps19
    go_wp2_with fail
    go_ret
    exact ⟨rfl, HB.out⟩
end Go.Proofs.Ytaghkidelbepnaa
