/-
  The walk of the program's power, at this program.
-/
import Derived.Test.YtaekjkihdecmcaaNuRd
set_option linter.unusedVariables false
set_option linter.unusedSimpArgs false
namespace Go.Proofs.Ytaekjkihdecmcaa
open Go.RowKit

abbrev R64 (z : Int) : Prop := -9223372036854775808 ≤ z ∧ z ≤ 9223372036854775807
theorem halves (k : Nat) : ((2 * k + 1 : Nat) : Int).tmod 2 = 1 ∧ ((2 * k : Nat) : Int).tmod 2 = 0 ∧ ((2 * k + 1 : Nat) : Int).tdiv 2 = (k : Int) ∧ ((2 * k : Nat) : Int).tdiv 2 = (k : Int) := by
  refine ⟨?_, ?_, ?_, ?_⟩ <;> first | (rw [Int.tmod_eq_emod_of_nonneg (by omega)]; omega) | (rw [Int.tdiv_eq_ediv_of_nonneg (by omega)]; omega)
set_option maxHeartbeats 4000000 in
theorem npow_is {a b : Int} {p : Int × Nu.Bs} (hp : Hid ((if b < 0 then (0, Nu.nVal) else Nu.fit (a ^ b.toNat)) = p)) (w : World) (ha : -9223372036854775808 ≤ a ∧ a ≤ 9223372036854775807) (hb : -9223372036854775808 ≤ b ∧ b ≤ 9223372036854775807) :
    Calls Try.prog 40 #[.int .i64 a, .int .i64 b] w fun e w' => e = toldN p ∧ w' = w := by
  by_cases hb0 : b < 0
  · have HP : Hid (p = (0, Nu.nVal)) := (show _ = _ by rw [← hp.out, if_pos hb0])
    rw [HP.out]
    clear HP hp
    go_enter Try.func40, Try.ntmps40
    go_wp2_with fail
    refine bodyPost_ret (results_tmp2 rfl _ _ _) rfl ?_
    exact ⟨rfl, rfl⟩
  obtain ⟨n, rfl⟩ : ∃ n : Nat, b = (n : Int) := ⟨b.toNat, by omega⟩
  have HP : Hid (Nu.fit (a ^ n) = p) := (show _ = _ by
    rw [← hp.out, if_neg hb0, Int.toNat_natCast])
  have HN : Hid (n ≤ 9223372036854775807) := (show _ ≤ _ by omega)
  have hn0 : decide ((n : Int) < 0) = false := by simp
  clear hp hb0
  go_enter Try.func40, Try.ntmps40
  go_wp2_with fail
  go_loop [0, 1, 6, 7] (fun v0 v1 v6 v7 => ∃ (x P : Int) (m : Nat), v0 = .int .i64 x ∧ v1 = .int .i64 (m : Int) ∧ v6 = .int .i64 P ∧ v7 = .string ⟨#[]⟩ ∧ Hid (m ≤ 9223372036854775807) ∧ Hid (Pw a n P x m) ∧ Hid (R64 x) ∧ Hid (R64 P)) (fun _ v1 _ _ => (intOf v1).toNat)
  case atStart => exact ⟨a, 1, n, rfl, rfl, rfl, rfl, HN, Pw.start a n, ha, (by decide : R64 1)⟩
  case round =>
    obtain ⟨x, P, m, rfl, rfl, rfl, rfl, HM, HW, HX, HQ⟩ := hrel
    clear ha hb hn0 HN
    obtain ⟨k, hk⟩ : ∃ k, m = 2 * k + 1 ∨ m = 2 * k := ⟨m / 2, by omega⟩
    have h0 := halves k
    have HK : Hid (k ≤ 9223372036854775807) := (show _ ≤ _ by have := HM.out; omega)
    have wk : IntKind.i64.wrap (k : Int) = k := wrap_id (by have := HK.out; omega)
    rcases hk with hk | hk
    · subst hk
      have hm1 := h0.1
      have hm2 := h0.2.2.1
      obtain ⟨M, hM⟩ : ∃ M : Int, ((2 * k + 1 : Nat) : Int) = M := ⟨_, rfl⟩
      have HMM := Lib.hid hM
      rw [hM] at hm1 hm2 ⊢
      clear h0 hM
      by_cases f1 : R64 (P * x)
      · have q1 := Lib.hid (fit_yes f1)
        have HW1 := Lib.hid HW.out.odd
        have HQ1 := Lib.hid f1
        obtain ⟨P2, hP2⟩ : ∃ P2, P * x = P2 := ⟨_, rfl⟩
        rw [hP2] at HW1 HQ1
        have q2 : Hid (Nu.fit (P * x) = (P2, [])) := (show _ = _ by rw [q1.out, hP2])
        clear q1 f1 hP2
        by_cases hk0 : k = 0
        · subst hk0
          have HE : Hid (p = (P2, [])) := (show _ = _ by rw [← HP.out, ← HW1.out.end_]; exact fit_yes HQ1.out)
          clear HMM HM HK wk
          go_wp2_with (go_at_call 37; refine (nprod_is q2 _ HQ.out HX.out).mono ?_; rintro e w' ⟨rfl, rfl⟩)
          refine bodyPost_ret (results_tmp2 rfl _ _ _) rfl ?_
          exact ⟨by rw [HE.out]; rfl, rfl⟩
        · have hkb : ((k : Int) == 0) = false := by simp; omega
          by_cases f2 : R64 (x * x)
          · have s1 := Lib.hid (fit_yes f2)
            have HW2 := Lib.hid HW1.out.square
            have HX2 := Lib.hid f2
            obtain ⟨X2, hX2⟩ : ∃ X2, x * x = X2 := ⟨_, rfl⟩
            rw [hX2] at HW2 HX2
            have s2 : Hid (Nu.fit (x * x) = (X2, [])) := (show _ = _ by rw [s1.out, hX2])
            clear s1 f2 hX2
            go_wp2_with (first
              | (go_at_call 37; (with_reducible (show Calls _ _ #[Value.int _ x, Value.int _ x] _ _)); refine (nprod_is s2 _ HX.out HX.out).mono ?_; rintro e w' ⟨rfl, rfl⟩)
              | (go_at_call 37; (with_reducible (show Calls _ _ #[Value.int _ P, Value.int _ x] _ _)); refine (nprod_is q2 _ HQ.out HX.out).mono ?_; rintro e w' ⟨rfl, rfl⟩))
            refine ⟨⟨X2, P2, k, rfl, rfl, rfl, rfl, HK, HW2, HX2, HQ1⟩, ?_⟩
            have := HMM.out
            simp [intOf]
            omega
          · have s2 := Lib.hid (fit_no f2)
            have HE : Hid (p = (0, Nu.nOver)) := (show _ = _ by
              obtain ⟨j, rfl⟩ : ∃ j, k = j + 1 := ⟨k - 1, by omega⟩
              rw [← HP.out]; exact fit_no (HW1.out.square_far f2))
            clear f2
            go_wp2_with (first
              | (go_at_call 37; (with_reducible (show Calls _ _ #[Value.int _ x, Value.int _ x] _ _)); refine (nprod_is s2 _ HX.out HX.out).mono ?_; rintro e w' ⟨rfl, rfl⟩)
              | (go_at_call 37; (with_reducible (show Calls _ _ #[Value.int _ P, Value.int _ x] _ _)); refine (nprod_is q2 _ HQ.out HX.out).mono ?_; rintro e w' ⟨rfl, rfl⟩))
            refine bodyPost_ret (results_tmp2 rfl _ _ _) rfl ?_
            exact ⟨by rw [HE.out]; rfl, rfl⟩
      · have q2 := Lib.hid (fit_no f1)
        have HE : Hid (p = (0, Nu.nOver)) := (show _ = _ by rw [← HP.out]; exact fit_no (HW.out.odd_far f1))
        clear f1
        go_wp2_with (go_at_call 37; refine (nprod_is q2 _ HQ.out HX.out).mono ?_; rintro e w' ⟨rfl, rfl⟩)
        refine bodyPost_ret (results_tmp2 rfl _ _ _) rfl ?_
        exact ⟨by rw [HE.out]; rfl, rfl⟩
    · subst hk
      have hm1 := h0.2.1
      have hm2 := h0.2.2.2
      obtain ⟨M, hM⟩ : ∃ M : Int, ((2 * k : Nat) : Int) = M := ⟨_, rfl⟩
      have HMM := Lib.hid hM
      rw [hM] at hm1 hm2 ⊢
      clear h0 hM
      by_cases hk0 : k = 0
      · subst hk0
        have HE : Hid (p = (P, [])) := (show _ = _ by rw [← HP.out, ← HW.out.end_]; exact fit_yes HQ.out)
        clear HMM HM HK wk
        go_wp2_with fail
        refine bodyPost_ret (results_tmp2 rfl _ _ _) rfl ?_
        exact ⟨by rw [HE.out]; rfl, rfl⟩
      · have hkb : ((k : Int) == 0) = false := by simp; omega
        by_cases f2 : R64 (x * x)
        · have s1 := Lib.hid (fit_yes f2)
          have HW2 := Lib.hid HW.out.square
          have HX2 := Lib.hid f2
          obtain ⟨X2, hX2⟩ : ∃ X2, x * x = X2 := ⟨_, rfl⟩
          rw [hX2] at HW2 HX2
          have s2 : Hid (Nu.fit (x * x) = (X2, [])) := (show _ = _ by rw [s1.out, hX2])
          clear s1 f2 hX2
          go_wp2_with (go_at_call 37; refine (nprod_is s2 _ HX.out HX.out).mono ?_; rintro e w' ⟨rfl, rfl⟩)
          refine ⟨⟨X2, P, k, rfl, rfl, rfl, rfl, HK, HW2, HX2, HQ⟩, ?_⟩
          have := HMM.out
          simp [intOf]
          omega
        · have s2 := Lib.hid (fit_no f2)
          have HE : Hid (p = (0, Nu.nOver)) := (show _ = _ by
            obtain ⟨j, rfl⟩ : ∃ j, k = j + 1 := ⟨k - 1, by omega⟩
            rw [← HP.out]; exact fit_no (HW.out.square_far f2))
          clear f2
          go_wp2_with (go_at_call 37; refine (nprod_is s2 _ HX.out HX.out).mono ?_; rintro e w' ⟨rfl, rfl⟩)
          refine bodyPost_ret (results_tmp2 rfl _ _ _) rfl ?_
          exact ⟨by rw [HE.out]; rfl, rfl⟩
end Go.Proofs.Ytaekjkihdecmcaa
