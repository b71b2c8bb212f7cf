/-
  NumberProducts of layer 8: the walk, at this program (made by wip/tools/genLaw8.py).
-/
import Derived.Test.YtaekjkihdecmcaaNuV
set_option linter.unusedVariables false
set_option linter.unusedSimpArgs false
namespace Go.Proofs.Ytaekjkihdecmcaa
namespace lawNumberProducts
open Go.RowKit

set_option maxHeartbeats 16000000 in
set_option maxRecDepth 100000 in
theorem walk (a b : Int) (w : World) (ha : Nu.fits a = true) (hb : Nu.fits b = true) : Calls Try.prog 9 #[.int .i64 a, .int .i64 b] w fun e w' => e = .returned (.bool true) ∧ Below w.heap.size w w' := by
  have ha1 := (Nu.fits_iff a).1 ha
  have hb1 := (Nu.fits_iff b).1 hb
  have HA := Lib.hid ha
  have HB := Lib.hid hb
  obtain ⟨P, hP⟩ : ∃ P, P = a * b := ⟨_, rfl⟩
  have hdo1 : Nu.doN (⟨#[42]⟩ : ByteArray).data.toList a b = Nu.fit P := by rw [hP]; rfl
  have hdo2 : Nu.doN (⟨#[42]⟩ : ByteArray).data.toList b a = Nu.fit P := by rw [hP, Int.mul_comm]; rfl
  cases hf : Nu.fits P with
  | true =>
    have hP1 := (Nu.fits_iff P).1 hf
    have HF := Lib.hid hf
    have h1 : Hid (Nu.doN (⟨#[42]⟩ : ByteArray).data.toList a b = (P, [])) := (show _ = _ from by rw [hdo1, Nu.fit_fits hf])
    have h2 : Hid (Nu.doN (⟨#[42]⟩ : ByteArray).data.toList b a = (P, [])) := (show _ = _ from by rw [hdo2, Nu.fit_fits hf])
    clear hdo1 hdo2 hf
    by_cases h0 : a = 0 ∨ b = 0
    · have hp0 : P = 0 := by rw [hP]; exact Nu.prod_zero h0
      have hz : ((a == 0) = true) ∨ ((a == 0) = false ∧ (b == 0) = true) := by
        by_cases h : a = 0
        · left; simpa using h
        · right
          refine ⟨by simpa using h, ?_⟩
          rcases h0 with g | g
          · exact absurd g h
          · simpa using g
      subst hp0
      clear hP h0 ha hb
      rcases hz with z1 | ⟨z1, z2⟩
      all_goals
        go_enter Try.func9, Try.ntmps9
        go_wp2_with (first
          | (go_at_call 15; with_reducible (show Calls _ _ #[Value.string { data := #[42] }, Value.int _ b, Value.int _ a] _ _); refine (nDo_is h2 _ HB.out HA.out).mono ?_; rintro e w2 ⟨rfl, b2⟩)
          | (go_at_call 15; with_reducible (show Calls _ _ #[Value.string { data := #[42] }, Value.int _ a, Value.int _ b] _ _); refine (nDo_is h1 _ HA.out HB.out).mono ?_; rintro e w1 ⟨rfl, b1⟩)
          | (go_at_call 14; refine (shown8 _).mono ?_; rintro e w0 ⟨rfl, b0⟩))
        go_ret
        refine ⟨ret_bool (by first | rfl | (simp; done) | (simp [Nu.nOver, Nu.nZero, Nu.nVal, Nu.nType]; done) | (simp; omega) | (simp [Nu.nOver, Nu.nZero, Nu.nVal, Nu.nType]; omega)), (bseq (bseq b0 b1) b2)⟩
    · have ha0 : a ≠ 0 := fun e => h0 (Or.inl e)
      have hb0 : b ≠ 0 := fun e => h0 (Or.inr e)
      have za : (a == 0) = false := by simpa using ha0
      have zb : (b == 0) = false := by simpa using hb0
      have h3 : Hid (Nu.doN (⟨#[47, 47]⟩ : ByteArray).data.toList P b = (a, [])) := (show _ = _ from by
        have e : P.fdiv b = a := by rw [hP]; exact Int.mul_fdiv_cancel _ hb0
        unfold Nu.doN
        simp [hb0]
        rw [e]
        exact Nu.fit_fits HA.out)
      have h4 : Hid (Nu.doN (⟨#[37]⟩ : ByteArray).data.toList P b = (0, [])) := (show _ = _ from by
        have e : P.fmod b = 0 := by rw [hP]; exact Int.mul_fmod_left _ _
        unfold Nu.doN
        simp [hb0]
        rw [e]
        rfl)
      have hsg : (decide (P < 0) == !(decide (a < 0) == decide (b < 0))) = true := by
        have := Nu.prod_sign ha0 hb0
        rw [← hP] at this
        by_cases g1 : a < 0 <;> by_cases g2 : b < 0 <;> simp [g1, g2] at this ⊢ <;> omega
      have w1 : IntKind.i64.wrap (a * b) = P := by rw [← hP]; exact IntWalk.i64_in _ hP1
      clear hP h0 ha hb ha0 hb0
      go_enter Try.func9, Try.ntmps9
      go_wp2_with (first
        | (go_at_call 15; with_reducible (show Calls _ _ #[Value.string { data := #[37] }, Value.int _ P, Value.int _ b] _ _); refine (nDo_is h4 _ HF.out HB.out).mono ?_; rintro e w4 ⟨rfl, b4⟩)
        | (go_at_call 15; with_reducible (show Calls _ _ #[Value.string { data := #[47, 47] }, Value.int _ P, Value.int _ b] _ _); refine (nDo_is h3 _ HF.out HB.out).mono ?_; rintro e w3 ⟨rfl, b3⟩)
        | (go_at_call 15; with_reducible (show Calls _ _ #[Value.string { data := #[42] }, Value.int _ b, Value.int _ a] _ _); refine (nDo_is h2 _ HB.out HA.out).mono ?_; rintro e w2 ⟨rfl, b2⟩)
        | (go_at_call 15; with_reducible (show Calls _ _ #[Value.string { data := #[42] }, Value.int _ a, Value.int _ b] _ _); refine (nDo_is h1 _ HA.out HB.out).mono ?_; rintro e w1 ⟨rfl, b1⟩)
        | (go_at_call 14; refine (shown8 _).mono ?_; rintro e w0 ⟨rfl, b0⟩))
      go_ret
      refine ⟨ret_bool (by first | rfl | (simp; done) | (simp [Nu.nOver, Nu.nZero, Nu.nVal, Nu.nType]; done) | (simp; omega) | (simp [Nu.nOver, Nu.nZero, Nu.nVal, Nu.nType]; omega)), (bseq (bseq (bseq (bseq b0 b1) b2) b3) b4)⟩
  | false =>
    have hfar := Nu.prod_far ha hb (by rw [← hP]; exact hf)
    have h1 : Hid (Nu.doN (⟨#[42]⟩ : ByteArray).data.toList a b = (0, Nu.nOver)) := (show _ = _ from by rw [hdo1, Nu.fit_not hf])
    have h2 : Hid (Nu.doN (⟨#[42]⟩ : ByteArray).data.toList b a = (0, Nu.nOver)) := (show _ = _ from by rw [hdo2, Nu.fit_not hf])
    have h0 : a ≠ 0 ∧ b ≠ 0 := by
      constructor
      · intro e; rw [hP, e] at hf; simp [Nu.fits] at hf
      · intro e; rw [hP, e] at hf; simp [Nu.fits] at hf
    have za : (a == 0) = false := by simpa using h0.1
    have zb : (b == 0) = false := by simpa using h0.2
    obtain ⟨f1, f2⟩ := hfar
    clear hP ha hb hdo1 hdo2 hf h0
    go_enter Try.func9, Try.ntmps9
    go_wp2_with (first
      | (go_at_call 15; with_reducible (show Calls _ _ #[Value.string { data := #[42] }, Value.int _ b, Value.int _ a] _ _); refine (nDo_is h2 _ HB.out HA.out).mono ?_; rintro e w2 ⟨rfl, b2⟩)
      | (go_at_call 15; with_reducible (show Calls _ _ #[Value.string { data := #[42] }, Value.int _ a, Value.int _ b] _ _); refine (nDo_is h1 _ HA.out HB.out).mono ?_; rintro e w1 ⟨rfl, b1⟩)
      | (go_at_call 14; refine (shown8 _).mono ?_; rintro e w0 ⟨rfl, b0⟩))
    all_goals
      go_ret
      refine ⟨ret_bool (by first | rfl | (simp; done) | (simp [Nu.nOver, Nu.nZero, Nu.nVal, Nu.nType]; done) | (simp; omega) | (simp [Nu.nOver, Nu.nZero, Nu.nVal, Nu.nType]; omega)), (bseq (bseq b0 b1) b2)⟩
end lawNumberProducts
end Go.Proofs.Ytaekjkihdecmcaa
