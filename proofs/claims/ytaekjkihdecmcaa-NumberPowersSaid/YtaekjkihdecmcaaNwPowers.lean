/-
  NumberPowers of layer 8: the walk, at this program (made by wip/tools/genLaw8.py).
-/
import Derived.Test.YtaekjkihdecmcaaNuV
set_option linter.unusedVariables false
set_option linter.unusedSimpArgs false
namespace Go.Proofs.Ytaekjkihdecmcaa
namespace lawNumberPowers
open Go.RowKit

set_option maxHeartbeats 16000000 in
set_option maxRecDepth 100000 in
theorem walk (a b : Int) (w : World) (ha : Nu.fits a = true) (hb : Nu.fits b = true) : Calls Try.prog 11 #[.int .i64 a, .int .i64 b] w fun e w' => e = .returned (.bool true) ∧ Below w.heap.size w w' := by
  have ha1 := (Nu.fits_iff a).1 ha
  have hb1 := (Nu.fits_iff b).1 hb
  have HA := Lib.hid ha
  have HB := Lib.hid hb
  by_cases hb0 : b < 0
  · have h1 : Hid (Nu.doN (⟨#[42, 42]⟩ : ByteArray).data.toList a b = (0, Nu.nVal)) := (show _ = _ from by unfold Nu.doN; simp [hb0])
    clear ha hb
    go_enter Try.func11, Try.ntmps11
    go_wp2_with (first
      | (go_at_call 15; with_reducible (show Calls _ _ #[Value.string { data := #[42, 42] }, Value.int _ a, Value.int _ b] _ _); refine (nDo_is h1 _ HA.out HB.out).mono ?_; rintro e w1 ⟨rfl, b1⟩)
      | (go_at_call 14; refine (shown8 _).mono ?_; rintro e w0 ⟨rfl, b0⟩))
    go_ret
    refine ⟨ret_bool (by first | rfl | (simp; done) | (simp [Nu.nOver, Nu.nZero, Nu.nVal, Nu.nType]; done) | (simp; omega) | (simp [Nu.nOver, Nu.nZero, Nu.nVal, Nu.nType]; omega)), (bseq b0 b1)⟩
  · obtain ⟨m, hm⟩ : ∃ m : Nat, b.tmod 71 = (m : Int) := ⟨(b.tmod 71).toNat, by have := Int.tmod_nonneg 71 (show 0 ≤ b by omega); omega⟩
    have hm71 : m < 71 := by have := Int.tmod_lt_of_pos b (show (0 : Int) < 71 by decide); omega
    obtain ⟨X, hX⟩ : ∃ X, X = a ^ m := ⟨_, rfl⟩
    obtain ⟨Y, hY⟩ : ∃ Y, Y = a ^ (m + 1) := ⟨_, rfl⟩
    have hd1 : Nu.doN (⟨#[42, 42]⟩ : ByteArray).data.toList a (m : Int) = Nu.fit X := by
      rw [hX]; unfold Nu.doN
      have : ¬ ((m : Int) < 0) := by omega
      simp [this]
    have hd2 : Nu.doN (⟨#[42, 42]⟩ : ByteArray).data.toList a ((m : Int) + 1) = Nu.fit Y := by
      rw [hY]; unfold Nu.doN
      have h1 : ¬ ((m : Int) + 1 < 0) := by omega
      have h2 : ((m : Int) + 1).toNat = m + 1 := by omega
      simp [h1, h2]
    have hXY : Y = X * a := by rw [hX, hY, Int.pow_succ]
    have hd3 : Nu.doN (⟨#[42]⟩ : ByteArray).data.toList X a = Nu.fit Y := by rw [hXY]; rfl
    have w1 : IntKind.i64.wrap ((m : Int) + 1) = (m : Int) + 1 := IntWalk.i64_in _ (by omega)
    have hm0 : ((m : Int) == 0) = true ∧ X = 1 ∧ Y = a ∨ ((m : Int) == 0) = false := by
      by_cases h : m = 0
      · left
        subst h
        exact ⟨rfl, by rw [hX, Int.pow_zero], by rw [hY, Nat.zero_add, Int.pow_succ, Int.pow_zero, Int.one_mul]⟩
      · right
        simp
        omega
    have hov : Nu.fits X = false → Nu.fits Y = false ∧ (1 < a ∨ a < -1) := fun h => by rw [hY]; rw [hX] at h; exact Nu.pow_over h
    clear hX hY hXY
    cases hfx : Nu.fits X with
    | true =>
      have HFX := Lib.hid hfx
      have h1 : Hid (Nu.doN (⟨#[42, 42]⟩ : ByteArray).data.toList a (m : Int) = (X, [])) := (show _ = _ from by rw [hd1, Nu.fit_fits hfx])
      cases hfy : Nu.fits Y with
      | true =>
        have h2 : Hid (Nu.doN (⟨#[42, 42]⟩ : ByteArray).data.toList a ((m : Int) + 1) = (Y, [])) := (show _ = _ from by rw [hd2, Nu.fit_fits hfy])
        have h3 : Hid (Nu.doN (⟨#[42]⟩ : ByteArray).data.toList X a = (Y, [])) := (show _ = _ from by rw [hd3, Nu.fit_fits hfy])
        clear hd1 hd2 hd3 hov ha hb hfx hfy
        rcases hm0 with ⟨g1, g2, g3⟩ | g1
        · subst g2 g3
          go_enter Try.func11, Try.ntmps11
          go_wp2_with (first
            | (go_at_call 15; with_reducible (show Calls _ _ #[Value.string { data := #[42] }, Value.int _ _, Value.int _ _] _ _); refine (nDo_is h3 _ HFX.out HA.out).mono ?_; rintro e w3 ⟨rfl, b3⟩)
            | (go_at_call 15; with_reducible (show Calls _ _ #[Value.string { data := #[42, 42] }, Value.int _ _, Value.int _ ((m : Int) + 1)] _ _); refine (nDo_is h2 _ HA.out (fitsLit (by omega) (by omega))).mono ?_; rintro e w2 ⟨rfl, b2⟩)
            | (go_at_call 15; with_reducible (show Calls _ _ #[Value.string { data := #[42, 42] }, Value.int _ _, Value.int _ (m : Int)] _ _); refine (nDo_is h1 _ HA.out (fitsLit (by omega) (by omega))).mono ?_; rintro e w1 ⟨rfl, b1⟩)
            | (go_at_call 14; refine (shown8 _).mono ?_; rintro e w0 ⟨rfl, b0⟩))
          go_ret
          refine ⟨ret_bool (by first | rfl | (simp; done) | (simp [Nu.nOver, Nu.nZero, Nu.nVal, Nu.nType]; done) | (simp; omega) | (simp [Nu.nOver, Nu.nZero, Nu.nVal, Nu.nType]; omega)), (bseq (bseq (bseq b0 b1) b2) b3)⟩
        · go_enter Try.func11, Try.ntmps11
          go_wp2_with (first
            | (go_at_call 15; with_reducible (show Calls _ _ #[Value.string { data := #[42] }, Value.int _ X, Value.int _ a] _ _); refine (nDo_is h3 _ HFX.out HA.out).mono ?_; rintro e w3 ⟨rfl, b3⟩)
            | (go_at_call 15; with_reducible (show Calls _ _ #[Value.string { data := #[42, 42] }, Value.int _ a, Value.int _ ((m : Int) + 1)] _ _); refine (nDo_is h2 _ HA.out (fitsLit (by omega) (by omega))).mono ?_; rintro e w2 ⟨rfl, b2⟩)
            | (go_at_call 15; with_reducible (show Calls _ _ #[Value.string { data := #[42, 42] }, Value.int _ a, Value.int _ (m : Int)] _ _); refine (nDo_is h1 _ HA.out (fitsLit (by omega) (by omega))).mono ?_; rintro e w1 ⟨rfl, b1⟩)
            | (go_at_call 14; refine (shown8 _).mono ?_; rintro e w0 ⟨rfl, b0⟩))
          go_ret
          refine ⟨ret_bool (by first | rfl | (simp; done) | (simp [Nu.nOver, Nu.nZero, Nu.nVal, Nu.nType]; done) | (simp; omega) | (simp [Nu.nOver, Nu.nZero, Nu.nVal, Nu.nType]; omega)), (bseq (bseq (bseq b0 b1) b2) b3)⟩
      | false =>
        have h2 : Hid (Nu.doN (⟨#[42, 42]⟩ : ByteArray).data.toList a ((m : Int) + 1) = (0, Nu.nOver)) := (show _ = _ from by rw [hd2, Nu.fit_not hfy])
        have h3 : Hid (Nu.doN (⟨#[42]⟩ : ByteArray).data.toList X a = (0, Nu.nOver)) := (show _ = _ from by rw [hd3, Nu.fit_not hfy])
        have g1 : ((m : Int) == 0) = false := by
          rcases hm0 with ⟨_, _, g3⟩ | g
          · rw [g3, HA.out] at hfy; cases hfy
          · exact g
        clear hd1 hd2 hd3 hov ha hb hfx hfy hm0
        go_enter Try.func11, Try.ntmps11
        go_wp2_with (first
          | (go_at_call 15; with_reducible (show Calls _ _ #[Value.string { data := #[42] }, Value.int _ X, Value.int _ a] _ _); refine (nDo_is h3 _ HFX.out HA.out).mono ?_; rintro e w3 ⟨rfl, b3⟩)
          | (go_at_call 15; with_reducible (show Calls _ _ #[Value.string { data := #[42, 42] }, Value.int _ a, Value.int _ ((m : Int) + 1)] _ _); refine (nDo_is h2 _ HA.out (fitsLit (by omega) (by omega))).mono ?_; rintro e w2 ⟨rfl, b2⟩)
          | (go_at_call 15; with_reducible (show Calls _ _ #[Value.string { data := #[42, 42] }, Value.int _ a, Value.int _ (m : Int)] _ _); refine (nDo_is h1 _ HA.out (fitsLit (by omega) (by omega))).mono ?_; rintro e w1 ⟨rfl, b1⟩)
          | (go_at_call 14; refine (shown8 _).mono ?_; rintro e w0 ⟨rfl, b0⟩))
        go_ret
        refine ⟨ret_bool (by first | rfl | (simp; done) | (simp [Nu.nOver, Nu.nZero, Nu.nVal, Nu.nType]; done) | (simp; omega) | (simp [Nu.nOver, Nu.nZero, Nu.nVal, Nu.nType]; omega)), (bseq (bseq (bseq b0 b1) b2) b3)⟩
    | false =>
      obtain ⟨hfy, hbig⟩ := hov hfx
      have h1 : Hid (Nu.doN (⟨#[42, 42]⟩ : ByteArray).data.toList a (m : Int) = (0, Nu.nOver)) := (show _ = _ from by rw [hd1, Nu.fit_not hfx])
      have h2 : Hid (Nu.doN (⟨#[42, 42]⟩ : ByteArray).data.toList a ((m : Int) + 1) = (0, Nu.nOver)) := (show _ = _ from by rw [hd2, Nu.fit_not hfy])
      have g1 : ((m : Int) == 0) = false := by
        rcases hm0 with ⟨_, g2, _⟩ | g
        · rw [g2] at hfx; simp [Nu.fits] at hfx
        · exact g
      clear hd1 hd2 hd3 hov ha hb hfx hfy hm0
      go_enter Try.func11, Try.ntmps11
      go_wp2_with (first
        | (go_at_call 15; with_reducible (show Calls _ _ #[Value.string { data := #[42, 42] }, Value.int _ a, Value.int _ ((m : Int) + 1)] _ _); refine (nDo_is h2 _ HA.out (fitsLit (by omega) (by omega))).mono ?_; rintro e w2 ⟨rfl, b2⟩)
        | (go_at_call 15; with_reducible (show Calls _ _ #[Value.string { data := #[42, 42] }, Value.int _ a, Value.int _ (m : Int)] _ _); refine (nDo_is h1 _ HA.out (fitsLit (by omega) (by omega))).mono ?_; rintro e w1 ⟨rfl, b1⟩)
        | (go_at_call 14; refine (shown8 _).mono ?_; rintro e w0 ⟨rfl, b0⟩))
      all_goals
        go_ret
        refine ⟨ret_bool (by first | rfl | (simp; done) | (simp [Nu.nOver, Nu.nZero, Nu.nVal, Nu.nType]; done) | (simp; omega) | (simp [Nu.nOver, Nu.nZero, Nu.nVal, Nu.nType]; omega)), (bseq (bseq b0 b1) b2)⟩
end lawNumberPowers
end Go.Proofs.Ytaekjkihdecmcaa
