/-
  NumberSums of layer 8: the walk, at this program (made by wip/tools/genLaw8.py).
-/
import Derived.Test.YtaekjkihdecmcaaNuV
set_option linter.unusedVariables false
set_option linter.unusedSimpArgs false
namespace Go.Proofs.Ytaekjkihdecmcaa
namespace lawNumberSums
open Go.RowKit

set_option maxHeartbeats 16000000 in
set_option maxRecDepth 100000 in
theorem walk (a b : Int) (w : World) (ha : Nu.fits a = true) (hb : Nu.fits b = true) : Calls Try.prog 8 #[.int .i64 a, .int .i64 b] w fun e w' => e = .returned (.bool true) ∧ Below w.heap.size w w' := by
  have ha1 := (Nu.fits_iff a).1 ha
  have hb1 := (Nu.fits_iff b).1 hb
  have HA := Lib.hid ha
  have HB := Lib.hid hb
  clear ha hb
  cases hf : Nu.fits (a + b) with
  | true =>
    have hf1 := (Nu.fits_iff (a + b)).1 hf
    have h1 : Hid (Nu.doN (⟨#[43]⟩ : ByteArray).data.toList a b = (a + b, [])) := (show _ = _ from by show Nu.fit (a + b) = _; exact Nu.fit_fits hf)
    have h2 : Hid (Nu.doN (⟨#[43]⟩ : ByteArray).data.toList b a = (a + b, [])) := (show _ = _ from by show Nu.fit (b + a) = _; rw [Int.add_comm]; exact Nu.fit_fits hf)
    have h3 : Hid (Nu.doN (⟨#[45]⟩ : ByteArray).data.toList (a + b) b = (a, [])) := (show _ = _ from by show Nu.fit (a + b - b) = _; rw [Int.add_sub_cancel]; exact Nu.fit_fits HA.out)
    have HF := Lib.hid hf
    clear hf
    have ws : IntKind.i64.wrap (a + b) = a + b := IntWalk.i64_in _ (by omega)
    by_cases hb0 : 0 ≤ b
    · have w1 : IntKind.i64.wrap (9223372036854775807 - b) = 9223372036854775807 - b := IntWalk.i64_in _ (by omega)
      have hc : a ≤ 9223372036854775807 - b := by omega
      go_enter Try.func8, Try.ntmps8
      go_wp2_with (first
        | (go_at_call 15; with_reducible (show Calls _ _ #[Value.string { data := #[45] }, Value.int _ (a + b), Value.int _ b] _ _); refine (nDo_is h3 _ HF.out HB.out).mono ?_; rintro e w3 ⟨rfl, b3⟩)
        | (go_at_call 15; with_reducible (show Calls _ _ #[Value.string { data := #[43] }, Value.int _ b, Value.int _ a] _ _); refine (nDo_is h2 _ HB.out HA.out).mono ?_; rintro e w2 ⟨rfl, b2⟩)
        | (go_at_call 15; with_reducible (show Calls _ _ #[Value.string { data := #[43] }, Value.int _ a, Value.int _ b] _ _); refine (nDo_is h1 _ HA.out HB.out).mono ?_; rintro e w1 ⟨rfl, b1⟩)
        | (go_at_call 14; refine (shown8 _).mono ?_; rintro e w0 ⟨rfl, b0⟩))
      go_ret
      refine ⟨ret_bool (by first | rfl | (simp; done) | (simp [Nu.nOver, Nu.nZero, Nu.nVal, Nu.nType]; done) | (simp; omega) | (simp [Nu.nOver, Nu.nZero, Nu.nVal, Nu.nType]; omega)), (bseq (bseq (bseq b0 b1) b2) b3)⟩
    · have w1 : IntKind.i64.wrap (-9223372036854775808 - b) = -9223372036854775808 - b := IntWalk.i64_in _ (by omega)
      have hb2 : b < 0 := by omega
      have hc : -9223372036854775808 - b ≤ a := by omega
      go_enter Try.func8, Try.ntmps8
      go_wp2_with (first
        | (go_at_call 15; with_reducible (show Calls _ _ #[Value.string { data := #[45] }, Value.int _ (a + b), Value.int _ b] _ _); refine (nDo_is h3 _ HF.out HB.out).mono ?_; rintro e w3 ⟨rfl, b3⟩)
        | (go_at_call 15; with_reducible (show Calls _ _ #[Value.string { data := #[43] }, Value.int _ b, Value.int _ a] _ _); refine (nDo_is h2 _ HB.out HA.out).mono ?_; rintro e w2 ⟨rfl, b2⟩)
        | (go_at_call 15; with_reducible (show Calls _ _ #[Value.string { data := #[43] }, Value.int _ a, Value.int _ b] _ _); refine (nDo_is h1 _ HA.out HB.out).mono ?_; rintro e w1 ⟨rfl, b1⟩)
        | (go_at_call 14; refine (shown8 _).mono ?_; rintro e w0 ⟨rfl, b0⟩))
      go_ret
      refine ⟨ret_bool (by first | rfl | (simp; done) | (simp [Nu.nOver, Nu.nZero, Nu.nVal, Nu.nType]; done) | (simp; omega) | (simp [Nu.nOver, Nu.nZero, Nu.nVal, Nu.nType]; omega)), (bseq (bseq (bseq b0 b1) b2) b3)⟩
  | false =>
    have hf1 : ¬ (-9223372036854775808 ≤ a + b ∧ a + b ≤ 9223372036854775807) := fun h => by rw [(Nu.fits_iff (a + b)).2 h] at hf; cases hf
    have h1 : Hid (Nu.doN (⟨#[43]⟩ : ByteArray).data.toList a b = (0, Nu.nOver)) := (show _ = _ from by show Nu.fit (a + b) = _; exact Nu.fit_not hf)
    have h2 : Hid (Nu.doN (⟨#[43]⟩ : ByteArray).data.toList b a = (0, Nu.nOver)) := (show _ = _ from by show Nu.fit (b + a) = _; rw [Int.add_comm]; exact Nu.fit_not hf)
    clear hf
    by_cases hb0 : 0 ≤ b
    · have w1 : IntKind.i64.wrap (9223372036854775807 - b) = 9223372036854775807 - b := IntWalk.i64_in _ (by omega)
      have hc : decide (a ≤ 9223372036854775807 - b) = false := decide_eq_false (by omega)
      have hb2 : ¬ b < 0 := by omega
      go_enter Try.func8, Try.ntmps8
      go_wp2_with (first
        | (go_at_call 15; with_reducible (show Calls _ _ #[Value.string { data := #[43] }, Value.int _ b, Value.int _ a] _ _); refine (nDo_is h2 _ HB.out HA.out).mono ?_; rintro e w2 ⟨rfl, b2⟩)
        | (go_at_call 15; with_reducible (show Calls _ _ #[Value.string { data := #[43] }, Value.int _ a, Value.int _ b] _ _); refine (nDo_is h1 _ HA.out HB.out).mono ?_; rintro e w1 ⟨rfl, b1⟩)
        | (go_at_call 14; refine (shown8 _).mono ?_; rintro e w0 ⟨rfl, b0⟩))
      go_ret
      refine ⟨ret_bool (by first | rfl | (simp; done) | (simp [Nu.nOver, Nu.nZero, Nu.nVal, Nu.nType]; done) | (simp; omega) | (simp [Nu.nOver, Nu.nZero, Nu.nVal, Nu.nType]; omega)), (bseq (bseq b0 b1) b2)⟩
    · have w1 : IntKind.i64.wrap (-9223372036854775808 - b) = -9223372036854775808 - b := IntWalk.i64_in _ (by omega)
      have hb2 : b < 0 := by omega
      have hc : decide (-9223372036854775808 - b ≤ a) = false := decide_eq_false (by omega)
      go_enter Try.func8, Try.ntmps8
      go_wp2_with (first
        | (go_at_call 15; with_reducible (show Calls _ _ #[Value.string { data := #[43] }, Value.int _ b, Value.int _ a] _ _); refine (nDo_is h2 _ HB.out HA.out).mono ?_; rintro e w2 ⟨rfl, b2⟩)
        | (go_at_call 15; with_reducible (show Calls _ _ #[Value.string { data := #[43] }, Value.int _ a, Value.int _ b] _ _); refine (nDo_is h1 _ HA.out HB.out).mono ?_; rintro e w1 ⟨rfl, b1⟩)
        | (go_at_call 14; refine (shown8 _).mono ?_; rintro e w0 ⟨rfl, b0⟩))
      go_ret
      refine ⟨ret_bool (by first | rfl | (simp; done) | (simp [Nu.nOver, Nu.nZero, Nu.nVal, Nu.nType]; done) | (simp; omega) | (simp [Nu.nOver, Nu.nZero, Nu.nVal, Nu.nType]; omega)), (bseq (bseq b0 b1) b2)⟩
end lawNumberSums
end Go.Proofs.Ytaekjkihdecmcaa
