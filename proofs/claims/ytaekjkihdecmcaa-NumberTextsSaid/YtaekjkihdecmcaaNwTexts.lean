/-
  NumberTexts of layer 8: the walk, at this program (made by wip/tools/genLaw8.py).
-/
import Derived.Test.YtaekjkihdecmcaaNuV
set_option linter.unusedVariables false
set_option linter.unusedSimpArgs false
namespace Go.Proofs.Ytaekjkihdecmcaa
namespace lawNumberTexts
open Go.RowKit

set_option maxHeartbeats 16000000 in
set_option maxRecDepth 100000 in
theorem walk (a : Int) (w : World) (ha : Nu.fits a = true) : Calls Try.prog 4 #[.int .i64 a] w fun e w' => e = .returned (.bool true) ∧ Below w.heap.size w w' := by
  have ha1 := (Nu.fits_iff a).1 ha
  have HA := Lib.hid ha
  obtain ⟨t, h0⟩ : ∃ t, Nu.text a = t := ⟨_, rfl⟩
  have h2 := Lib.hid h0
  have h9 : (-a).natAbs < 65536 ^ 900 := lt9 (by omega)
  clear ha h0
  cases hf : Nu.fits (-a) with
  | true =>
    have h1 : Hid (Nu.fit (-a) = (-a, [])) := (show _ = _ from Nu.fit_fits hf)
    go_enter Try.func4, Try.ntmps4
    go_wp2_with (first
      | (go_at_call 22; refine (rText_is h2 _ ha1.1 ha1.2).mono ?_; rintro e w6 ⟨rfl, b6⟩)
      | (go_at_call 21; refine (nText_is h2 _ HA.out).mono ?_; rintro e w5 ⟨rfl, b5⟩)
      | (go_at_call 18; refine (Int_yes HV2.out hf h9).mono ?_; rintro e w4 ⟨rfl, b4⟩; have b4 := b4.out)
      | (go_at_call 19; refine (Neg_is (z := -a) HV1.out (int_lt1 ha1.1 ha1.2) rfl).mono ?_; rintro e w3 ⟨s2, p2, n2, c2, rfl, HV2, b3⟩; have b3 := b3.out)
      | (go_at_call 20; refine (Of_is ha1.1 ha1.2).mono ?_; rintro e w2 ⟨s1, p1, n1, c1, rfl, HV1, b2⟩; have b2 := b2.out)
      | (go_at_call 17; refine (nNeg_is h1 _ HA.out).mono ?_; rintro e w1 ⟨rfl, b1⟩)
      | (go_at_call 14; refine (shown8 _).mono ?_; rintro e w0 ⟨rfl, b0⟩))
    go_ret
    refine ⟨ret_bool (by first | rfl | (simp; done) | (simp [Nu.nOver, Nu.nZero, Nu.nVal, Nu.nType]; done) | (simp; omega) | (simp [Nu.nOver, Nu.nZero, Nu.nVal, Nu.nType]; omega)), (bseq (bseq (bseq (bseq (bseq (bseq b0 b1) b2) b3) b4) b5) b6)⟩
  | false =>
    have h1 : Hid (Nu.fit (-a) = (0, Nu.nOver)) := (show _ = _ from Nu.fit_not hf)
    go_enter Try.func4, Try.ntmps4
    go_wp2_with (first
      | (go_at_call 22; refine (rText_is h2 _ ha1.1 ha1.2).mono ?_; rintro e w6 ⟨rfl, b6⟩)
      | (go_at_call 21; refine (nText_is h2 _ HA.out).mono ?_; rintro e w5 ⟨rfl, b5⟩)
      | (go_at_call 18; refine (Int_no HV2.out hf h9).mono ?_; rintro e w4 ⟨q, rfl, b4⟩; have b4 := b4.out)
      | (go_at_call 19; refine (Neg_is (z := -a) HV1.out (int_lt1 ha1.1 ha1.2) rfl).mono ?_; rintro e w3 ⟨s2, p2, n2, c2, rfl, HV2, b3⟩; have b3 := b3.out)
      | (go_at_call 20; refine (Of_is ha1.1 ha1.2).mono ?_; rintro e w2 ⟨s1, p1, n1, c1, rfl, HV1, b2⟩; have b2 := b2.out)
      | (go_at_call 17; refine (nNeg_is h1 _ HA.out).mono ?_; rintro e w1 ⟨rfl, b1⟩)
      | (go_at_call 14; refine (shown8 _).mono ?_; rintro e w0 ⟨rfl, b0⟩))
    go_ret
    refine ⟨ret_bool (by first | rfl | (simp; done) | (simp [Nu.nOver, Nu.nZero, Nu.nVal, Nu.nType]; done) | (simp; omega) | (simp [Nu.nOver, Nu.nZero, Nu.nVal, Nu.nType]; omega)), (bseq (bseq (bseq (bseq (bseq (bseq b0 b1) b2) b3) b4) b5) b6)⟩
end lawNumberTexts
end Go.Proofs.Ytaekjkihdecmcaa
