/-
  NumberTells of layer 8: the walk, at this program (made by wip/tools/genLaw8.py).
-/
import Derived.Test.YtaekjkihdecmcaaNuM
import Derived.Test.YtaekjkihdecmcaaNuV
set_option linter.unusedVariables false
set_option linter.unusedSimpArgs false
namespace Go.Proofs.Ytaekjkihdecmcaa
namespace lawNumberTells
open Go.RowKit

set_option maxHeartbeats 16000000 in
set_option maxRecDepth 100000 in
theorem walk (s : ByteArray) (a b : Int) (w : World) (hs : s.size ≤ 9223372036854775807) (ha : Nu.fits a = true) (hb : Nu.fits b = true) : Calls Try.prog 3 #[.string s, .int .i64 a, .int .i64 b] w fun e w' => e = .returned (.bool true) ∧ Below w.heap.size w w' := by
  have ha1 := (Nu.fits_iff a).1 ha
  have hb1 := (Nu.fits_iff b).1 hb
  have HA := Lib.hid ha
  have HB := Lib.hid hb
  clear ha hb
  by_cases h : s.size ≤ 10
  · obtain ⟨n, t, h0⟩ : ∃ n t, Nu.doN s.data.toList a b = (n, t) := ⟨_, _, rfl⟩
    have HSZ : Hid (s.size ≤ 1000000) := (show _ ≤ _ by omega)
    have h1 := Lib.hid h0
    clear h0
    go_enter Try.func3, Try.ntmps3
    go_wp2_with (first
      | (go_at_call 16; refine (rDo_is h1 _ ha1.1 ha1.2 hb1.1 hb1.2).mono ?_; rintro e w2 ⟨rfl, b2⟩)
      | (go_at_call 15; refine (nDo_is h1 _ HA.out HB.out HSZ.out).mono ?_; rintro e w1 ⟨rfl, b1⟩)
      | (go_at_call 14; refine (shown8 _).mono ?_; rintro e w0 ⟨rfl, b0⟩))
    go_ret
    refine ⟨ret_bool (by first | rfl | (simp; done) | (simp [Nu.nOver, Nu.nZero, Nu.nVal, Nu.nType]; done) | (simp; omega) | (simp [Nu.nOver, Nu.nZero, Nu.nVal, Nu.nType]; omega)), (bseq (bseq b0 b1) b2)⟩
  · obtain ⟨n, t, h0⟩ : ∃ n t, Nu.doN (s.extract 0 10).data.toList a b = (n, t) := ⟨_, _, rfl⟩
    have HSZ : Hid ((s.extract 0 10).size ≤ 1000000) := (show _ ≤ _ by rw [ByteArray.size_extract]; omega)
    have h1 := Lib.hid h0
    clear h0
    go_enter Try.func3, Try.ntmps3
    go_wp2_with (first
      | (go_at_call 16; refine (rDo_is h1 _ ha1.1 ha1.2 hb1.1 hb1.2).mono ?_; rintro e w2 ⟨rfl, b2⟩)
      | (go_at_call 15; refine (nDo_is h1 _ HA.out HB.out HSZ.out).mono ?_; rintro e w1 ⟨rfl, b1⟩)
      | (go_at_call 14; refine (shown8 _).mono ?_; rintro e w0 ⟨rfl, b0⟩))
    go_ret
    refine ⟨ret_bool (by first | rfl | (simp; done) | (simp [Nu.nOver, Nu.nZero, Nu.nVal, Nu.nType]; done) | (simp; omega) | (simp [Nu.nOver, Nu.nZero, Nu.nVal, Nu.nType]; omega)), (bseq (bseq b0 b1) b2)⟩
end lawNumberTells
end Go.Proofs.Ytaekjkihdecmcaa
