/-
  NumberParses of layer 8: the walk, at this program (made by wip/tools/genLaw8.py).
-/
import Derived.Test.YtaekjkihdecmcaaNuV
set_option linter.unusedVariables false
set_option linter.unusedSimpArgs false
namespace Go.Proofs.Ytaekjkihdecmcaa
namespace lawNumberParses
open Go.RowKit

set_option maxHeartbeats 16000000 in
set_option maxRecDepth 100000 in
theorem walk (s : ByteArray) (w : World) (hs : s.size ≤ 9223372036854775807) : Calls Try.prog 5 #[.string s] w fun e w' => e = .returned (.bool true) ∧ Below w.heap.size w w' := by
  by_cases h : s.size ≤ 60
  · obtain ⟨v, ok, h0⟩ : ∃ v ok, toldP (Nu.parse s.data.toList) = .tuple #[.int .i64 v, .bool ok] := by
      cases Nu.parse s.data.toList with
      | none => exact ⟨0, false, rfl⟩
      | some v => exact ⟨v, true, rfl⟩
    have hsz : s.size ≤ 1000000 := (by omega)
    have h2 : ∀ w, Calls Try.prog 24 #[.string s] w fun e w' => e = .returned (.tuple #[.int .i64 v, .bool ok]) ∧ Below w.heap.size w w' := fun w => by
      rw [← h0]
      exact rParse_is (show _ = _ from rfl) hsz w
    have HSZ := Lib.hid hsz
    have h1 := Lib.hid h0
    have H2 := Lib.hid h2
    clear h0 h2 hsz
    go_enter Try.func5, Try.ntmps5
    go_wp2_with (first
      | (go_at_call 24; refine (H2.out _).mono ?_; rintro e w2 ⟨rfl, b2⟩)
      | (go_at_call 23; refine (nParse_is h1 HSZ.out _).mono ?_; rintro e w1 ⟨rfl, b1⟩)
      | (go_at_call 14; refine (shown8 _).mono ?_; rintro e w0 ⟨rfl, b0⟩))
    go_ret
    refine ⟨ret_bool (by first | rfl | (simp; done) | (simp [Nu.nOver, Nu.nZero, Nu.nVal, Nu.nType]; done) | (simp; omega) | (simp [Nu.nOver, Nu.nZero, Nu.nVal, Nu.nType]; omega)), (bseq (bseq b0 b1) b2)⟩
  · obtain ⟨v, ok, h0⟩ : ∃ v ok, toldP (Nu.parse (s.extract 0 60).data.toList) = .tuple #[.int .i64 v, .bool ok] := by
      cases Nu.parse (s.extract 0 60).data.toList with
      | none => exact ⟨0, false, rfl⟩
      | some v => exact ⟨v, true, rfl⟩
    have hsz : (s.extract 0 60).size ≤ 1000000 := (by rw [ByteArray.size_extract]; omega)
    have h2 : ∀ w, Calls Try.prog 24 #[.string (s.extract 0 60)] w fun e w' => e = .returned (.tuple #[.int .i64 v, .bool ok]) ∧ Below w.heap.size w w' := fun w => by
      rw [← h0]
      exact rParse_is (show _ = _ from rfl) hsz w
    have HSZ := Lib.hid hsz
    have h1 := Lib.hid h0
    have H2 := Lib.hid h2
    clear h0 h2 hsz
    go_enter Try.func5, Try.ntmps5
    go_wp2_with (first
      | (go_at_call 24; refine (H2.out _).mono ?_; rintro e w2 ⟨rfl, b2⟩)
      | (go_at_call 23; refine (nParse_is h1 HSZ.out _).mono ?_; rintro e w1 ⟨rfl, b1⟩)
      | (go_at_call 14; refine (shown8 _).mono ?_; rintro e w0 ⟨rfl, b0⟩))
    go_ret
    refine ⟨ret_bool (by first | rfl | (simp; done) | (simp [Nu.nOver, Nu.nZero, Nu.nVal, Nu.nType]; done) | (simp; omega) | (simp [Nu.nOver, Nu.nZero, Nu.nVal, Nu.nType]; omega)), (bseq (bseq b0 b1) b2)⟩
end lawNumberParses
end Go.Proofs.Ytaekjkihdecmcaa
