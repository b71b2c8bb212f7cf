/-
  NumberParts of layer 8: the walk, at this program (made by wip/tools/genLaw8.py).
-/
import Derived.Test.YtaekjkihdecmcaaNuV
set_option linter.unusedVariables false
set_option linter.unusedSimpArgs false
namespace Go.Proofs.Ytaekjkihdecmcaa
namespace lawNumberParts
open Go.RowKit

set_option maxHeartbeats 16000000 in
set_option maxRecDepth 100000 in
theorem walk (a b : Int) (w : World) (ha : Nu.fits a = true) (hb : Nu.fits b = true) : Calls Try.prog 7 #[.int .i64 a, .int .i64 b] w fun e w' => e = .returned (.bool true) ∧ Below w.heap.size w w' := by
  have ha1 := (Nu.fits_iff a).1 ha
  have hb1 := (Nu.fits_iff b).1 hb
  have HA := Lib.hid ha
  have HB := Lib.hid hb
  by_cases hb0 : b = 0
  · have h1 : Hid (Nu.doN (⟨#[47, 47]⟩ : ByteArray).data.toList a b = (0, Nu.nZero)) := (show _ = _ from by unfold Nu.doN; simp [hb0])
    have h2 : Hid (Nu.doN (⟨#[37]⟩ : ByteArray).data.toList a b = (0, Nu.nZero)) := (show _ = _ from by unfold Nu.doN; simp [hb0])
    have hbb : (b == 0) = true := by simpa using hb0
    clear ha hb hb0
    go_enter Try.func7, Try.ntmps7
    go_wp2_with (first
      | (go_at_call 15; with_reducible (show Calls _ _ #[Value.string { data := #[37] }, Value.int _ a, Value.int _ b] _ _); refine (nDo_is h2 _ HA.out HB.out).mono ?_; rintro e w2 ⟨rfl, b2⟩)
      | (go_at_call 15; with_reducible (show Calls _ _ #[Value.string { data := #[47, 47] }, Value.int _ a, Value.int _ b] _ _); refine (nDo_is h1 _ HA.out HB.out).mono ?_; rintro e w1 ⟨rfl, b1⟩)
      | (go_at_call 14; refine (shown8 _).mono ?_; rintro e w0 ⟨rfl, b0⟩))
    go_ret
    refine ⟨ret_bool (by first | rfl | (simp; done) | (simp [Nu.nOver, Nu.nZero, Nu.nVal, Nu.nType]; done) | (simp; omega) | (simp [Nu.nOver, Nu.nZero, Nu.nVal, Nu.nType]; omega)), (bseq (bseq b0 b1) b2)⟩
  · have hbb : (b == 0) = false := by simpa using hb0
    obtain ⟨Q, hQ⟩ : ∃ Q, Q = a.fdiv b := ⟨_, rfl⟩
    obtain ⟨R, hR⟩ : ∃ R, R = a.fmod b := ⟨_, rfl⟩
    obtain ⟨hp, hr1, hr2⟩ := Nu.parts_range a b
    have hRf := Nu.mod_fits (a := a) hb hb0
    have hdf := Nu.div_fits (b := b) ha hb0
    rw [← hQ, ← hR] at hp
    rw [← hR] at hr1 hr2 hRf
    rw [← hQ] at hdf
    have h2 : Hid (Nu.doN (⟨#[37]⟩ : ByteArray).data.toList a b = (R, [])) := (show _ = _ from by unfold Nu.doN; simp [hb0, ← hR]; exact Nu.fit_fits hRf)
    have hQd : Nu.doN (⟨#[47, 47]⟩ : ByteArray).data.toList a b = Nu.fit Q := by rw [hQ]; unfold Nu.doN; simp [hb0]
    have HP := Lib.hid hp
    have HR1 := Lib.hid hr1
    have HR2 := Lib.hid hr2
    obtain ⟨M, hM⟩ : ∃ M, M = IntKind.i64.wrap (Q * b) := ⟨_, rfl⟩
    have w2 : IntKind.i64.wrap (M + R) = a := by
      rw [hM, IntKind.wrap_i64, IntKind.wrap_i64]
      omega
    have w1 : IntKind.i64.wrap (Q * b) = M := hM.symm
    clear hM hp hr1 hr2 hQ hR ha hb
    have signs : (decide (0 < b) = true ∧ decide (R < 0) = false ∧ decide (b ≤ R) = false) ∨ (decide (0 < b) = false ∧ decide (b < 0) = true ∧ decide (0 < R) = false ∧ decide (R ≤ b) = false) := by
      rcases Int.lt_or_gt_of_ne hb0 with h | h
      · have := HR2.out h
        exact Or.inr ⟨decide_eq_false (by omega), decide_eq_true h, decide_eq_false (by omega), decide_eq_false (by omega)⟩
      · have := HR1.out h
        exact Or.inl ⟨decide_eq_true h, decide_eq_false (by omega), decide_eq_false (by omega)⟩
    clear hb0
    rcases hdf with hQf | ⟨e1, e2⟩
    · have h1 : Hid (Nu.doN (⟨#[47, 47]⟩ : ByteArray).data.toList a b = (Q, [])) := (show _ = _ from by rw [hQd, Nu.fit_fits hQf])
      clear hQd hQf
      rcases signs with ⟨g1, g2, g3⟩ | ⟨g1, g2, g3, g4⟩
      all_goals
        go_enter Try.func7, Try.ntmps7
        go_wp2_with (first
          | (go_at_call 15; with_reducible (show Calls _ _ #[Value.string { data := #[37] }, Value.int _ a, Value.int _ b] _ _); refine (nDo_is h2 _ HA.out HB.out).mono ?_; rintro e w2 ⟨rfl, b2⟩)
          | (go_at_call 15; with_reducible (show Calls _ _ #[Value.string { data := #[47, 47] }, Value.int _ a, Value.int _ b] _ _); refine (nDo_is h1 _ HA.out HB.out).mono ?_; rintro e w1 ⟨rfl, b1⟩)
          | (go_at_call 14; refine (shown8 _).mono ?_; rintro e w0 ⟨rfl, b0⟩))
        all_goals
          first
            | (go_ret; exact ⟨ret_bool (by first | rfl | (simp; done) | (simp; omega)), (bseq (bseq b0 b1) b2)⟩)
            | (exfalso; simp at g3 g4; omega)
            | (exfalso; simp at g2 g3; omega)
    · have h1 : Hid (Nu.doN (⟨#[47, 47]⟩ : ByteArray).data.toList a b = (0, Nu.nOver)) := (show _ = _ from by
        rw [e1, e2]
        decide +kernel)
      clear hQd
      subst e1 e2
      rcases signs with ⟨g1, g2, g3⟩ | ⟨g1, g2, g3, g4⟩
      all_goals
        go_enter Try.func7, Try.ntmps7
        go_wp2_with (first
          | (go_at_call 15; with_reducible (show Calls _ _ #[Value.string { data := #[37] }, Value.int _ _, Value.int _ _] _ _); refine (nDo_is h2 _ HA.out HB.out).mono ?_; rintro e w2 ⟨rfl, b2⟩)
          | (go_at_call 15; with_reducible (show Calls _ _ #[Value.string { data := #[47, 47] }, Value.int _ _, Value.int _ _] _ _); refine (nDo_is h1 _ HA.out HB.out).mono ?_; rintro e w1 ⟨rfl, b1⟩)
          | (go_at_call 14; refine (shown8 _).mono ?_; rintro e w0 ⟨rfl, b0⟩))
        all_goals
          first
            | (go_ret; exact ⟨ret_bool (by first | rfl | (simp; done) | (simp; omega)), (bseq (bseq b0 b1) b2)⟩)
            | (exfalso; simp at g3 g4; omega)
            | (exfalso; simp at g2 g3; omega)
end lawNumberParts
end Go.Proofs.Ytaekjkihdecmcaa
