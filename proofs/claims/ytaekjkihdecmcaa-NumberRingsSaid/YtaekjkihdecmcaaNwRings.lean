/-
  NumberRings of layer 8: the walk, at this program (made by wip/tools/genLaw8.py).
-/
import Derived.Test.YtaekjkihdecmcaaNuV
set_option linter.unusedVariables false
set_option linter.unusedSimpArgs false
namespace Go.Proofs.Ytaekjkihdecmcaa
namespace lawNumberRings
open Go.RowKit

set_option maxHeartbeats 16000000 in
set_option maxRecDepth 100000 in
theorem tmod_small (x : Int) : -524288 < x.tmod 524288 ∧ x.tmod 524288 < 524288 := ⟨by have := Int.lt_tmod_of_pos x (b := 524288) (by decide); omega, Int.tmod_lt_of_pos x (by decide)⟩
theorem mul_small {x y : Int} (h1 : -1048576 ≤ x) (h2 : x ≤ 1048576) (h3 : -524288 ≤ y) (h4 : y ≤ 524288) : -549755813888 ≤ x * y ∧ x * y ≤ 549755813888 := by
  have : (x * y).natAbs ≤ 1048576 * 524288 := by rw [Int.natAbs_mul]; exact Nat.mul_le_mul (by omega) (by omega)
  omega
set_option maxHeartbeats 16000000 in
set_option maxRecDepth 100000 in
theorem walk (a b c : Int) (w : World) (ha : Nu.fits a = true) (hb : Nu.fits b = true) (hc : Nu.fits c = true) : Calls Try.prog 10 #[.int .i64 a, .int .i64 b, .int .i64 c] w fun e w' => e = .returned (.bool true) ∧ Below w.heap.size w w' := by
  have ha1 := (Nu.fits_iff a).1 ha
  have hb1 := (Nu.fits_iff b).1 hb
  have hc1 := (Nu.fits_iff c).1 hc
  obtain ⟨A, hA⟩ : ∃ A, A = a.tmod 524288 := ⟨_, rfl⟩
  have la : -524288 < A ∧ A < 524288 := by rw [hA]; exact tmod_small a
  have qa : a.tmod 524288 = A := hA.symm
  obtain ⟨B, hB⟩ : ∃ B, B = b.tmod 524288 := ⟨_, rfl⟩
  have lb : -524288 < B ∧ B < 524288 := by rw [hB]; exact tmod_small b
  have qb : b.tmod 524288 = B := hB.symm
  obtain ⟨C, hC⟩ : ∃ C, C = c.tmod 524288 := ⟨_, rfl⟩
  have lc : -524288 < C ∧ C < 524288 := by rw [hC]; exact tmod_small c
  have qc : c.tmod 524288 = C := hC.symm
  clear hA hB hC ha hb hc
  have m1 := mul_small (x := A + B) (y := C) (by omega) (by omega) (by omega) (by omega)
  have m2 := mul_small (x := A) (y := C) (by omega) (by omega) (by omega) (by omega)
  have m3 := mul_small (x := B) (y := C) (by omega) (by omega) (by omega) (by omega)
  obtain ⟨P, hP⟩ : ∃ P, P = (A + B) * C := ⟨_, rfl⟩
  obtain ⟨X, hX⟩ : ∃ X, X = A * C := ⟨_, rfl⟩
  obtain ⟨Y, hY⟩ : ∃ Y, Y = B * C := ⟨_, rfl⟩
  rw [← hP] at m1
  rw [← hX] at m2
  rw [← hY] at m3
  have hd : P = X + Y := by rw [hP, hX, hY, Int.add_mul]
  have h1 : Hid (Nu.doN (⟨#[43]⟩ : ByteArray).data.toList A B = (A + B, [])) := (show _ = _ from by exact Nu.fit_fits (fitsLit (by omega) (by omega)))
  have h2 : Hid (Nu.doN (⟨#[42]⟩ : ByteArray).data.toList (A + B) C = (P, [])) := (show _ = _ from by show Nu.fit ((A + B) * C) = _; rw [← hP]; exact Nu.fit_fits (fitsLit (by omega) (by omega)))
  have h3 : Hid (Nu.doN (⟨#[42]⟩ : ByteArray).data.toList A C = (X, [])) := (show _ = _ from by show Nu.fit (A * C) = _; rw [← hX]; exact Nu.fit_fits (fitsLit (by omega) (by omega)))
  have h4 : Hid (Nu.doN (⟨#[42]⟩ : ByteArray).data.toList B C = (Y, [])) := (show _ = _ from by show Nu.fit (B * C) = _; rw [← hY]; exact Nu.fit_fits (fitsLit (by omega) (by omega)))
  have h5 : Hid (Nu.doN (⟨#[43]⟩ : ByteArray).data.toList X Y = (P, [])) := (show _ = _ from by show Nu.fit (X + Y) = _; rw [← hd]; exact Nu.fit_fits (fitsLit (by omega) (by omega)))
  have h6 : Hid (Nu.doN (⟨#[43]⟩ : ByteArray).data.toList (A + B) C = (A + B + C, [])) := (show _ = _ from by exact Nu.fit_fits (fitsLit (by omega) (by omega)))
  have h7 : Hid (Nu.doN (⟨#[43]⟩ : ByteArray).data.toList B C = (B + C, [])) := (show _ = _ from by exact Nu.fit_fits (fitsLit (by omega) (by omega)))
  have h8 : Hid (Nu.doN (⟨#[43]⟩ : ByteArray).data.toList A (B + C) = (A + B + C, [])) := (show _ = _ from by show Nu.fit (A + (B + C)) = _; rw [← Int.add_assoc]; exact Nu.fit_fits (fitsLit (by omega) (by omega)))
  clear hP hX hY hd
  go_enter Try.func10, Try.ntmps10
  go_wp2_with (first
    | (go_at_call 15; with_reducible (show Calls _ _ #[Value.string { data := #[43] }, Value.int _ A, Value.int _ (B + C)] _ _); refine (nDo_is h8 _ (fitsLit (by omega) (by omega)) (fitsLit (by omega) (by omega))).mono ?_; rintro e w8 ⟨rfl, b8⟩)
    | (go_at_call 15; with_reducible (show Calls _ _ #[Value.string { data := #[43] }, Value.int _ B, Value.int _ C] _ _); refine (nDo_is h7 _ (fitsLit (by omega) (by omega)) (fitsLit (by omega) (by omega))).mono ?_; rintro e w7 ⟨rfl, b7⟩)
    | (go_at_call 15; with_reducible (show Calls _ _ #[Value.string { data := #[43] }, Value.int _ (A + B), Value.int _ C] _ _); refine (nDo_is h6 _ (fitsLit (by omega) (by omega)) (fitsLit (by omega) (by omega))).mono ?_; rintro e w6 ⟨rfl, b6⟩)
    | (go_at_call 15; with_reducible (show Calls _ _ #[Value.string { data := #[43] }, Value.int _ X, Value.int _ Y] _ _); refine (nDo_is h5 _ (fitsLit (by omega) (by omega)) (fitsLit (by omega) (by omega))).mono ?_; rintro e w5 ⟨rfl, b5⟩)
    | (go_at_call 15; with_reducible (show Calls _ _ #[Value.string { data := #[42] }, Value.int _ B, Value.int _ C] _ _); refine (nDo_is h4 _ (fitsLit (by omega) (by omega)) (fitsLit (by omega) (by omega))).mono ?_; rintro e w4 ⟨rfl, b4⟩)
    | (go_at_call 15; with_reducible (show Calls _ _ #[Value.string { data := #[42] }, Value.int _ A, Value.int _ C] _ _); refine (nDo_is h3 _ (fitsLit (by omega) (by omega)) (fitsLit (by omega) (by omega))).mono ?_; rintro e w3 ⟨rfl, b3⟩)
    | (go_at_call 15; with_reducible (show Calls _ _ #[Value.string { data := #[42] }, Value.int _ (A + B), Value.int _ C] _ _); refine (nDo_is h2 _ (fitsLit (by omega) (by omega)) (fitsLit (by omega) (by omega))).mono ?_; rintro e w2 ⟨rfl, b2⟩)
    | (go_at_call 15; with_reducible (show Calls _ _ #[Value.string { data := #[43] }, Value.int _ A, Value.int _ B] _ _); refine (nDo_is h1 _ (fitsLit (by omega) (by omega)) (fitsLit (by omega) (by omega))).mono ?_; rintro e w1 ⟨rfl, b1⟩)
    | (go_at_call 14; refine (shown8 _).mono ?_; rintro e w0 ⟨rfl, b0⟩))
  go_ret
  refine ⟨ret_bool (by first | rfl | (simp; done) | (simp [Nu.nOver, Nu.nZero, Nu.nVal, Nu.nType]; done) | (simp; omega) | (simp [Nu.nOver, Nu.nZero, Nu.nVal, Nu.nType]; omega)), (bseq (bseq (bseq (bseq (bseq (bseq (bseq (bseq b0 b1) b2) b3) b4) b5) b6) b7) b8)⟩
end lawNumberRings
end Go.Proofs.Ytaekjkihdecmcaa
