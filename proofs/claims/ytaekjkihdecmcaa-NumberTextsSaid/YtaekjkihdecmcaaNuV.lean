/-
  What the statements of layer 8 hold at their head, at this program.
-/
import Derived.Test.YtaekjkihdecmcaaNuRh
set_option linter.unusedVariables false
set_option linter.unusedSimpArgs false
namespace Go.Proofs.Ytaekjkihdecmcaa
open Go.RowKit

theorem bseq {a w w' : World} (h : Below a.heap.size a w) (k : Below w.heap.size w w') : Below a.heap.size a w' := h.trans (k.mono h.size)
theorem fitsLit {z : Int} (h1 : -9223372036854775808 ≤ z) (h2 : z ≤ 9223372036854775807) : Nu.fits z = true := (Nu.fits_iff z).2 ⟨h1, h2⟩
set_option maxHeartbeats 8000000 in
theorem shown8 (w : World) : Calls Try.prog 14 #[] w fun e w' => e = .returned (.bool true) ∧ Below w.heap.size w w' := by
  have h1 : Hid (Nu.doN (⟨#[47, 47]⟩ : ByteArray).data.toList (-7) 2 = (-4, [])) := (show _ = _ by decide +kernel)
  have h2 : Hid (Nu.doN (⟨#[37]⟩ : ByteArray).data.toList 7 (-2) = (-1, [])) := (show _ = _ by decide +kernel)
  have h3 : Hid (Nu.doN (⟨#[42, 42]⟩ : ByteArray).data.toList 2 (-1) = (0, Nu.nVal)) := (show _ = _ by decide +kernel)
  have h4 : Hid (Nu.doN (⟨#[43]⟩ : ByteArray).data.toList 9223372036854775807 1 = (0, Nu.nOver)) := (show _ = _ by decide +kernel)
  have h5 : Hid (toldP (Nu.parse (⟨#[45, 48, 48, 55]⟩ : ByteArray).data.toList) = .tuple #[.int .i64 (-7), .bool true]) := (show _ = _ by rfl)
  have h6 : Hid (Nu.text (-10) = [45, 49, 48]) := (show _ = _ by
    have e : Nu.dec 10 = [49, 48] := by rw [Nu.dec_big (by decide), Nu.dec_small (by decide)]; rfl
    show (if (-10 : Int) < 0 then _ else _) = _
    rw [if_pos (by decide)]
    show 45 :: Nu.dec 10 = _
    rw [e])
  go_enter Try.func14, Try.ntmps14
  go_wp2_with (first
    | (go_at_call 21; refine (nText_is h6 _ (fitsLit (by decide) (by decide))).mono ?_; rintro e w6 ⟨rfl, b6⟩)
    | (go_at_call 23; refine (nParse_is h5 (by decide) _).mono ?_; rintro e w5 ⟨rfl, b5⟩)
    | (go_at_call 15; with_reducible (show Calls _ _ #[Value.string { data := #[43] }, _, _] _ _); refine (nDo_is h4 _ (fitsLit (by decide) (by decide)) (fitsLit (by decide) (by decide))).mono ?_; rintro e w4 ⟨rfl, b4⟩)
    | (go_at_call 15; with_reducible (show Calls _ _ #[Value.string { data := #[42, 42] }, _, _] _ _); refine (nDo_is h3 _ (fitsLit (by decide) (by decide)) (fitsLit (by decide) (by decide))).mono ?_; rintro e w3 ⟨rfl, b3⟩)
    | (go_at_call 15; with_reducible (show Calls _ _ #[Value.string { data := #[37] }, _, _] _ _); refine (nDo_is h2 _ (fitsLit (by decide) (by decide)) (fitsLit (by decide) (by decide))).mono ?_; rintro e w2 ⟨rfl, b2⟩)
    | (go_at_call 15; with_reducible (show Calls _ _ #[Value.string { data := #[47, 47] }, _, _] _ _); refine (nDo_is h1 _ (fitsLit (by decide) (by decide)) (fitsLit (by decide) (by decide))).mono ?_; rintro e w1 ⟨rfl, b1⟩))
  go_ret
  exact ⟨rfl, bseq (bseq (bseq (bseq (bseq b1 b2) b3) b4) b5) b6⟩
end Go.Proofs.Ytaekjkihdecmcaa
