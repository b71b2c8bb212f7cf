/-
  What the statements of layer 9 hold at their head, at this program (made by wip/tools/genTxV.py).
-/
import Derived.Test.YtcpjogjkjbillaaTxRg
set_option linter.unusedVariables false
set_option linter.unusedSimpArgs false
namespace Go.Proofs.Ytcpjogjkjbillaa
open Go.RowKit

theorem bseq {a w w' : World} (h : Below a.heap.size a w) (k : Below w.heap.size w w') : Below a.heap.size a w' := h.trans (k.mono h.size)
theorem b6l {w w' : World} {o : Obj} (k : Below (w.alloc o).heap.size (w.alloc o) w') : Below w.heap.size w w' := bseq ((Below.refl _ w).alloc (Nat.le_refl _) o) k
theorem rep_far : Tx.rep [97, 98] 40000 = ([], Tx.tMem) := by
  unfold Tx.rep
  rw [if_neg (by decide), if_pos (by decide)]
theorem SRow.lit (W : World) (l : List Tx.Bs) (n : Nat) (vs : Array Value) (hn : n = l.length) (h : vs = (scells l).toArray) : SRow (.slice (some ⟨W.heap.size, 0, none⟩) n n) l (W.alloc (.cells vs 9)) := by
  subst hn
  refine Or.inr ⟨W.heap.size, 0, _, rfl, Nat.le_refl _, by simp, fun k x hk => ?_⟩
  subst h
  have h1 := heap_alloc_new W (.cells (scells l).toArray 9)
  simp only [World.cell?, h1]
  simp [hk]
set_option maxHeartbeats 16000000 in
set_option maxRecDepth 100000 in
theorem said9 (w : World) : Calls Try.prog 17 #[] w fun e w' => e = .returned (.bool true) ∧ Below w.heap.size w w' := by
  have h1 : Hid (Tx.cat (⟨#[97, 98]⟩ : ByteArray).data.toList (⟨#[99]⟩ : ByteArray).data.toList = ([97, 98, 99], [])) := (show _ = _ from by decide +kernel)
  have h2 : Hid (Tx.rep (⟨#[97, 98]⟩ : ByteArray).data.toList 3 = ([97, 98, 97, 98, 97, 98], [])) := (show _ = _ from by decide +kernel)
  have h3 : Hid (Tx.rep (⟨#[97, 98]⟩ : ByteArray).data.toList 40000 = ([], [77, 101, 109, 111, 114, 121, 69, 114, 114, 111, 114])) := (show _ = _ from rep_far)
  have h4 : Hid (Tx.atT (⟨#[97, 98, 99]⟩ : ByteArray).data.toList (-1) = ([99], [])) := (show _ = _ from by decide +kernel)
  have h5 : Hid (Tx.atT (⟨#[97, 98, 99]⟩ : ByteArray).data.toList 3 = ([], [73, 110, 100, 101, 120, 69, 114, 114, 111, 114])) := (show _ = _ from by decide +kernel)
  have h6 : Hid (Tx.join (⟨#[44, 32]⟩ : ByteArray).data.toList [[97], [98]] = ([97, 44, 32, 98], [])) := (show _ = _ from by decide +kernel)
  have h7 : Hid (Tx.split (⟨#[97, 44, 44, 98]⟩ : ByteArray).data.toList (⟨#[44]⟩ : ByteArray).data.toList = ([[97], [], [98]], [])) := (show _ = _ from by decide +kernel)
  have h8 : Hid (Tx.split (⟨#[97]⟩ : ByteArray).data.toList [] = ([], [86, 97, 108, 117, 101, 69, 114, 114, 111, 114])) := (show _ = _ from by decide +kernel)
  have h9 : Hid ((([[97], [], [98]] : List Tx.Bs) == [[97], [], [98]]) = true) := (show _ = _ from by decide +kernel)
  have h10 : Hid (Tx.findI (⟨#[97, 98, 99, 98]⟩ : ByteArray).data.toList (⟨#[98]⟩ : ByteArray).data.toList = 1) := (show _ = _ from by decide +kernel)
  have h11 : Hid (Tx.findI (⟨#[97]⟩ : ByteArray).data.toList (⟨#[98]⟩ : ByteArray).data.toList = -1) := (show _ = _ from by decide +kernel)
  have h12 : Hid (Tx.cmp (⟨#[97]⟩ : ByteArray).data.toList (⟨#[97, 98]⟩ : ByteArray).data.toList = -1) := (show _ = _ from by decide +kernel)
  have h13 : Hid (Tx.slice (⟨#[97, 98, 99, 100, 101]⟩ : ByteArray).data.toList 1 (-1) = [98, 99, 100]) := (show _ = _ from by decide +kernel)
  go_enter Try.func17, Try.ntmps17
  go_wp2_with (first
    | (go_at_call 22; with_reducible (show Calls _ _ #[_, _, _] _ _); refine (tSlice_is h13 (by decide) ⟨by decide, by decide⟩ ⟨by decide, by decide⟩ _).mono ?_; rintro e w13 ⟨rfl, b13⟩)
    | (go_at_call 31; with_reducible (show Calls _ _ #[Value.string { data := #[97] }, _] _ _); refine (tCompare_is h12 (by decide) (by decide) _).mono ?_; rintro e w12 ⟨rfl, b12⟩)
    | (go_at_call 29; with_reducible (show Calls _ _ #[Value.string { data := #[97] }, _] _ _); refine (tFind_is h11 (by decide) (by decide) _).mono ?_; rintro e w11 ⟨rfl, b11⟩)
    | (go_at_call 29; with_reducible (show Calls _ _ #[Value.string { data := #[97, 98, 99, 98] }, _] _ _); refine (tFind_is h10 (by decide) (by decide) _).mono ?_; rintro e w10 ⟨rfl, b10⟩)
    | (go_at_call 28; with_reducible (show Calls _ _ #[_, _] _ _); refine (rSame_is h9 (by decide) (by decide) _ (Lib.hid (HS7.out.below (b8.alloc b8.size _))) (Lib.hid (SRow.lit w8 [[97], [], [98]] 3 #[Value.string { data := #[97] }, Value.string { data := #[] }, Value.string { data := #[98] }] rfl rfl))).mono ?_; rintro e w9 ⟨rfl, b9⟩)
    | (go_at_call 26; with_reducible (show Calls _ _ #[Value.string { data := #[97] }, _] _ _); refine (tSplit_is h8 (by decide) (by decide) _).mono ?_; rintro e w8 ⟨v8, rfl, HS8, b8⟩; have b8 := b8.out)
    | (go_at_call 26; with_reducible (show Calls _ _ #[Value.string { data := #[97, 44, 44, 98] }, _] _ _); refine (tSplit_is h7 (by decide) (by decide) _).mono ?_; rintro e w7 ⟨v7, rfl, HS7, b7⟩; have b7 := b7.out)
    | (go_at_call 24; with_reducible (show Calls _ _ #[Value.string { data := #[44, 32] }, _] _ _); refine (tJoin_is (sep := (⟨#[44, 32]⟩ : ByteArray)) (l := [[97], [98]]) h6 (by decide) (by decide) (by decide) _ (Lib.hid (SRow.lit w5 [[97], [98]] 2 #[Value.string { data := #[97] }, Value.string { data := #[98] }] rfl rfl))).mono ?_; rintro e w6 ⟨rfl, b6⟩)
    | (go_at_call 18; with_reducible (show Calls _ _ #[Value.string { data := #[97, 98, 99] }, Value.int _ 3] _ _); refine (tAt_is h5 (by decide) ⟨by decide, by decide⟩ _).mono ?_; rintro e w5 ⟨rfl, b5⟩)
    | (go_at_call 18; with_reducible (show Calls _ _ #[Value.string { data := #[97, 98, 99] }, Value.int _ (-1)] _ _); refine (tAt_is h4 (by decide) ⟨by decide, by decide⟩ _).mono ?_; rintro e w4 ⟨rfl, b4⟩)
    | (go_at_call 15; with_reducible (show Calls _ _ #[Value.string { data := #[97, 98] }, Value.int _ 40000] _ _); refine (tRepeat_is h3 (by decide) ⟨by decide, by decide⟩ _).mono ?_; rintro e w3 ⟨rfl, b3⟩)
    | (go_at_call 15; with_reducible (show Calls _ _ #[Value.string { data := #[97, 98] }, Value.int _ 3] _ _); refine (tRepeat_is h2 (by decide) ⟨by decide, by decide⟩ _).mono ?_; rintro e w2 ⟨rfl, b2⟩)
    | (go_at_call 13; with_reducible (show Calls _ _ #[Value.string { data := #[97, 98] }, _] _ _); refine (tConcat_is h1 (by decide) (by decide) _).mono ?_; rintro e w1 ⟨rfl, b1⟩))
  go_ret
  exact ⟨rfl, (bseq (bseq (bseq (bseq (bseq (bseq (bseq (bseq (bseq (bseq (bseq (bseq b1 b2) b3) b4) b5) (b6l b6)) b7) b8) (b6l b9)) b10) b11) b12) b13)⟩
end Go.Proofs.Ytcpjogjkjbillaa
