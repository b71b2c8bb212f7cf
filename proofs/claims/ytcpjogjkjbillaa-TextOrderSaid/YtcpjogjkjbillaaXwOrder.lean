/-
  TextOrder of layer 9: the walk, at this program (made by wip/tools/genLaw9.py).
-/
import Derived.Test.YtcpjogjkjbillaaTxV
set_option linter.unusedVariables false
set_option linter.unusedSimpArgs false
namespace Go.Proofs.Ytcpjogjkjbillaa
namespace lawTextOrder
open Go.RowKit

set_option maxHeartbeats 16000000 in
set_option maxRecDepth 100000 in
theorem walk (x : ByteArray) (y : ByteArray) (z : ByteArray)  (w : World) (hx : x.size ≤ 140737488351232) (hy : y.size ≤ 140737488351232) (hz : z.size ≤ 140737488351232)  : Calls Try.prog 7 #[.string x, .string y, .string z] w fun e w' => e = .returned (.bool true) ∧ Below w.heap.size w w' := by
  obtain ⟨X, hX⟩ : ∃ p, Tx.cmp x.data.toList y.data.toList = p := ⟨_, rfl⟩
  obtain ⟨Y, hY⟩ : ∃ p, Tx.cmp y.data.toList x.data.toList = p := ⟨_, rfl⟩
  obtain ⟨P, hP⟩ : ∃ p, Tx.cmp y.data.toList z.data.toList = p := ⟨_, rfl⟩
  obtain ⟨Q, hQ⟩ : ∃ p, Tx.cmp x.data.toList z.data.toList = p := ⟨_, rfl⟩
  have HS : Hid (Tx.cmp x.data.toList x.data.toList = 0) := (show _ = _ from Tx.cmp_self _)
  have h1 := Tx.cmp_anti x.data.toList y.data.toList
  have h2 := Tx.cmp_zero x.data.toList y.data.toList
  have h3 := Tx.cmp_range x.data.toList y.data.toList
  have h4 := Tx.cmp_trans x.data.toList y.data.toList z.data.toList
  have h5 := Tx.cmp_range y.data.toList z.data.toList
  have h6 := Tx.cmp_range x.data.toList z.data.toList
  rw [hX, hY] at h1
  rw [hX] at h2 h3
  rw [hX, hP, hQ] at h4
  rw [hP] at h5
  rw [hQ] at h6
  have HX := Lib.hid hX
  have HY := Lib.hid hY
  have HP := Lib.hid hP
  have HQ := Lib.hid hQ
  clear hX hY hP hQ
  have heq : (x.toList == y.toList) = (X == 0) := by
    rw [ByteArray.toList_eq, ByteArray.toList_eq, Bool.eq_iff_iff, beq_iff_eq, beq_iff_eq]
    exact h2.symm
  clear h2
  have hcase : (X = 1 ∧ Y = -1) ∨ ((X = 0 ∧ Y = 0 ∨ X = -1 ∧ Y = 1) ∧ (P = 1 ∨ (P = 0 ∨ P = -1) ∧ (Q = 0 ∨ Q = -1))) := by
    rcases h3 with g | g | g <;> rcases h5 with k | k | k <;> rcases h6 with j | j | j <;> subst g k j <;> simp at h1 h4 ⊢ <;> omega
  clear h1 h3 h4 h5 h6
  rcases hcase with ⟨rfl, rfl⟩ | ⟨⟨rfl, rfl⟩ | ⟨rfl, rfl⟩, rfl | ⟨rfl | rfl, rfl | rfl⟩⟩
  all_goals
    go_enter Try.func7, Try.ntmps7
    go_wp2_with (first
      | (go_at_call 31; with_reducible (show Calls _ _ #[Value.string x, Value.string y] _ _); refine (tCompare_is HX hx hy _).mono ?_; rintro e w6 ⟨rfl, b6⟩)
      | (go_at_call 31; with_reducible (show Calls _ _ #[Value.string x, Value.string z] _ _); refine (tCompare_is HQ hx hz _).mono ?_; rintro e w5 ⟨rfl, b5⟩)
      | (go_at_call 31; with_reducible (show Calls _ _ #[Value.string y, Value.string z] _ _); refine (tCompare_is HP hy hz _).mono ?_; rintro e w4 ⟨rfl, b4⟩)
      | (go_at_call 31; with_reducible (show Calls _ _ #[Value.string y, Value.string x] _ _); refine (tCompare_is HY hy hx _).mono ?_; rintro e w3 ⟨rfl, b3⟩)
      | (go_at_call 31; with_reducible (show Calls _ _ #[Value.string x, Value.string x] _ _); refine (tCompare_is HS hx hx _).mono ?_; rintro e w2 ⟨rfl, b2⟩)
      | (go_at_call 32; refine (rCompare_is HX hx hy _).mono ?_; rintro e w1 ⟨rfl, b1⟩; have b1 := bseq b6 b1)
      | (go_at_call 17; refine (said9 _).mono ?_; rintro e w0 ⟨rfl, b0⟩))
    all_goals
      go_ret
      first
        | exact ⟨ret_bool (by first | rfl | (simp; done)), bseq (bseq (bseq (bseq (bseq (bseq b1 b2) b6) b3) b0) b4) b5⟩
        | exact ⟨ret_bool (by first | rfl | (simp; done)), bseq (bseq (bseq (bseq (bseq b1 b2) b6) b3) b0) b4⟩
        | exact ⟨ret_bool (by first | rfl | (simp; done)), bseq (bseq (bseq (bseq b1 b2) b6) b3) b0⟩
        | fail
end lawTextOrder
end Go.Proofs.Ytcpjogjkjbillaa
