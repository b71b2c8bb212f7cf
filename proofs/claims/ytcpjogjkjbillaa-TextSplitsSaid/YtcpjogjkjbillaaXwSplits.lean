/-
  TextSplits of layer 9: the walk, at this program (made by wip/tools/genLaw9.py).
-/
import Derived.Test.YtcpjogjkjbillaaTxV
set_option linter.unusedVariables false
set_option linter.unusedSimpArgs false
namespace Go.Proofs.Ytcpjogjkjbillaa
namespace lawTextSplits
open Go.RowKit

theorem split_small {s t : Tx.Bs} {c : List Tx.Bs} {d : Tx.Bs} (h : Tx.split s t = (c, d)) : c.length ≤ 4096 := by
  unfold Tx.split at h
  split at h
  · injection h with h1 h2; rw [← h1]; simp
  · split at h
    · injection h with h1 h2; rw [← h1]; simp
    · injection h with h1 h2; rw [← h1]; omega
set_option maxHeartbeats 16000000 in
set_option maxRecDepth 100000 in
theorem walk (x : ByteArray) (y : ByteArray)  (w : World) (hx : x.size ≤ 140737488351232) (hy : y.size ≤ 140737488351232)  : Calls Try.prog 6 #[.string x, .string y] w fun e w' => e = .returned (.bool true) ∧ Below w.heap.size w w' := by
  obtain ⟨⟨c, d⟩, hc⟩ : ∃ p, Tx.split x.data.toList y.data.toList = p := ⟨_, rfl⟩
  obtain ⟨k, hk⟩ : ∃ p, Tx.findI x.data.toList y.data.toList = p := ⟨_, rfl⟩
  have HC := Lib.hid hc
  have HK := Lib.hid hk
  have hcl : c.length ≤ 1000000 := by
    have := split_small hc
    omega
  have HE : Hid ((c == c) = true) := (show _ = _ by simp)
  clear hc hk
  by_cases h1 : 20000 < x.size
  · have g0 : (20000 : Int) < (x.size : Int) := by omega
    go_enter Try.func6, Try.ntmps6
    go_wp2_with fail
    go_ret
    exact ⟨rfl, Below.refl _ _⟩
  · have g0 : ¬ (20000 : Int) < (x.size : Int) := by omega
    by_cases h2 : 200 < y.size
    · have g1 : (200 : Int) < (y.size : Int) := by omega
      go_enter Try.func6, Try.ntmps6
      go_wp2_with fail
      go_ret
      exact ⟨rfl, Below.refl _ _⟩
    · have g1 : ¬ (200 : Int) < (y.size : Int) := by omega
      have hx0 : x.size ≤ 1000000 := by omega
      have hy0 : y.size ≤ 1000000 := by omega
      go_enter Try.func6, Try.ntmps6
      go_wp2_with (first
        | (go_at_call 30; refine (rFind_is HK hx hy _).mono ?_; rintro e w5 ⟨rfl, b5⟩)
        | (go_at_call 29; refine (tFind_is HK (up9j hx0) (up9j hy0) _).mono ?_; rintro e w4 ⟨rfl, b4⟩)
        | (go_at_call 28; refine (rSame_is HE hcl hcl _ (Lib.hid (HS1.out.below (bseq b2 b0))) (Lib.hid (HS2.out.below b0))).mono ?_; rintro e w3 ⟨rfl, b3⟩)
        | (go_at_call 27; refine (rSplit_is HC hx0 hy0 _).mono ?_; rintro e w2 ⟨v2, rfl, HS2, b2⟩; have b2 := b2.out)
        | (go_at_call 26; refine (tSplit_is HC hx0 hy0 _).mono ?_; rintro e w1 ⟨v1, rfl, HS1, b1⟩; have b1 := b1.out)
        | (go_at_call 17; refine (said9 _).mono ?_; rintro e w0 ⟨rfl, b0⟩))
      go_ret
      exact ⟨ret_bool (by first | rfl | (simp; done)), bseq (bseq (bseq (bseq (bseq b1 b2) b0) b3) b4) b5⟩
end lawTextSplits
end Go.Proofs.Ytcpjogjkjbillaa
