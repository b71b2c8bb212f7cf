/-
  TextCuts of layer 9: the walk, at this program (made by wip/tools/genLaw9.py).
-/
import Derived.Test.YtcpjogjkjbillaaTxV
set_option linter.unusedVariables false
set_option linter.unusedSimpArgs false
namespace Go.Proofs.Ytcpjogjkjbillaa
namespace lawTextCuts
open Go.RowKit

set_option maxHeartbeats 16000000 in
set_option maxRecDepth 100000 in
theorem walk (x : ByteArray) (n : Int) (f : Int) (t : Int) (w : World) (hx : x.size ≤ 140737488351232) (hn : -9223372036854775808 ≤ n ∧ n ≤ 9223372036854775807) (hf : -9223372036854775808 ≤ f ∧ f ≤ 9223372036854775807) (ht : -9223372036854775808 ≤ t ∧ t ≤ 9223372036854775807) : Calls Try.prog 4 #[.string x, .int .i64 n, .int .i64 f, .int .i64 t] w fun e w' => e = .returned (.bool true) ∧ Below w.heap.size w w' := by
  obtain ⟨⟨c, d⟩, hc⟩ : ∃ p, Tx.atT x.data.toList f = p := ⟨_, rfl⟩
  obtain ⟨⟨p, q⟩, hg⟩ : ∃ p, Tx.bounds n f t = p := ⟨_, rfl⟩
  obtain ⟨z, hz⟩ : ∃ p, Tx.slice x.data.toList f t = p := ⟨_, rfl⟩
  have HC := Lib.hid hc
  have HG := Lib.hid hg
  have HZ := Lib.hid hz
  clear hc hg hz
  go_enter Try.func4, Try.ntmps4
  go_wp2_with (first
    | (go_at_call 23; refine (rSlice_is HZ hx hf ht _).mono ?_; rintro e w6 ⟨rfl, rfl⟩)
    | (go_at_call 22; refine (tSlice_is HZ hx hf ht _).mono ?_; rintro e w5 ⟨rfl, b5⟩)
    | (go_at_call 21; refine (rBounds_is HG hn hf ht _).mono ?_; rintro e w4 ⟨rfl, rfl⟩)
    | (go_at_call 20; refine (tBounds_is HG hn hf ht _).mono ?_; rintro e w3 ⟨rfl, b3⟩)
    | (go_at_call 19; refine (rAt_is HC hx hf _).mono ?_; rintro e w2 ⟨rfl, rfl⟩)
    | (go_at_call 18; refine (tAt_is HC hx hf _).mono ?_; rintro e w1 ⟨rfl, b1⟩)
    | (go_at_call 17; refine (said9 _).mono ?_; rintro e w0 ⟨rfl, b0⟩))
  go_ret
  exact ⟨ret_bool (by first | rfl | (simp; done)), bseq (bseq (bseq b1 b3) b0) b5⟩
end lawTextCuts
end Go.Proofs.Ytcpjogjkjbillaa
