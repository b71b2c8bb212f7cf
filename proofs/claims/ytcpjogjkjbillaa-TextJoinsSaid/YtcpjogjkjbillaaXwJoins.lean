/-
  TextJoins of layer 9: the walk, at this program (made by wip/tools/genLaw9.py).
-/
import Derived.Test.YtcpjogjkjbillaaTxV
set_option linter.unusedVariables false
set_option linter.unusedSimpArgs false
namespace Go.Proofs.Ytcpjogjkjbillaa
namespace lawTextJoins
open Go.RowKit

set_option maxHeartbeats 16000000 in
set_option maxRecDepth 100000 in
theorem walk (x : ByteArray) (y : ByteArray) (n : Int) (w : World) (hx : x.size ≤ 140737488351232) (hy : y.size ≤ 140737488351232) (hn : -9223372036854775808 ≤ n ∧ n ≤ 9223372036854775807) : Calls Try.prog 3 #[.string x, .string y, .int .i64 n] w fun e w' => e = .returned (.bool true) ∧ Below w.heap.size w w' := by
  obtain ⟨⟨c, d⟩, hc⟩ : ∃ p, Tx.cat x.data.toList y.data.toList = p := ⟨_, rfl⟩
  obtain ⟨⟨g, j⟩, hg⟩ : ∃ p, Tx.rep x.data.toList n = p := ⟨_, rfl⟩
  have HC := Lib.hid hc
  have HG := Lib.hid hg
  clear hc hg
  go_enter Try.func3, Try.ntmps3
  go_wp2_with (first
    | (go_at_call 16; refine (rRepeat_is HG hx hn _).mono ?_; rintro e w4 ⟨rfl, b4⟩)
    | (go_at_call 15; refine (tRepeat_is HG hx hn _).mono ?_; rintro e w3 ⟨rfl, b3⟩)
    | (go_at_call 14; refine (rConcat_is HC hx hy _).mono ?_; rintro e w2 ⟨rfl, b2⟩)
    | (go_at_call 13; refine (tConcat_is HC hx hy _).mono ?_; rintro e w1 ⟨rfl, b1⟩)
    | (go_at_call 17; refine (said9 _).mono ?_; rintro e w0 ⟨rfl, b0⟩))
  go_ret
  exact ⟨ret_bool (by first | rfl | (simp; done)), bseq (bseq (bseq (bseq b1 b2) b3) b4) b0⟩
end lawTextJoins
end Go.Proofs.Ytcpjogjkjbillaa
