/-
  TextLists of layer 9: the walk, at this program (made by wip/tools/genLaw9.py).
-/
import Derived.Test.YtcpjogjkjbillaaTxV
set_option linter.unusedVariables false
set_option linter.unusedSimpArgs false
namespace Go.Proofs.Ytcpjogjkjbillaa
namespace lawTextLists
open Go.RowKit

set_option maxHeartbeats 16000000 in
set_option maxRecDepth 100000 in
theorem walk (x : ByteArray) (l : List Tx.Bs) (v : Value) (w : World) (hx : x.size ≤ 1048576) (hls : ∀ y ∈ l, y.length ≤ 1048576) (hv : SRow v l w) : Calls Try.prog 5 #[.string x, v] w fun e w' => e = .returned (.bool true) ∧ Below w.heap.size w w' := by
  obtain ⟨⟨c, d⟩, hc⟩ : ∃ p, Tx.join x.data.toList l = p := ⟨_, rfl⟩
  have HC := Lib.hid hc
  clear hc
  have HV0 := Lib.hid hv
  obtain ⟨pa, cap, rfl⟩ := hv.form
  obtain ⟨n, hn⟩ : ∃ n, n = l.length := ⟨_, rfl⟩
  rw [← hn] at HV0 ⊢
  have HNL := Lib.hid hn
  clear hn hv
  have HLS := Lib.hid hls
  clear hls
  by_cases hbig : 6000 < n
  · have g0 : (6000 : Int) < (n : Int) := by omega
    go_enter Try.func5, Try.ntmps5
    go_wp2_with fail
    go_ret
    exact ⟨rfl, Below.refl _ _⟩
  · have g0 : ¬ (6000 : Int) < (n : Int) := by omega
    have hl : l.length ≤ 1000000 := by have := HNL.out; omega
    go_enter Try.func5, Try.ntmps5
    go_wp2_with (first
      | (go_at_call 25; refine (rJoin_is HC hx hl HLS.out _ (HV0.out.below b1)).mono ?_; rintro e w2 ⟨rfl, b2⟩)
      | (go_at_call 24; refine (tJoin_is HC hx hl HLS.out _ HV0).mono ?_; rintro e w1 ⟨rfl, b1⟩)
      | (go_at_call 17; refine (said9 _).mono ?_; rintro e w0 ⟨rfl, b0⟩))
    go_ret
    exact ⟨ret_bool (by first | rfl | (simp; done)), bseq (bseq b1 b2) b0⟩
end lawTextLists
end Go.Proofs.Ytcpjogjkjbillaa
