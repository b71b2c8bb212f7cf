/-
  What the openers tell of an int, as layer 8's walks ask it.
-/
import Derived.Test.YtaekjkihdecmcaaOpP
import Derived.Test.YtaekjkihdecmcaaNuP
set_option linter.unusedVariables false
namespace Go.Proofs.Ytaekjkihdecmcaa
theorem nfits {x : Int} (h : (Lit.int .i64 x).wf = true) : Nu.fits x = true := by
  rw [Nu.fits_iff]
  exact wf_rng h
theorem nlong {s : ByteArray} (h : s.size ≤ maxLen) : s.size ≤ 9223372036854775807 := h
end Go.Proofs.Ytaekjkihdecmcaa
