/-
  Whether a text is a name, at this program; how a byte and a text are quoted.
-/
import Derived.Test.YtbdjccmcdifjcaaGreatDoorK
import Derived.Lib.OthersKept
set_option linter.unusedVariables false
set_option linter.unusedSimpArgs false
namespace Go.Proofs.YtbdjccmcdifjcaaGreatDoor
open Go.RowKit Go.Shelf

theorem list_of_size0 (s : ByteArray) (h : s.size = 0) : s.data.toList = [] := by
  have : s.data.toList.length = 0 := by rw [size_list]; exact h
  exact List.length_eq_zero_iff.1 this

theorem hid_ex {α : Type} (a : α) : ∃ b, Hid (a = b) := ⟨a, show a = a from rfl⟩
theorem isDigit_is {r : Int} {b : Bool} (h : Hid (digI r = b)) (w : World) : Calls Tryz.prog 71 #[.int .i32 r] w fun e w' => e = .returned (.bool b) ∧ w = w' := by
  rw [← h.out]; exact isDigit_any r w
theorem isWord_is {r : Int} {b : Bool} (h : Hid (wdI r = b)) (w : World) : Calls Tryz.prog 74 #[.int .i32 r] w fun e w' => e = .returned (.bool b) ∧ w = w' := by
  rw [← h.out]; exact isWord_any r w
theorem wordSize_is {s : ByteArray} {n : Nat} (h : Hid (Sp.wordLen s.data.toList = n)) (w : World) (hs : s.size ≤ 1000000) : Calls Tryz.prog 73 #[.string s] w fun e w' => e = .returned (.int .i64 n) ∧ Below w.heap.size w w' := by
  rw [← h.out]; exact wordSize_any s w hs
theorem nm_cons (c : UInt8) (l r : Sp.Bs) (h : l = c :: r) : Sp.nm l = (!(Sp.isDig c) && decide (Sp.wordLen l = l.length) && !Sp.kw l) := by
  subst h
  show (Sp.isLet c && decide (Sp.wordLen (c :: r) = (c :: r).length) && !Sp.kw (c :: r)) = _
  by_cases hw : Sp.isWd c
  · have : Sp.isLet c = !Sp.isDig c := by
      rw [Bool.eq_iff_iff]
      simp [Sp.isWd, Sp.isLet, Sp.isDig] at hw ⊢
      omega
    rw [this]
  · have h1 : Sp.wordLen (c :: r) = 0 := by rw [Sp.wordLen, if_neg hw]
    rw [h1]
    simp

end Go.Proofs.YtbdjccmcdifjcaaGreatDoor
