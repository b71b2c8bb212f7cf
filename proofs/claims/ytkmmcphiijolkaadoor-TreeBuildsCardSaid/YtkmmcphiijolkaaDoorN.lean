/-
  Whether a text is a name, at this program; how a byte and a text are quoted.
-/
import Derived.Test.YtkmmcphiijolkaaDoorK
import Derived.Lib.OthersKept
set_option linter.unusedVariables false
set_option linter.unusedSimpArgs false
namespace Go.Proofs.YtkmmcphiijolkaaDoor
open Go.RowKit Go.Shelf

theorem list_of_size0 (s : ByteArray) (h : s.size = 0) : s.data.toList = [] := by
  have : s.data.toList.length = 0 := by rw [size_list]; exact h
  exact List.length_eq_zero_iff.1 this

theorem hid_ex {α : Type} (a : α) : ∃ b, Hid (a = b) := ⟨a, show a = a from rfl⟩
theorem isDigit_is {r : Int} {b : Bool} (h : Hid (digI r = b)) (w : World) : Calls Tryd.prog 72 #[.int .i32 r] w fun e w' => e = .returned (.bool b) ∧ w = w' := by
  rw [← h.out]; exact isDigit_any r w
theorem isWord_is {r : Int} {b : Bool} (h : Hid (wdI r = b)) (w : World) : Calls Tryd.prog 81 #[.int .i32 r] w fun e w' => e = .returned (.bool b) ∧ w = w' := by
  rw [← h.out]; exact isWord_any r w
theorem wordSize_is {s : ByteArray} {n : Nat} (h : Hid (Sp.wordLen s.data.toList = n)) (w : World) (hs : s.size ≤ 1000000) : Calls Tryd.prog 73 #[.string s] w fun e w' => e = .returned (.int .i64 n) ∧ Below w.heap.size w w' := by
  rw [← h.out]; exact wordSize_any s w hs
theorem keyword_is {s : ByteArray} {b : Bool} (h : Hid (Sp.kw s.data.toList = b)) (w : World) : Calls Tryd.prog 74 #[.string s] w fun e w' => e = .returned (.bool b) ∧ w = w' := by
  rw [← h.out]; exact keyword_any s w

theorem nm_cons (c : UInt8) (l r : Sp.Bs) (h : l = c :: r) : Sp.nm l = (!(Sp.isDig c) && decide (Sp.wordLen l = l.length) && !Sp.kw l) := by
  subst h
  show (Sp.isLet c && decide (Sp.wordLen (c :: r) = (c :: r).length) && !Sp.kw (c :: r)) = _
  by_cases hw : Sp.isWd c
  · have : Sp.isLet c = !Sp.isDig c := by
      rw [Bool.eq_iff_iff]
      simp [Sp.isWd, Sp.isLet, Sp.isDig] at hw ⊢
      omega
    rw [this]
  · have h1 : Sp.wordLen (c :: r) = 0 := by rw [Sp.wordLen, if_neg hw]
    rw [h1]
    simp

set_option maxHeartbeats 2000000 in
theorem name_any (s : ByteArray) (w : World) (hs : s.size ≤ 1000000) : Calls Tryd.prog 49 #[.string s] w fun e w' => e = .returned (.bool (Sp.nm s.data.toList)) ∧ Below w.heap.size w w' := by
  by_cases h0 : s.size = 0
  · have hl := list_of_size0 s h0
    have h1 : s.toList.isEmpty = true := by rw [Sp.toList_data, hl]; rfl
    have HL : Hid (Sp.nm s.data.toList = false) := by rw [hl]; rfl
    rw [HL.out]
    clear hl h0
    go_enter Tryd.func49, Tryd.ntmps49
    go_wp2
    go_ret
    exact ⟨rfl, Below.refl _ _⟩
  · have h0' : 0 < s.size := by omega
    have hd := get_drop s 0 h0'
    simp only [List.drop_zero] at hd
    have h1 : s.toList.isEmpty = false := by rw [Sp.toList_data, hd]; rfl
    have hb0 := s[0].toNat_lt
    obtain ⟨bd, HB⟩ := hid_ex (digI (s[0].toNat : Int))
    obtain ⟨n, HN⟩ := hid_ex (Sp.wordLen s.data.toList)
    obtain ⟨bk, HK⟩ := hid_ex (Sp.kw s.data.toList)
    have HE : Hid (Sp.nm s.data.toList = (!bd && decide (n = s.size) && !bk)) := by
      show _ = _
      rw [nm_cons s[0] _ _ hd, ← digI_byte, HB.out, HN.out, HK.out, size_list]
    clear hd h0
    rw [HE.out]
    cases bd
    all_goals
      go_enter Tryd.func49, Tryd.ntmps49
      go_wp2_with (first | (go_at_call 72; refine (isDigit_is HB _).mono ?_; rintro e w' ⟨rfl, rfl⟩) | (go_at_call 73; refine (wordSize_is HN _ hs).mono ?_; rintro e w' ⟨rfl, hb⟩) | (go_at_call 74; refine (keyword_is HK _).mono ?_; rintro e w' ⟨rfl, rfl⟩))
      all_goals
        go_ret
        refine ⟨ret_bool ?_, by first | exact Below.refl _ _ | assumption⟩
        simp_all <;> omega
end Go.Proofs.YtkmmcphiijolkaaDoor
