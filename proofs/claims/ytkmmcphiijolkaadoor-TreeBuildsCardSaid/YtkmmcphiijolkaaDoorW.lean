/-
  What the small functions of the lexer do, at this program: digits, letters, words.
-/
import Derived.Test.YtkmmcphiijolkaaDoorB
set_option linter.unusedVariables false
namespace Go.Proofs.YtkmmcphiijolkaaDoor
open Go.RowKit Go.Shelf

def digI (r : Int) : Bool := decide (48 ≤ r ∧ r ≤ 57)
def wdI (r : Int) : Bool := decide ((97 ≤ r ∧ r ≤ 122) ∨ (65 ≤ r ∧ r ≤ 90) ∨ r = 95 ∨ (48 ≤ r ∧ r ≤ 57))

theorem ret_bool {a b : Bool} (h : a = b) : Ending.returned (.bool a) = .returned (.bool b) := by rw [h]
theorem ret_int {k : IntKind} {a b : Int} (h : a = b) : Ending.returned (.int k a) = .returned (.int k b) := by rw [h]

theorem isDigit_any (r : Int) (w : World) : Calls Tryd.prog 72 #[.int .i32 r] w fun e w' => e = .returned (.bool (digI r)) ∧ w = w' := by
  go_enter Tryd.func72, Tryd.ntmps72
  go_wp2
  all_goals
    go_ret
    refine ⟨ret_bool ?_, rfl⟩
    rw [Bool.eq_iff_iff]
    simp [digI] <;> omega
theorem isWord_any (r : Int) (w : World) : Calls Tryd.prog 81 #[.int .i32 r] w fun e w' => e = .returned (.bool (wdI r)) ∧ w = w' := by
  go_enter Tryd.func81, Tryd.ntmps81
  go_wp2_with (go_at_call 72; refine (isDigit_any _ _).mono ?_; rintro e w' ⟨rfl, rfl⟩)
  all_goals
    go_ret
    refine ⟨ret_bool ?_, rfl⟩
    rw [Bool.eq_iff_iff]
    simp [digI, wdI] <;> omega

theorem wdI_byte (c : UInt8) : wdI (c.toNat : Int) = Sp.isWd c := by
  rw [Bool.eq_iff_iff]
  simp [wdI, Sp.isWd, Sp.isLet, Sp.isDig]
  omega
theorem digI_byte (c : UInt8) : digI (c.toNat : Int) = Sp.isDig c := by
  rw [Bool.eq_iff_iff]
  simp [digI, Sp.isDig]
  omega
theorem wdI_high (r : Nat) (h : 128 ≤ r) : wdI (r : Int) = false := by
  simp [wdI]
  omega
theorem isWd_high (c : UInt8) (h : 128 ≤ c.toNat) : Sp.isWd c = false := by
  rw [← wdI_byte, wdI_high _ h]

theorem get_drop (s : ByteArray) (k : Nat) (h : k < s.size) : s.data.toList.drop k = s[k] :: s.data.toList.drop (k + 1) := by
  rw [List.drop_eq_getElem_cons (by simpa using h)]
  rfl
theorem size_list (s : ByteArray) : s.data.toList.length = s.size := by simp

set_option maxHeartbeats 1000000 in
theorem wordSize_any (s : ByteArray) (w : World) (hs : s.size ≤ 1000000) :
    Calls Tryd.prog 73 #[.string s] w fun e w' => e = .returned (.int .i64 (Sp.wordLen s.data.toList)) ∧ Below w.heap.size w w' := by
  go_enter Tryd.func73, Tryd.ntmps73
  go_wp2
  go_loopw [] (fun wr => ∃ pos : Nat, pos ≤ s.size ∧ wr.heap[w.heap.size]? = some (.stringIter s pos) ∧ Below w.heap.size w wr ∧ Sp.wordLen s.data.toList = pos + Sp.wordLen (s.data.toList.drop pos)) (fun wr => s.size - wr.iterPos w.heap.size)
  case atStart =>
    refine ⟨0, Nat.zero_le _, World.iter_heap w s 0, (Below.refl _ w).alloc (Nat.le_refl _) _, by simp⟩
  case round =>
    obtain ⟨pos, hpos, hit, hbw, hwl⟩ := hrel
    by_cases hp : pos < s.size
    · have hnx : ∀ ty, (Instr.next (.pointer (some ⟨w.heap.size, 0, none⟩)) true ty).run Tryd.prog wr = _ := fun ty => Lib.run_next_any_at wr w.heap.size s pos ty hit hp
      have hd1 := decode_le s pos
      have hit2 := Lib.iterAt_heap wr w.heap.size s pos (pos + (Utf8.decode s pos).2) hit
      have hbw2 := Lib.below_iterAt hbw (k := w.heap.size) (by omega) s (pos + (Utf8.decode s pos).2)
      have hdr := get_drop s pos hp
      have HW : Hid (Sp.wordLen s.data.toList = pos + Sp.wordLen (s.data.toList.drop pos)) := hwl
      have HD : Hid (s.data.toList.drop pos = s[pos] :: s.data.toList.drop (pos + 1)) := hdr
      clear hwl hdr
      cases hwd : wdI ((Utf8.decode s pos).1 : Int) with
      | true =>
        have hlo : s[pos].toNat < 128 := by
          rcases Nat.lt_or_ge s[pos].toNat 128 with h | h
          · exact h
          · have := (decode_high s pos hp h).1
            rw [wdI_high _ this] at hwd
            cases hwd
        have hde := decode_ascii s pos hp hlo
        have HE : Hid (Utf8.decode s pos = (s[pos].toNat, 1)) := hde
        clear hde
        go_wp2_with (go_at_call 81; refine (isWord_any _ _).mono ?_; rintro e w' ⟨rfl, rfl⟩)
        go_roundw
        case rel =>
          refine ⟨pos + (Utf8.decode s pos).2, ?_, hit2, hbw2, ?_⟩
          · rw [HE.out]; omega
          · rw [HW.out, HE.out, HD.out, Sp.wordLen]
            rw [HE.out, wdI_byte] at hwd
            rw [if_pos hwd]
            dsimp only
            omega
        case measure =>
          have e1 : wr.iterPos w.heap.size = pos := by simp [World.iterPos, hit]
          have e2 : (wr.iterAt w.heap.size s (pos + (Utf8.decode s pos).2)).iterPos w.heap.size = pos + (Utf8.decode s pos).2 := by simp [World.iterPos, hit2]
          have e3 : (Utf8.decode s pos).2 = 1 := by rw [HE.out]
          rw [e1, e2, e3]
          omega
      | false =>
        go_wp2_with (go_at_call 81; refine (isWord_any _ _).mono ?_; rintro e w' ⟨rfl, rfl⟩)
        go_ret
        refine ⟨ret_int ?_, hbw2⟩
        rw [HW.out, HD.out, Sp.wordLen]
        have : Sp.isWd s[pos] = false := by
          rcases Nat.lt_or_ge s[pos].toNat 128 with h | h
          · rw [decode_ascii s pos hp h, wdI_byte] at hwd
            exact hwd
          · exact isWd_high _ h
        rw [this]
        simp
    · have hnx : ∀ ty, (Instr.next (.pointer (some ⟨w.heap.size, 0, none⟩)) true ty).run Tryd.prog wr = _ := fun ty => Lib.run_next_end_at wr w.heap.size s pos ty hit hp
      have HW : Hid (Sp.wordLen s.data.toList = pos + Sp.wordLen (s.data.toList.drop pos)) := hwl
      clear hwl
      go_wp2
      go_ret
      refine ⟨ret_int ?_, hbw⟩
      rw [HW.out, List.drop_of_length_le (by rw [size_list]; omega)]
      simp [Sp.wordLen]
      omega
end Go.Proofs.YtkmmcphiijolkaaDoor
