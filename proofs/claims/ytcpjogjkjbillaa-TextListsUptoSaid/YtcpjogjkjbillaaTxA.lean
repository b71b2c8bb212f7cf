/-
  The reference's Concat, At, place, Bounds, Slice and at, at this program.
-/
import Derived.Test.YtcpjogjkjbillaaProg
import Derived.Test.YtcpjogjkjbillaaTxT
import Derived.WalkKit
import Derived.BigCall
import Derived.WalkSpells
import Derived.WalkLawsBesides
import Derived.Below
import Derived.Lib.Hide
import Derived.IntWalk
import Derived.OwnWalk
import Derived.Deep.OwnRows
set_option linter.unusedVariables false
set_option linter.unusedSimpArgs false
namespace Go.Proofs.Ytcpjogjkjbillaa
open Go.RowKit

theorem ret_bool {a b : Bool} (h : a = b) : Ending.returned (.bool a) = .returned (.bool b) := by rw [h]
theorem ret_str {a b : ByteArray} (h : a = b) : Ending.returned (.string a) = .returned (.string b) := by rw [h]
theorem ret_int {k : IntKind} {a b : Int} (h : a = b) : Ending.returned (.int k a) = .returned (.int k b) := by rw [h]
theorem ret_two {a b c d : Value} (h : a = c) (k : b = d) : Ending.returned (.tuple #[a, b]) = .returned (.tuple #[c, d]) := by rw [h, k]
theorem size_list (s : ByteArray) : s.data.toList.length = s.size := by simp
theorem str_of {s : ByteArray} {l : Tx.Bs} (h : s.data.toList = l) : Value.string s = .string ⟨l.toArray⟩ := by rw [← h]
set_option maxHeartbeats 8000000 in
theorem rConcat_is {x y : ByteArray} {r e : Tx.Bs} (h : Hid (Tx.cat x.data.toList y.data.toList = (r, e))) (hx : x.size ≤ 140737488351232) (hy : y.size ≤ 140737488351232) (w : World) :
    Calls Try.prog 14 #[.string x, .string y] w fun e' w' => e' = .returned (.tuple #[.string ⟨r.toArray⟩, .string ⟨e.toArray⟩]) ∧ Below w.heap.size w w' := by
  by_cases hb : 65536 < x.size + y.size
  · have hr : r = [] ∧ e = Tx.tMem := by
      have := h.out
      unfold Tx.cat at this
      rw [size_list, size_list, if_pos hb] at this
      injection this with h1 h2
      exact ⟨h1.symm, h2.symm⟩
    obtain ⟨rfl, rfl⟩ := hr
    clear h
    by_cases h1 : 65536 < x.size
    · go_enter Try.func14, Try.ntmps14
      go_wp2_with fail
      refine bodyPost_ret (results_tmp2 rfl _ _ _) rfl ?_
      exact ⟨rfl, Below.refl _ _⟩
    · go_enter Try.func14, Try.ntmps14
      go_wp2_with fail
      refine bodyPost_ret (results_tmp2 rfl _ _ _) rfl ?_
      exact ⟨rfl, Below.refl _ _⟩
  · have hr : r = x.data.toList ++ y.data.toList ∧ e = [] := by
      have := h.out
      unfold Tx.cat at this
      rw [size_list, size_list, if_neg hb] at this
      injection this with h1 h2
      exact ⟨h1.symm, h2.symm⟩
    obtain ⟨rfl, rfl⟩ := hr
    clear h
    have HS : Hid ((x ++ y).data.toList = x.data.toList ++ y.data.toList) := (show _ = _ by rw [ByteArray.data_append, Array.toList_append])
    have h1 : ¬ 65536 < x.size := by omega
    go_enter Try.func14, Try.ntmps14
    go_wp2_with fail
    refine bodyPost_ret (results_tmp2 rfl _ _ _) rfl ?_
    exact ⟨ret_two (str_of HS.out) rfl, Below.refl _ _⟩
set_option maxHeartbeats 8000000 in
theorem rplace_is {n i p : Int} (h : Hid (Tx.place n i = p)) (hn : 0 ≤ n) (hn2 : n ≤ 9223372036854775807) (hi : -9223372036854775808 ≤ i ∧ i ≤ 9223372036854775807) (w : World) :
    Calls Try.prog 36 #[.int .i64 n, .int .i64 i] w fun e' w' => e' = .returned (.int .i64 p) ∧ w' = w := by
  have hs : i < 0 → IntKind.i64.wrap (i + n) = i + n := fun g => IntWalk.i64_in _ (by omega)
  by_cases h0 : i < 0
  · have hw := hs h0
    by_cases h1 : i + n < 0
    · have HP : Hid (p = 0) := (show _ = _ by have := h.out; unfold Tx.place at this; simp only at this; rw [if_pos h0, if_pos h1] at this; exact this.symm)
      clear h hs hi
      go_enter Try.func36, Try.ntmps36
      go_wp2_with fail
      go_ret
      exact ⟨ret_int HP.out.symm, rfl⟩
    · have HP : Hid (p = i + n) := (show _ = _ by have := h.out; unfold Tx.place at this; simp only at this; rw [if_pos h0, if_neg h1, if_neg (by omega)] at this; exact this.symm)
      have h2 : ¬ n < i + n := by omega
      clear h hs hi
      go_enter Try.func36, Try.ntmps36
      go_wp2_with fail
      go_ret
      exact ⟨ret_int HP.out.symm, rfl⟩
  · by_cases h1 : n < i
    · have HP : Hid (p = n) := (show _ = _ by have := h.out; unfold Tx.place at this; simp only at this; rw [if_neg h0, if_neg h0, if_pos h1] at this; exact this.symm)
      clear h hs hi
      go_enter Try.func36, Try.ntmps36
      go_wp2_with fail
      go_ret
      exact ⟨ret_int HP.out.symm, rfl⟩
    · have HP : Hid (p = i) := (show _ = _ by have := h.out; unfold Tx.place at this; simp only at this; rw [if_neg h0, if_neg h0, if_neg h1] at this; exact this.symm)
      clear h hs hi
      go_enter Try.func36, Try.ntmps36
      go_wp2_with fail
      go_ret
      exact ⟨ret_int HP.out.symm, rfl⟩
end Go.Proofs.Ytcpjogjkjbillaa
