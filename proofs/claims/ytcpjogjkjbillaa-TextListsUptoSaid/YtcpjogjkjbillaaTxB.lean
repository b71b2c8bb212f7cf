/-
  The reference's Bounds, Slice, At and at, at this program.
-/
import Derived.Test.YtcpjogjkjbillaaTxA
set_option linter.unusedVariables false
set_option linter.unusedSimpArgs false
namespace Go.Proofs.Ytcpjogjkjbillaa
open Go.RowKit

theorem up9 {n : Nat} (h : n ≤ 1000000) : n ≤ 140737488351232 := Nat.le_trans h (by decide)
theorem up9j {n : Nat} (h : n ≤ 1000000) : n ≤ 1048576 := Nat.le_trans h (by decide)

theorem data_extract (s : ByteArray) (i j : Nat) : (s.extract i j).data.toList = (s.data.toList.drop i).take (j - i) := by
  rw [ByteArray.data_extract, Array.toList_extract, List.extract_eq_take_drop]
set_option maxHeartbeats 8000000 in
set_option maxRecDepth 20000 in
theorem rBounds_is {n a b p q : Int} (h : Hid (Tx.bounds n a b = (p, q))) (hn : -9223372036854775808 ≤ n ∧ n ≤ 9223372036854775807) (ha : -9223372036854775808 ≤ a ∧ a ≤ 9223372036854775807) (hb : -9223372036854775808 ≤ b ∧ b ≤ 9223372036854775807) (w : World) :
    Calls Try.prog 21 #[.int .i64 n, .int .i64 a, .int .i64 b] w fun e' w' => e' = .returned (.tuple #[.int .i64 p, .int .i64 q]) ∧ w' = w := by
  obtain ⟨m, hm⟩ : ∃ m, m = if n < 0 then 0 else n := ⟨_, rfl⟩
  obtain ⟨low, hl⟩ : ∃ low, Tx.place m a = low := ⟨_, rfl⟩
  obtain ⟨high, hh⟩ : ∃ high, Tx.place m b = high := ⟨_, rfl⟩
  have hm0 : 0 ≤ m ∧ m ≤ 9223372036854775807 := by rw [hm]; split <;> omega
  have HL := Lib.hid hl
  have HH := Lib.hid hh
  have hr : p = low ∧ q = if high < low then low else high := by
    have := h.out
    unfold Tx.bounds at this
    simp only [← hm, hl, hh] at this
    injection this with h1 h2
    exact ⟨h1.symm, h2.symm⟩
  obtain ⟨rfl, hq0⟩ := hr
  have HQ := Lib.hid hq0
  clear h hl hh hq0
  have hpa := Lib.hid (rplace_is HL hm0.1 hm0.2 ha)
  have hpb := Lib.hid (rplace_is HH hm0.1 hm0.2 hb)
  by_cases h0 : n < 0
  · rw [if_pos h0] at hm
    subst hm
    by_cases h1 : high < p
    · rw [if_pos h1] at HQ
      obtain rfl := HQ.out
      clear HQ HL HH hm0 ha hb hn
      have h0 := h0
      go_enter Try.func21, Try.ntmps21
      go_wp2_with (first
        | (go_at_call 36; with_reducible (show Calls _ _ #[_, Value.int _ b] _ _); refine (hpb.out _).mono ?_; rintro e w' ⟨rfl, rfl⟩)
        | (go_at_call 36; with_reducible (show Calls _ _ #[_, Value.int _ a] _ _); refine (hpa.out _).mono ?_; rintro e w' ⟨rfl, rfl⟩))
      refine bodyPost_ret (results_tmp2 rfl _ _ _) rfl ?_
      exact ⟨rfl, rfl⟩
    · rw [if_neg h1] at HQ
      obtain rfl := HQ.out
      clear HQ HL HH hm0 ha hb hn
      have h0 := h0
      go_enter Try.func21, Try.ntmps21
      go_wp2_with (first
        | (go_at_call 36; with_reducible (show Calls _ _ #[_, Value.int _ b] _ _); refine (hpb.out _).mono ?_; rintro e w' ⟨rfl, rfl⟩)
        | (go_at_call 36; with_reducible (show Calls _ _ #[_, Value.int _ a] _ _); refine (hpa.out _).mono ?_; rintro e w' ⟨rfl, rfl⟩))
      refine bodyPost_ret (results_tmp2 rfl _ _ _) rfl ?_
      exact ⟨rfl, rfl⟩
  · rw [if_neg h0] at hm
    subst hm
    by_cases h1 : high < p
    · rw [if_pos h1] at HQ
      obtain rfl := HQ.out
      clear HQ HL HH hm0 ha hb hn
      have h0 := h0
      go_enter Try.func21, Try.ntmps21
      go_wp2_with (first
        | (go_at_call 36; with_reducible (show Calls _ _ #[_, Value.int _ b] _ _); refine (hpb.out _).mono ?_; rintro e w' ⟨rfl, rfl⟩)
        | (go_at_call 36; with_reducible (show Calls _ _ #[_, Value.int _ a] _ _); refine (hpa.out _).mono ?_; rintro e w' ⟨rfl, rfl⟩))
      refine bodyPost_ret (results_tmp2 rfl _ _ _) rfl ?_
      exact ⟨rfl, rfl⟩
    · rw [if_neg h1] at HQ
      obtain rfl := HQ.out
      clear HQ HL HH hm0 ha hb hn
      have h0 := h0
      go_enter Try.func21, Try.ntmps21
      go_wp2_with (first
        | (go_at_call 36; with_reducible (show Calls _ _ #[_, Value.int _ b] _ _); refine (hpb.out _).mono ?_; rintro e w' ⟨rfl, rfl⟩)
        | (go_at_call 36; with_reducible (show Calls _ _ #[_, Value.int _ a] _ _); refine (hpa.out _).mono ?_; rintro e w' ⟨rfl, rfl⟩))
      refine bodyPost_ret (results_tmp2 rfl _ _ _) rfl ?_
      exact ⟨rfl, rfl⟩
set_option maxHeartbeats 8000000 in
set_option maxRecDepth 20000 in
theorem rSlice_is {s : ByteArray} {a b : Int} {r : Tx.Bs} (h : Hid (Tx.slice s.data.toList a b = r)) (hs : s.size ≤ 140737488351232) (ha : -9223372036854775808 ≤ a ∧ a ≤ 9223372036854775807) (hb : -9223372036854775808 ≤ b ∧ b ≤ 9223372036854775807) (w : World) :
    Calls Try.prog 23 #[.string s, .int .i64 a, .int .i64 b] w fun e' w' => e' = .returned (.string ⟨r.toArray⟩) ∧ w' = w := by
  have hrange := Tx.bounds_range s.size a b
  obtain ⟨⟨p, q⟩, hpq⟩ : ∃ x, Tx.bounds s.size a b = x := ⟨_, rfl⟩
  rw [hpq] at hrange
  have hB := rBounds_is (Lib.hid hpq) ⟨by omega, by omega⟩ ha hb w
  simp only at hrange
  rw [if_neg (by omega)] at hrange
  obtain ⟨i, rfl⟩ : ∃ i : Nat, p = (i : Int) := ⟨p.toNat, by omega⟩
  obtain ⟨j, rfl⟩ : ∃ j : Nat, q = (j : Int) := ⟨q.toNat, by omega⟩
  have hij : i ≤ j := by omega
  have hjs : j ≤ s.size := by omega
  have HR : Hid ((s.extract i j).data.toList = r) := (show _ = _ by
    rw [← h.out, data_extract]
    unfold Tx.slice
    simp only [size_list, hpq]
    rfl)
  clear h hrange hpq ha hb
  go_enter Try.func23, Try.ntmps23
  go_wp2_with (go_at_call 21; refine hB.mono ?_; clear hB; rintro e w' ⟨rfl, rfl⟩)
  go_ret
  exact ⟨by rw [str_of HR.out]; rfl, rfl⟩
set_option maxHeartbeats 8000000 in
set_option maxRecDepth 20000 in
theorem rAt_is {s : ByteArray} {i : Int} {r e : Tx.Bs} (h : Hid (Tx.atT s.data.toList i = (r, e))) (hs : s.size ≤ 140737488351232) (hi : -9223372036854775808 ≤ i ∧ i ≤ 9223372036854775807) (w : World) :
    Calls Try.prog 19 #[.string s, .int .i64 i] w fun e' w' => e' = .returned (.tuple #[.string ⟨r.toArray⟩, .string ⟨e.toArray⟩]) ∧ w' = w := by
  have hw : i < 0 → IntKind.i64.wrap (i + s.size) = i + s.size := fun g => IntWalk.i64_in _ (by omega)
  obtain ⟨j, hj⟩ : ∃ j : Int, j = if i < 0 then i + (s.size : Int) else i := ⟨_, rfl⟩
  by_cases hbad : j < 0 ∨ (s.size : Int) ≤ j
  · have hr : r = [] ∧ e = Tx.tIdx := by
      have := h.out
      unfold Tx.atT at this
      simp only [size_list, ← hj] at this
      rw [if_pos hbad] at this
      injection this with h1 h2
      exact ⟨h1.symm, h2.symm⟩
    obtain ⟨rfl, rfl⟩ := hr
    clear h
    by_cases h0 : i < 0
    · have hw := hw h0
      rw [if_pos h0] at hj
      subst hj
      rcases hbad with h1 | h1
      · go_enter Try.func19, Try.ntmps19
        go_wp2_with fail
        refine bodyPost_ret (results_tmp2 rfl _ _ _) rfl ?_
        exact ⟨rfl, rfl⟩
      · exact absurd h1 (by omega)
    · rw [if_neg h0] at hj
      subst hj
      have h1 : (s.size : Int) ≤ j := by omega
      clear hw hbad
      go_enter Try.func19, Try.ntmps19
      go_wp2_with fail
      refine bodyPost_ret (results_tmp2 rfl _ _ _) rfl ?_
      exact ⟨rfl, rfl⟩
  · obtain ⟨k, hk⟩ : ∃ k : Nat, j = (k : Int) := ⟨j.toNat, by omega⟩
    have hr : r = (s.data.toList.drop k).take 1 ∧ e = [] := by
      have := h.out
      unfold Tx.atT at this
      simp only [size_list, ← hj] at this
      rw [if_neg hbad, hk] at this
      injection this with h1 h2
      exact ⟨h1.symm, h2.symm⟩
    obtain ⟨rfl, rfl⟩ := hr
    have hks : k < s.size := by omega
    have HR : Hid ((s.extract k (k + 1)).data.toList = (s.data.toList.drop k).take 1) := (show _ = _ by
      rw [data_extract, Nat.add_sub_cancel_left])
    have hwk : IntKind.i64.wrap ((k : Int) + 1) = (k : Int) + 1 := IntWalk.i64_in _ (by omega)
    clear h hbad
    by_cases h0 : i < 0
    · have hw := hw h0
      rw [if_pos h0] at hj
      obtain rfl : i = (k : Int) - (s.size : Int) := by omega
      have hw2 : IntKind.i64.wrap ((k : Int) - (s.size : Int) + (s.size : Int)) = (k : Int) := by rw [hw]; omega
      have hw3 : IntKind.i64.wrap (k : Int) = (k : Int) := IntWalk.i64_in _ (by omega)
      clear hw hj hk
      go_enter Try.func19, Try.ntmps19
      go_wp2_with fail
      refine bodyPost_ret (results_tmp2 rfl _ _ _) rfl ?_
      exact ⟨ret_two (str_of HR.out) rfl, rfl⟩
    · rw [if_neg h0] at hj
      subst hj
      subst hk
      clear hw
      go_enter Try.func19, Try.ntmps19
      go_wp2_with fail
      refine bodyPost_ret (results_tmp2 rfl _ _ _) rfl ?_
      exact ⟨ret_two (str_of HR.out) rfl, rfl⟩
set_option maxHeartbeats 8000000 in
set_option maxRecDepth 20000 in
theorem rat_is {s t : ByteArray} {i : Nat} {v : Bool} (h : Hid (Tx.pre t.data.toList (s.data.toList.drop i) = v)) (hs : s.size ≤ 140737488351232) (ht : t.size ≤ 140737488351232) (hi : i ≤ s.size) (w : World) :
    Calls Try.prog 39 #[.string s, .string t, .int .i64 (i : Int)] w fun e' w' => e' = .returned (.bool v) ∧ w' = w := by
  by_cases hl : t.size ≤ s.size - i
  · have HE : Hid (((s.extract i (i + t.size)).toList == t.toList) = v) := (show _ = _ by
      rw [ByteArray.toList_eq, ByteArray.toList_eq, ← h.out, Bool.eq_iff_iff, Tx.pre_iff, beq_iff_eq, data_extract, Nat.add_sub_cancel_left, size_list])
    have hc : ((t.size : Int)) ≤ (s.size : Int) - (i : Int) := by omega
    clear h
    go_enter Try.func39, Try.ntmps39
    go_wp2_with fail
    go_ret
    exact ⟨ret_bool HE.out, rfl⟩
  · have HV : Hid (false = v) := (show _ = _ by
      rw [← h.out]
      cases hp : Tx.pre t.data.toList (s.data.toList.drop i) with
      | false => rfl
      | true =>
        have := Tx.pre_length hp
        rw [List.length_drop, size_list, size_list] at this
        omega)
    have hc : ¬ ((t.size : Int)) ≤ (s.size : Int) - (i : Int) := by omega
    clear h
    go_enter Try.func39, Try.ntmps39
    go_wp2_with fail
    go_ret
    exact ⟨ret_bool HV.out, rfl⟩
end Go.Proofs.Ytcpjogjkjbillaa
