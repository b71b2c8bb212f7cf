/-
  The program's functions of package text that range over no function: Concat, Repeat, bound, Bounds, part, At, Slice, Compare, at this program.
-/
import Derived.Test.YtcpjogjkjbillaaTxG
import Derived.Test.YtcpjogjkjbillaaShelf
import Derived.Laws.Small
set_option linter.unusedVariables false
set_option linter.unusedSimpArgs false
namespace Go.Proofs.Ytcpjogjkjbillaa
open Go.RowKit

set_option maxHeartbeats 8000000 in
theorem tConcat_is {x y : ByteArray} {r e : Tx.Bs} (h : Hid (Tx.cat x.data.toList y.data.toList = (r, e))) (hx : x.size ≤ 140737488351232) (hy : y.size ≤ 140737488351232) (w : World) :
    Calls Try.prog 13 #[.string x, .string y] w fun e' w' => e' = .returned (.tuple #[.string ⟨r.toArray⟩, .string ⟨e.toArray⟩]) ∧ Below w.heap.size w w' := by
  have hw : IntKind.i64.wrap ((65536 : Int) - (y.size : Int)) = 65536 - (y.size : Int) := IntWalk.i64_in _ (by omega)
  by_cases hb : 65536 < x.size + y.size
  · have hr : r = [] ∧ e = Tx.tMem := by
      have := h.out
      unfold Tx.cat at this
      rw [size_list, size_list, if_pos hb] at this
      injection this with h1 h2
      exact ⟨h1.symm, h2.symm⟩
    obtain ⟨rfl, rfl⟩ := hr
    clear h
    have h1 : (65536 : Int) - (y.size : Int) < (x.size : Int) := by omega
    go_enter Try.func13, Try.ntmps13
    go_wp2_with fail
    refine bodyPost_ret (results_tmp2 rfl _ _ _) rfl ?_
    exact ⟨rfl, Below.refl _ _⟩
  · have hr : r = x.data.toList ++ y.data.toList ∧ e = [] := by
      have := h.out
      unfold Tx.cat at this
      rw [size_list, size_list, if_neg hb] at this
      injection this with h1 h2
      exact ⟨h1.symm, h2.symm⟩
    obtain ⟨rfl, rfl⟩ := hr
    clear h
    have HS : Hid ((x ++ y).data.toList = x.data.toList ++ y.data.toList) := (show _ = _ by rw [ByteArray.data_append, Array.toList_append])
    have h1 : ¬ (65536 : Int) - (y.size : Int) < (x.size : Int) := by omega
    go_enter Try.func13, Try.ntmps13
    go_wp2_with fail
    refine bodyPost_ret (results_tmp2 rfl _ _ _) rfl ?_
    exact ⟨ret_two (str_of HS.out) rfl, Below.refl _ _⟩
theorem times_repeatL (l : Tx.Bs) : ∀ n, Lib.repeatL l n = Tx.times l n
  | 0 => rfl
  | n + 1 => by rw [Lib.repeatL_add, Lib.repeatL_one, Tx.times, times_repeatL l n]
set_option maxHeartbeats 8000000 in
set_option maxRecDepth 20000 in
theorem tRepeat_is {s : ByteArray} {n : Int} {r e : Tx.Bs} (h : Hid (Tx.rep s.data.toList n = (r, e))) (hs : s.size ≤ 140737488351232) (hn : -9223372036854775808 ≤ n ∧ n ≤ 9223372036854775807) (w : World) :
    Calls Try.prog 15 #[.string s, .int .i64 n] w fun e' w' => e' = .returned (.tuple #[.string ⟨r.toArray⟩, .string ⟨e.toArray⟩]) ∧ Below w.heap.size w w' := by
  by_cases h0 : n < 1 ∨ s.size = 0
  · have hr : r = [] ∧ e = [] := by
      have := h.out
      unfold Tx.rep at this
      rw [if_pos (by rcases h0 with g | g; exact Or.inl g; exact Or.inr (List.length_eq_zero_iff.1 (by rw [size_list]; exact g)))] at this
      injection this with h1 h2
      exact ⟨h1.symm, h2.symm⟩
    obtain ⟨rfl, rfl⟩ := hr
    clear h
    have hc : n < 1 ∨ ¬ n < 1 ∧ (s.toList == []) = true := by
      by_cases g : n < 1
      · exact Or.inl g
      · refine Or.inr ⟨g, ?_⟩
        have hl : s.data.toList = [] := List.length_eq_zero_iff.1 (by rw [size_list]; omega)
        rw [ByteArray.toList_eq, hl]
        rfl
    clear h0
    rcases hc with g | ⟨g, g2⟩
    all_goals
      go_enter Try.func15, Try.ntmps15
      go_wp2_with fail
      refine bodyPost_ret (results_tmp2 rfl _ _ _) rfl ?_
      exact ⟨rfl, Below.refl _ _⟩
  · have hn1 : ¬ n < 1 := fun g => h0 (Or.inl g)
    have hs1 : 0 < s.size := Nat.pos_of_ne_zero fun g => h0 (Or.inr g)
    have hsl : ¬ s.data.toList = [] := fun g => h0 (Or.inr (by rw [← size_list, g]; rfl))
    have hz : (s.toList == []) = false := by rw [ByteArray.toList_eq]; simpa using hsl
    have hne : ¬ (n < 1 ∨ s.data.toList = []) := fun g => h0 (by rcases g with g | g; exact Or.inl g; exact absurd g hsl)
    obtain ⟨m, rfl⟩ : ∃ m : Nat, n = (m : Int) := ⟨n.toNat, by omega⟩
    have hq : (65536 : Int).tdiv (s.size : Int) = ((65536 / s.size : Nat) : Int) := rfl
    obtain ⟨Q, hQ⟩ : ∃ Q, Q = 65536 / s.size := ⟨_, rfl⟩
    have hQ2 : Q ≤ 65536 := by rw [hQ]; exact Nat.div_le_self _ _
    have hmul : m ≤ Q ↔ m * s.size ≤ 65536 := by rw [hQ]; exact Nat.le_div_iff_mul_le hs1
    rw [← hQ] at hq
    obtain ⟨P, hP⟩ : ∃ P, P = m * s.size := ⟨_, rfl⟩
    have hPc : (m : Int) * (s.data.toList.length : Int) = (P : Int) := by rw [size_list, hP, Int.natCast_mul]
    rw [← hP] at hmul
    have hwq : IntKind.i64.wrap (Q : Int) = (Q : Int) := IntWalk.i64_in _ (by omega)
    have hz2 : ((s.size : Int) == 0) = false := beq_eq_false_iff_ne.2 (by omega)
    by_cases hbig : Q < m
    · have hr : r = [] ∧ e = Tx.tMem := by
        have := h.out
        unfold Tx.rep at this
        rw [if_neg hne, if_pos (by rw [hPc]; omega)] at this
        injection this with h1 h2
        exact ⟨h1.symm, h2.symm⟩
      obtain ⟨rfl, rfl⟩ := hr
      have g1 : (Q : Int) < (m : Int) := by omega
      clear h h0 hne hmul hQ hbig hP hPc hsl
      go_enter Try.func15, Try.ntmps15
      go_wp2_with fail
      refine bodyPost_ret (results_tmp2 rfl _ _ _) rfl ?_
      exact ⟨rfl, Below.refl _ _⟩
    · have hfit : P ≤ 65536 := hmul.1 (by omega)
      have hr : r = Tx.times s.data.toList m ∧ e = [] := by
        have := h.out
        unfold Tx.rep at this
        rw [if_neg hne, if_neg (by rw [hPc]; omega)] at this
        injection this with h1 h2
        exact ⟨h1.symm, h2.symm⟩
      obtain ⟨rfl, rfl⟩ := hr
      have g1 : ¬ (Q : Int) < (m : Int) := by omega
      have HC := Lib.hid (Try.strings_Repeat s m w (by omega) (by rw [Nat.mul_comm, ← hP]; omega))
      rw [times_repeatL] at HC
      clear h h0 hne hmul hQ hbig hfit hP hPc hsl
      go_enter Try.func15, Try.ntmps15
      go_wp2_with (go_at_call 33; refine HC.out.mono ?_; clear HC; rintro e w2 ⟨rfl, HB⟩)
      refine bodyPost_ret (results_tmp2 rfl _ _ _) rfl ?_
      exact ⟨rfl, HB⟩
set_option maxHeartbeats 8000000 in
theorem bound_is {n i p : Int} (h : Hid (Tx.place n i = p)) (hn : 0 ≤ n) (hn2 : n ≤ 9223372036854775807) (hi : -9223372036854775808 ≤ i ∧ i ≤ 9223372036854775807) (w : World) :
    Calls Try.prog 35 #[.int .i64 n, .int .i64 i] w fun e' w' => e' = .returned (.int .i64 p) ∧ w' = w := by
  obtain ⟨j, hj⟩ : ∃ j : Int, (if i < 0 then i + n else i) = j := ⟨_, rfl⟩
  have hp : min (max j 0) n = p := by
    have := h.out
    unfold Tx.place at this
    simp only [hj] at this
    rw [← this]
    split <;> (try split) <;> omega
  have HP := Lib.hid hp
  clear h hp
  by_cases h0 : i < 0
  · have hw : IntKind.i64.wrap (i + n) = j := by rw [IntWalk.i64_in _ (by omega)]; rw [if_pos h0] at hj; exact hj
    clear hj hi
    go_enter Try.func35, Try.ntmps35
    go_wp2_with fail
    go_ret
    exact ⟨ret_int HP.out, rfl⟩
  · rw [if_neg h0] at hj
    subst hj
    clear hi
    go_enter Try.func35, Try.ntmps35
    go_wp2_with fail
    go_ret
    exact ⟨ret_int HP.out, rfl⟩
set_option maxHeartbeats 8000000 in
set_option maxRecDepth 20000 in
theorem tBounds_is {n a b p q : Int} (h : Hid (Tx.bounds n a b = (p, q))) (hn : -9223372036854775808 ≤ n ∧ n ≤ 9223372036854775807) (ha : -9223372036854775808 ≤ a ∧ a ≤ 9223372036854775807) (hb : -9223372036854775808 ≤ b ∧ b ≤ 9223372036854775807) (w : World) :
    Calls Try.prog 20 #[.int .i64 n, .int .i64 a, .int .i64 b] w fun e' w' => e' = .returned (.tuple #[.int .i64 p, .int .i64 q]) ∧ Below w.heap.size w w' := by
  obtain ⟨m, hm⟩ : ∃ m, max n 0 = m := ⟨_, rfl⟩
  have hm' : (if n < 0 then 0 else n) = m := by rw [← hm]; split <;> omega
  obtain ⟨low, hl⟩ : ∃ low, Tx.place m a = low := ⟨_, rfl⟩
  obtain ⟨high, hh⟩ : ∃ high, Tx.place m b = high := ⟨_, rfl⟩
  have hm0 : 0 ≤ m ∧ m ≤ 9223372036854775807 := by omega
  have HL := Lib.hid hl
  have HH := Lib.hid hh
  have hr : p = low ∧ max low high = q := by
    have := h.out
    unfold Tx.bounds at this
    simp only [hm', hl, hh] at this
    injection this with h1 h2
    refine ⟨h1.symm, ?_⟩
    rw [← h2]
    split <;> omega
  obtain ⟨rfl, hq0⟩ := hr
  have HQ := Lib.hid hq0
  clear h hl hh hq0
  have hpa := Lib.hid (bound_is HL hm0.1 hm0.2 ha)
  have hpb := Lib.hid (bound_is HH hm0.1 hm0.2 hb)
  clear HL HH hm0 ha hb hn hm'
  go_enter Try.func20, Try.ntmps20
  go_wp2_with (first
    | (go_at_call 35; with_reducible (show Calls _ _ #[_, Value.int _ b] _ _); refine (hpb.out _).mono ?_; rintro e w' ⟨rfl, rfl⟩)
    | (go_at_call 35; with_reducible (show Calls _ _ #[_, Value.int _ a] _ _); refine (hpa.out _).mono ?_; rintro e w' ⟨rfl, rfl⟩))
  refine bodyPost_ret (results_tmp2 rfl _ _ _) rfl ?_
  exact ⟨ret_two rfl (by rw [← HQ.out]; rfl), Below.refl _ _⟩
theorem clone_is (s : ByteArray) (hs : s.size ≤ 140737488351232) (w : World) :
    Calls Try.prog 47 #[.string s] w fun e' w' => e' = .returned (.string s) ∧ Below w.heap.size w w' := by
  have HC := Lib.hid (Try.stringslite_Clone s w (by omega))
  go_enter Try.func47, Try.ntmps47
  go_wp2_with (go_at_call 57; refine HC.out.mono ?_; clear HC; rintro e w2 ⟨rfl, HB⟩)
  go_ret
  exact ⟨rfl, HB⟩
set_option maxHeartbeats 8000000 in
theorem part_is {s : ByteArray} {i j : Nat} {r : Tx.Bs} (h : Hid ((s.data.toList.drop i).take (j - i) = r)) (hs : s.size ≤ 140737488351232) (hij : i ≤ j) (hjs : j ≤ s.size) (w : World) :
    Calls Try.prog 34 #[.string s, .int .i64 (i : Int), .int .i64 (j : Int)] w fun e' w' => e' = .returned (.string ⟨r.toArray⟩) ∧ Below w.heap.size w w' := by
  have HR : Hid ((s.extract i j).data.toList = r) := (show _ = _ by rw [← h.out, data_extract])
  have hc := Lib.hid (clone_is (s.extract i j) (by rw [ByteArray.size_extract]; omega) w)
  clear h
  go_enter Try.func34, Try.ntmps34
  go_wp2_with (go_at_call 47; refine hc.out.mono ?_; clear hc; rintro e w2 ⟨rfl, HB⟩)
  go_ret
  exact ⟨congrArg Ending.returned (str_of HR.out), HB⟩
set_option maxHeartbeats 8000000 in
set_option maxRecDepth 20000 in
theorem tSlice_is {s : ByteArray} {a b : Int} {r : Tx.Bs} (h : Hid (Tx.slice s.data.toList a b = r)) (hs : s.size ≤ 140737488351232) (ha : -9223372036854775808 ≤ a ∧ a ≤ 9223372036854775807) (hb : -9223372036854775808 ≤ b ∧ b ≤ 9223372036854775807) (w : World) :
    Calls Try.prog 22 #[.string s, .int .i64 a, .int .i64 b] w fun e' w' => e' = .returned (.string ⟨r.toArray⟩) ∧ Below w.heap.size w w' := by
  have hrange := Tx.bounds_range s.size a b
  obtain ⟨⟨p, q⟩, hpq⟩ : ∃ x, Tx.bounds s.size a b = x := ⟨_, rfl⟩
  rw [hpq] at hrange
  have hB := Lib.hid (tBounds_is (Lib.hid hpq) ⟨by omega, by omega⟩ ha hb w)
  simp only at hrange
  rw [if_neg (by omega)] at hrange
  obtain ⟨i, rfl⟩ : ∃ i : Nat, p = (i : Int) := ⟨p.toNat, by omega⟩
  obtain ⟨j, rfl⟩ : ∃ j : Nat, q = (j : Int) := ⟨q.toNat, by omega⟩
  have hij : i ≤ j := by omega
  have hjs : j ≤ s.size := by omega
  have HR : Hid ((s.data.toList.drop i).take (j - i) = r) := (show _ = _ by
    rw [← h.out]
    unfold Tx.slice
    simp only [size_list, hpq]
    rfl)
  have hP := fun W => part_is HR hs hij hjs W
  have HPP := Lib.hid hP
  clear h hrange hpq ha hb hP
  go_enter Try.func22, Try.ntmps22
  go_wp2_with (first
    | (go_at_call 34; refine (HPP.out _).mono ?_; clear HPP; rintro e w2 ⟨rfl, b2⟩)
    | (go_at_call 20; refine hB.out.mono ?_; clear hB; rintro e w1 ⟨rfl, b1⟩))
  go_ret
  exact ⟨rfl, b1.trans (b2.mono b1.size)⟩
set_option maxHeartbeats 8000000 in
set_option maxRecDepth 20000 in
theorem tAt_is {s : ByteArray} {i : Int} {r e : Tx.Bs} (h : Hid (Tx.atT s.data.toList i = (r, e))) (hs : s.size ≤ 140737488351232) (hi : -9223372036854775808 ≤ i ∧ i ≤ 9223372036854775807) (w : World) :
    Calls Try.prog 18 #[.string s, .int .i64 i] w fun e' w' => e' = .returned (.tuple #[.string ⟨r.toArray⟩, .string ⟨e.toArray⟩]) ∧ Below w.heap.size w w' := by
  have hw : i < 0 → IntKind.i64.wrap (i + s.size) = i + s.size := fun g => IntWalk.i64_in _ (by omega)
  obtain ⟨j, hj⟩ : ∃ j : Int, j = if i < 0 then i + (s.size : Int) else i := ⟨_, rfl⟩
  by_cases hbad : j < 0 ∨ (s.size : Int) ≤ j
  · have hr : r = [] ∧ e = Tx.tIdx := by
      have := h.out
      unfold Tx.atT at this
      simp only [size_list, ← hj] at this
      rw [if_pos hbad] at this
      injection this with h1 h2
      exact ⟨h1.symm, h2.symm⟩
    obtain ⟨rfl, rfl⟩ := hr
    clear h
    by_cases h0 : i < 0
    · have hw := hw h0
      rw [if_pos h0] at hj
      subst hj
      rcases hbad with h1 | h1
      · go_enter Try.func18, Try.ntmps18
        go_wp2_with fail
        refine bodyPost_ret (results_tmp2 rfl _ _ _) rfl ?_
        exact ⟨rfl, Below.refl _ _⟩
      · exact absurd h1 (by omega)
    · rw [if_neg h0] at hj
      subst hj
      have h1 : (s.size : Int) ≤ j := by omega
      clear hw hbad
      go_enter Try.func18, Try.ntmps18
      go_wp2_with fail
      refine bodyPost_ret (results_tmp2 rfl _ _ _) rfl ?_
      exact ⟨rfl, Below.refl _ _⟩
  · obtain ⟨k, hk⟩ : ∃ k : Nat, j = (k : Int) := ⟨j.toNat, by omega⟩
    have hr : r = (s.data.toList.drop k).take 1 ∧ e = [] := by
      have := h.out
      unfold Tx.atT at this
      simp only [size_list, ← hj] at this
      rw [if_neg hbad, hk] at this
      injection this with h1 h2
      exact ⟨h1.symm, h2.symm⟩
    obtain ⟨rfl, rfl⟩ := hr
    have hks : k < s.size := by omega
    have hP := part_is (s := s) (i := k) (j := k + 1) (r := (s.data.toList.drop k).take 1) (show _ = _ by rw [Nat.add_sub_cancel_left]) hs (Nat.le_succ _) hks w
    have HP := Lib.hid hP
    have hwk : IntKind.i64.wrap ((k : Int) + 1) = (k : Int) + 1 := IntWalk.i64_in _ (by omega)
    clear h hbad hP
    by_cases h0 : i < 0
    · have hw := hw h0
      rw [if_pos h0] at hj
      obtain rfl : i = (k : Int) - (s.size : Int) := by omega
      have hw2 : IntKind.i64.wrap ((k : Int) - (s.size : Int) + (s.size : Int)) = (k : Int) := by rw [hw]; omega
      have hw3 : IntKind.i64.wrap (k : Int) = (k : Int) := IntWalk.i64_in _ (by omega)
      clear hw hj hk
      go_enter Try.func18, Try.ntmps18
      go_wp2_with (go_at_call 34; refine HP.out.mono ?_; clear HP; rintro e w2 ⟨rfl, HB⟩)
      refine bodyPost_ret (results_tmp2 rfl _ _ _) rfl ?_
      exact ⟨rfl, HB⟩
    · rw [if_neg h0] at hj
      subst hj
      subst hk
      clear hw
      go_enter Try.func18, Try.ntmps18
      go_wp2_with (go_at_call 34; refine HP.out.mono ?_; clear HP; rintro e w2 ⟨rfl, HB⟩)
      refine bodyPost_ret (results_tmp2 rfl _ _ _) rfl ?_
      exact ⟨rfl, HB⟩
end Go.Proofs.Ytcpjogjkjbillaa
