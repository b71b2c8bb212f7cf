/-
  TextFound of layer 9: the walk, at this program (made by wip/tools/genLaw9.py).
-/
import Derived.Test.YtcpjogjkjbillaaTxV
set_option linter.unusedVariables false
set_option linter.unusedSimpArgs false
namespace Go.Proofs.Ytcpjogjkjbillaa
namespace lawTextFound
open Go.RowKit

theorem place_in {n i : Nat} (h : i ≤ n) : Tx.place (n : Int) (i : Int) = (i : Int) := by unfold Tx.place; simp only; rw [if_neg (by omega), if_neg (by omega), if_neg (by omega)]
theorem slice_in {S : Tx.Bs} {a b : Nat} (h1 : a ≤ b) (h2 : b ≤ S.length) : Tx.slice S (a : Int) (b : Int) = (S.drop a).take (b - a) := by
  unfold Tx.slice Tx.bounds
  simp only
  rw [if_neg (by omega : ¬ ((S.length : Int) < 0)), place_in (by omega : a ≤ S.length), place_in h2, if_neg (by omega)]
  rfl
theorem pcs_none {sep : Tx.Bs} : ∀ (S cur : Tx.Bs), (∀ j, Tx.pre sep (S.drop j) = false) → Tx.pcs sep cur S = [cur ++ S]
  | [], cur, _ => by rw [Tx.pcs_nil, List.append_nil]
  | c :: r, cur, h => by
    have h0 := h 0
    rw [List.drop_zero] at h0
    rw [Tx.pcs_not cur h0, pcs_none r (cur ++ [c]) (fun j => by have := h (j + 1); rwa [List.drop_succ_cons] at this)]
    simp
theorem split_none {S U : Tx.Bs} (hU : U ≠ []) (h : ∀ j, Tx.pre U (S.drop j) = false) : Tx.split S U = ([S], []) := by
  have e : Tx.pieces U S.length [] S = [S] := by
    have := pcs_none (sep := U) S [] h
    rw [List.nil_append] at this
    exact this
  unfold Tx.split
  rw [if_neg hU, e, if_neg (by simp)]
theorem none_ahead {S U : Tx.Bs} {k : Nat} (hU : 0 < U.length) (h : ∀ j, j < k → Tx.pre U (S.drop j) = false) : Tx.findI (S.take (k + U.length - 1)) U = -1 := by
  unfold Tx.findI
  rw [Tx.find_none_of]
  intro j hj
  cases hp : Tx.pre U ((S.take (k + U.length - 1)).drop j) with
  | false => rfl
  | true =>
    have h1 := Tx.pre_length hp
    rw [List.length_drop, List.length_take] at h1
    have h2 := h j (by omega)
    have h3 : Tx.pre U (S.drop j) = true := by
      have e : S.drop j = (S.take (k + U.length - 1)).drop j ++ S.drop (k + U.length - 1) := by
        conv => lhs; rw [← List.take_append_drop (k + U.length - 1) S]
        rw [List.drop_append_of_le_length (by rw [List.length_take]; omega)]
      rw [e]
      exact Tx.pre_append hp
    rw [h3] at h2
    cases h2
set_option maxHeartbeats 16000000 in
set_option maxRecDepth 100000 in
theorem walk (x : ByteArray) (y : ByteArray)  (w : World) (hx : x.size ≤ 140737488351232) (hy : y.size ≤ 140737488351232)  : Calls Try.prog 10 #[.string x, .string y] w fun e w' => e = .returned (.bool true) ∧ Below w.heap.size w w' := by
  by_cases h1 : 20000 < x.size
  · have g0 : (20000 : Int) < (x.size : Int) := by omega
    go_enter Try.func10, Try.ntmps10
    go_wp2_with fail
    go_ret
    exact ⟨rfl, Below.refl _ _⟩
  by_cases h2 : 200 < y.size
  · have g0 : ¬ (20000 : Int) < (x.size : Int) := by omega
    have g1 : (200 : Int) < (y.size : Int) := by omega
    go_enter Try.func10, Try.ntmps10
    go_wp2_with fail
    go_ret
    exact ⟨rfl, Below.refl _ _⟩
  have g0 : ¬ (20000 : Int) < (x.size : Int) := by omega
  have g1 : ¬ (200 : Int) < (y.size : Int) := by omega
  have hx0 : x.size ≤ 1000000 := by omega
  have hy0 : y.size ≤ 1000000 := by omega
  cases hf : Tx.find y.data.toList x.data.toList with
  | none =>
    have hn := Tx.find_none hf
    have hU : y.data.toList ≠ [] := fun e => by
      have := hn 0
      rw [e, Tx.pre_nil] at this
      cases this
    have HF : Hid (Tx.findI x.data.toList y.data.toList = -1) := (show _ = _ by unfold Tx.findI; rw [hf])
    have HS : Hid (Tx.split x.data.toList y.data.toList = ([x.data.toList], [])) := (show _ = _ from split_none hU hn)
    have gU : (y.toList == []) = false := by rw [ByteArray.toList_eq]; simpa using hU
    clear hf hn hU h1 h2
    go_enter Try.func10, Try.ntmps10
    go_wp2_with (first
      | (go_at_call 26; refine (tSplit_is HS hx0 hy0 _).mono ?_; rintro e w2 ⟨v2, rfl, HR2, b2⟩; have b2 := b2.out; obtain ⟨pa, ca, rfl⟩ := HR2.out.form)
      | (go_at_call 29; refine (tFind_is HF (up9j hx0) (up9j hy0) _).mono ?_; rintro e w1 ⟨rfl, b1⟩)
      | (go_at_call 17; refine (said9 _).mono ?_; rintro e w0 ⟨rfl, b0⟩))
    go_ret
    exact ⟨ret_bool (by first | rfl | (simp; done)), bseq (bseq b1 b2) b0⟩
  | some k =>
    obtain ⟨f1, f2, f3⟩ := Tx.find_some hf
    have hk : k + y.size ≤ x.size := by
      have := Tx.pre_length f2
      rw [List.length_drop, size_list, size_list] at this
      rw [size_list] at f1
      omega
    have HF : Hid (Tx.findI x.data.toList y.data.toList = (k : Int)) := (show _ = _ by unfold Tx.findI; rw [hf])
    have HS : Hid (Tx.slice x.data.toList (k : Int) ((k : Int) + (y.size : Int)) = y.data.toList) := (show _ = _ by
      have e : ((k : Int) + (y.size : Int)) = ((k + y.size : Nat) : Int) := by omega
      rw [e, slice_in (by omega) (by rw [size_list]; omega), Nat.add_sub_cancel_left]
      have := Tx.pre_iff.1 f2
      rw [size_list] at this
      exact this)
    obtain ⟨U, hU⟩ : ∃ U, y.data.toList = U := ⟨_, rfl⟩
    have HE : (U == y.toList) = true := by rw [ByteArray.toList_eq, hU]; simp
    rw [hU] at HS
    have hw1 : IntKind.i64.wrap ((k : Int) + (y.size : Int)) = (k : Int) + (y.size : Int) := IntWalk.i64_in _ (by omega)
    have hw2 : IntKind.i64.wrap ((k : Int) + (y.size : Int) - 1) = (k : Int) + (y.size : Int) - 1 := IntWalk.i64_in _ (by omega)
    have hle : ¬ (x.size : Int) < (k : Int) + (y.size : Int) := by omega
    have hk0 : ¬ (k : Int) < 0 := by omega
    have hkb : k ≤ 20000 := by omega
    have hyb : y.size ≤ 200 := by omega
    by_cases hn : y.size = 0
    · have hz : ((y.size : Int) == 0) = true := beq_iff_eq.2 (by omega)
      have HS0 : Hid (Tx.slice x.data.toList (k : Int) (k : Int) = U) := (show _ = _ by
        have h := HS.out
        rw [hn] at h
        simpa using h)
      have hkr : -9223372036854775808 ≤ (k : Int) ∧ (k : Int) ≤ 9223372036854775807 := by omega
      clear hf f1 f2 f3 hU h1 h2 HS
      go_enter Try.func10, Try.ntmps10
      go_wp2_with (first
        | (go_at_call 22; refine (tSlice_is HS0 hx hkr hkr _).mono ?_; rintro e w2 ⟨rfl, b2⟩)
        | (go_at_call 29; refine (tFind_is HF (up9j hx0) (up9j hy0) _).mono ?_; rintro e w1 ⟨rfl, b1⟩)
        | (go_at_call 17; refine (said9 _).mono ?_; rintro e w0 ⟨rfl, b0⟩))
      go_ret
      exact ⟨ret_bool (by first | rfl | (simp; done) | (simpa using HE)), bseq (bseq b1 b2) b0⟩
    · have hz : ((y.size : Int) == 0) = false := beq_eq_false_iff_ne.2 (by omega)
      have hyp : (0 : Int) < (y.size : Int) := by omega
      obtain ⟨Z, hZ⟩ : ∃ Z, Z = x.data.toList.take (k + y.data.toList.length - 1) := ⟨_, rfl⟩
      have HN : Hid (Tx.findI (⟨Z.toArray⟩ : ByteArray).data.toList y.data.toList = -1) := (show _ = _ by
        show Tx.findI Z y.data.toList = -1
        rw [hZ]
        exact none_ahead (by rw [size_list]; omega) f3)
      have HS2 : Hid (Tx.slice x.data.toList 0 ((k : Int) + (y.size : Int) - 1) = Z) := (show _ = _ by
        have e : ((k : Int) + (y.size : Int) - 1) = ((k + y.size - 1 : Nat) : Int) := by omega
        have e0 : (0 : Int) = ((0 : Nat) : Int) := rfl
        rw [e, e0, slice_in (by omega) (by rw [size_list]; omega), hZ, size_list]
        rfl)
      have sZ : (⟨Z.toArray⟩ : ByteArray).size ≤ 1048576 := by
        show Z.toArray.size ≤ _
        rw [List.size_toArray, hZ, List.length_take, size_list, size_list]
        omega
      clear hf f1 f2 f3 hU h1 h2 hZ
      go_enter Try.func10, Try.ntmps10
      go_wp2_with (first
        | (go_at_call 29; with_reducible (show Calls _ _ #[Value.string ⟨List.toArray Z⟩, _] _ _); refine (tFind_is HN sZ (up9j hy0) _).mono ?_; rintro e w4 ⟨rfl, b4⟩)
        | (go_at_call 22; with_reducible (show Calls _ _ #[_, Value.int _ 0, _] _ _); refine (tSlice_is HS2 hx ⟨by omega, by omega⟩ ⟨by omega, by omega⟩ _).mono ?_; rintro e w3 ⟨rfl, b3⟩)
        | (go_at_call 22; with_reducible (show Calls _ _ #[_, Value.int _ (k : Int), _] _ _); refine (tSlice_is HS hx ⟨by omega, by omega⟩ ⟨by omega, by omega⟩ _).mono ?_; rintro e w2 ⟨rfl, b2⟩)
        | (go_at_call 29; with_reducible (show Calls _ _ #[Value.string x, _] _ _); refine (tFind_is HF (up9j hx0) (up9j hy0) _).mono ?_; rintro e w1 ⟨rfl, b1⟩)
        | (go_at_call 17; refine (said9 _).mono ?_; rintro e w0 ⟨rfl, b0⟩))
      go_ret
      exact ⟨ret_bool (by first | rfl | (simp; done) | (simpa using HE)), bseq (bseq (bseq (bseq b1 b2) b0) b3) b4⟩
end lawTextFound
end Go.Proofs.Ytcpjogjkjbillaa
