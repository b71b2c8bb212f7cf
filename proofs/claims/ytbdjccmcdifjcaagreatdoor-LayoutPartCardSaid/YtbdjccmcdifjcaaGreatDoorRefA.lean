/-
  The reference's answers for names and keywords, at this program.
-/
import Derived.Test.YtbdjccmcdifjcaaGreatDoorQuotes
import Derived.IntWalk
set_option linter.unusedVariables false
set_option linter.unusedSimpArgs false
namespace Go.Proofs.YtbdjccmcdifjcaaGreatDoor
open Go.RowKit Go.Shelf

theorem rdigit_any (c : UInt8) (w : World) : Calls Tryz.prog 46 #[.int .u8 (c.toNat : Int)] w fun e w' => e = .returned (.bool (Sp.isDig c)) ∧ w = w' := by
  have hc := c.toNat_lt
  go_enter Tryz.func46, Tryz.ntmps46
  go_wp2
  all_goals
    go_ret
    refine ⟨ret_bool ?_, rfl⟩
    rw [Bool.eq_iff_iff]
    simp [Sp.isDig] <;> omega
theorem rletter_any (c : UInt8) (w : World) : Calls Tryz.prog 44 #[.int .u8 (c.toNat : Int)] w fun e w' => e = .returned (.bool (Sp.isLet c)) ∧ w = w' := by
  have hc := c.toNat_lt
  cases g95 : ((c.toNat : Int) == 95)
  all_goals
    go_enter Tryz.func44, Tryz.ntmps44
    go_wp2
    all_goals
      go_ret
      refine ⟨ret_bool ?_, rfl⟩
      rw [Bool.eq_iff_iff]
      simp [Sp.isLet] at g95 ⊢ <;> omega
theorem rdigit_is {c : UInt8} {b : Bool} (h : Hid (Sp.isDig c = b)) (w : World) : Calls Tryz.prog 46 #[.int .u8 (c.toNat : Int)] w fun e w' => e = .returned (.bool b) ∧ w = w' := by
  rw [← h.out]; exact rdigit_any c w
theorem rletter_is {c : UInt8} {b : Bool} (h : Hid (Sp.isLet c = b)) (w : World) : Calls Tryz.prog 44 #[.int .u8 (c.toNat : Int)] w fun e w' => e = .returned (.bool b) ∧ w = w' := by
  rw [← h.out]; exact rletter_any c w

set_option maxHeartbeats 1000000 in
theorem rwords_any (s : ByteArray) (hs : s.size ≤ 9223372036854775807) (w : World) : Calls Tryz.prog 45 #[.string s] w fun e w' => e = .returned (.int .i64 (Sp.wordLen s.data.toList)) ∧ w = w' := by
  go_enter Tryz.func45, Tryz.ntmps45
  go_wp2_with fail
  go_loop [3] (fun v3 => ∃ k : Nat, v3 = .int .i64 k ∧ k ≤ s.size ∧ Hid (Sp.wordLen s.data.toList = k + Sp.wordLen (s.data.toList.drop k))) (fun v3 => s.size - (intOf v3).toNat)
  case atStart => exact ⟨0, rfl, Nat.zero_le _, by show _ = _; simp⟩
  case round =>
    obtain ⟨k, rfl, hk, HW⟩ := hrel
    by_cases hlt : k < s.size
    · have hd := get_drop s k hlt
      obtain ⟨bl, HL⟩ := hid_ex (Sp.isLet s[k])
      obtain ⟨bd, HD⟩ := hid_ex (Sp.isDig s[k])
      have HN : Hid (Sp.wordLen s.data.toList = if bl || bd then k + 1 + Sp.wordLen (s.data.toList.drop (k + 1)) else k) := by
        show _ = _
        rw [HW.out, hd, Sp.wordLen]
        unfold Sp.isWd
        rw [HL.out, HD.out]
        cases bl <;> cases bd <;> simp <;> omega
      clear hd HW
      cases bl <;> cases bd
      case false.false =>
        go_wp2_with (first | (go_at_call 44; refine (rletter_is HL _).mono ?_; rintro e w' ⟨rfl, rfl⟩) | (go_at_call 46; refine (rdigit_is HD _).mono ?_; rintro e w' ⟨rfl, rfl⟩))
        go_ret
        refine ⟨ret_int ?_, rfl⟩
        rw [HN.out]; rfl
      all_goals
        go_wp2_with (first | (go_at_call 44; refine (rletter_is HL _).mono ?_; rintro e w' ⟨rfl, rfl⟩) | (go_at_call 46; refine (rdigit_is HD _).mono ?_; rintro e w' ⟨rfl, rfl⟩))
        refine ⟨⟨k + 1, by go_num, by omega, by show _ = _; rw [HN.out]; rfl⟩, by simp [intOf]; omega⟩
    · have HN : Hid (Sp.wordLen s.data.toList = k) := by
        show _ = _
        rw [HW.out, List.drop_of_length_le (by rw [size_list]; omega)]
        rfl
      clear HW
      go_wp2_with fail
      go_ret
      exact ⟨ret_int (by rw [HN.out]), rfl⟩
theorem rwords_is {s : ByteArray} {n : Nat} (h : Hid (Sp.wordLen s.data.toList = n)) (hs : s.size ≤ 1000000) (w : World) : Calls Tryz.prog 45 #[.string s] w fun e w' => e = .returned (.int .i64 n) ∧ w = w' := by
  rw [← h.out]; exact rwords_any s (by omega) w
theorem rwords_isB {s : ByteArray} {n : Nat} (h : Hid (Sp.wordLen s.data.toList = n)) (hs : s.size ≤ 9223372036854775807) (w : World) : Calls Tryz.prog 45 #[.string s] w fun e w' => e = .returned (.int .i64 n) ∧ w = w' := by
  rw [← h.out]; exact rwords_any s hs w

def kwArr : Array Value := #[.string ⟨#[78, 111, 110, 101]⟩, .string ⟨#[84, 114, 117, 101]⟩, .string ⟨#[70, 97, 108, 115, 101]⟩, .string ⟨#[97, 110, 100]⟩, .string ⟨#[111, 114]⟩, .string ⟨#[110, 111, 116]⟩, .string ⟨#[105, 102]⟩, .string ⟨#[101, 108, 115, 101]⟩, .string ⟨#[101, 108, 105, 102]⟩, .string ⟨#[119, 104, 105, 108, 101]⟩, .string ⟨#[102, 111, 114]⟩, .string ⟨#[105, 110]⟩, .string ⟨#[105, 115]⟩, .string ⟨#[98, 114, 101, 97, 107]⟩, .string ⟨#[99, 111, 110, 116, 105, 110, 117, 101]⟩, .string ⟨#[112, 97, 115, 115]⟩, .string ⟨#[100, 101, 102]⟩, .string ⟨#[99, 108, 97, 115, 115]⟩, .string ⟨#[114, 101, 116, 117, 114, 110]⟩, .string ⟨#[114, 97, 105, 115, 101]⟩, .string ⟨#[116, 114, 121]⟩, .string ⟨#[101, 120, 99, 101, 112, 116]⟩, .string ⟨#[97, 115]⟩, .string ⟨#[102, 105, 110, 97, 108, 108, 121]⟩, .string ⟨#[103, 108, 111, 98, 97, 108]⟩, .string ⟨#[110, 111, 110, 108, 111, 99, 97, 108]⟩, .string ⟨#[100, 101, 108]⟩, .string ⟨#[97, 115, 115, 101, 114, 116]⟩, .string ⟨#[121, 105, 101, 108, 100]⟩, .string ⟨#[108, 97, 109, 98, 100, 97]⟩]
theorem kws_ref (w : World) : Calls Tryz.prog 50 #[] w fun e w' => e = .returned (.slice (some ⟨w.heap.size, 0, none⟩) 30 30) ∧ w' = w.alloc (.cells kwArr 9) := by
  go_enter Tryz.func50, Tryz.ntmps50
  go_wp2_with fail
  go_ret
  exact ⟨rfl, rfl⟩
theorem kw_list : kwArr.toList = Sp.kws.map fun l => Value.string ⟨l.toArray⟩ := rfl
/-- A cell of a row of texts that has just been laid. -/
theorem text_cell (w : World) (arr : Array Value) (L : List Sp.Bs) (e : arr.toList = L.map fun l => Value.string ⟨l.toArray⟩) (j : Nat) (l : Sp.Bs) (h : L[j]? = some l) : (w.alloc (.cells arr 9)).cell? ⟨w.heap.size, j, none⟩ = some (.string ⟨l.toArray⟩) := by
  have e1 : arr[j]? = some (.string ⟨l.toArray⟩) := by
    rw [← Array.getElem?_toList, e, List.getElem?_map, h]
    rfl
  have e2 : (w.alloc (.cells arr 9)).heap[w.heap.size]? = some (.cells arr 9) := by unfold World.alloc; exact Array.getElem?_push_size
  unfold World.cell?
  rw [show (⟨w.heap.size, j, none⟩ : Addr).block = w.heap.size from rfl, e2]
  exact e1

set_option maxHeartbeats 1000000 in
theorem rkeyword_any (s : ByteArray) (w : World) : Calls Tryz.prog 31 #[.string s] w fun e w' => e = .returned (.bool (Sp.kw s.data.toList)) ∧ Below w.heap.size w w' := by
  go_enter Tryz.func31, Tryz.ntmps31
  go_wp2_with fail
  refine (kws_ref w).mono ?_
  rintro e w1 ⟨rfl, hw1⟩
  have hb1 : Below w.heap.size w w1 := by rw [hw1]; exact (Below.refl _ w).alloc (Nat.le_refl _) _
  have HC : Hid (∀ j l, Sp.kws[j]? = some l → w1.cell? ⟨w.heap.size, j, none⟩ = some (.string ⟨l.toArray⟩)) := by
    intro j l h
    rw [hw1]
    exact text_cell w _ _ kw_list j l h
  clear hw1
  go_wp2_with fail
  go_loop [4] (fun v4 => ∃ k : Nat, v4 = .int .i64 k ∧ k ≤ 30 ∧ Hid ((Sp.kws.drop k).contains s.data.toList = Sp.kw s.data.toList)) (fun v4 => 30 - (intOf v4).toNat)
  case atStart => exact ⟨0, rfl, by omega, rfl⟩
  case round =>
    obtain ⟨k, rfl, hk, HW⟩ := hrel
    by_cases hlt : k < 30
    · have hl : k < Sp.kws.length := hlt
      obtain ⟨l, hll⟩ : ∃ l, Sp.kws[k]? = some l := ⟨_, List.getElem?_eq_getElem hl⟩
      have hc := HC.out k l hll
      have hd : Sp.kws.drop k = l :: Sp.kws.drop (k + 1) := by
        have e := List.drop_eq_getElem_cons hl
        rw [e]
        congr 1
        rw [List.getElem?_eq_getElem hl] at hll
        exact Option.some.inj hll
      obtain ⟨tb, htb⟩ : ∃ tb : ByteArray, tb = ⟨l.toArray⟩ := ⟨_, rfl⟩
      have htl : tb.data.toList = l := by rw [htb]
      rw [← htb] at hc
      cases gb : (tb.toList == s.toList) with
      | true =>
        have HN : Hid (Sp.kw s.data.toList = true) := by
          show _ = _
          rw [← HW.out, hd]
          rw [Sp.toList_data, Sp.toList_data, htl] at gb
          have : l = s.data.toList := by simpa using gb
          rw [← this]
          simp
        clear hll hd htb htl HW HC
        go_wp2_with fail
        go_ret
        exact ⟨ret_bool HN.out.symm, hb1⟩
      | false =>
        have HN : Hid ((Sp.kws.drop (k + 1)).contains s.data.toList = Sp.kw s.data.toList) := by
          show _ = _
          rw [← HW.out, hd]
          rw [Sp.toList_data, Sp.toList_data, htl] at gb
          have : ¬ s.data.toList = l := by intro e; rw [e] at gb; simp at gb
          simp [List.contains_cons, this]
        clear hll hd htb htl HW HC
        go_wp2_with fail
        refine ⟨⟨k + 1, by go_num, by omega, HN⟩, by simp [intOf]; omega⟩
    · have HN : Hid (Sp.kw s.data.toList = false) := by
        show _ = _
        rw [← HW.out, List.drop_of_length_le (by show 30 ≤ k; omega)]
        rfl
      clear HW HC
      go_wp2_with fail
      go_ret
      exact ⟨ret_bool HN.out.symm, hb1⟩
theorem rkeyword_is {s : ByteArray} {b : Bool} (h : Hid (Sp.kw s.data.toList = b)) (w : World) : Calls Tryz.prog 31 #[.string s] w fun e w' => e = .returned (.bool b) ∧ Below w.heap.size w w' := by
  rw [← h.out]; exact rkeyword_any s w

set_option maxHeartbeats 1000000 in
theorem rname_any (s : ByteArray) (hs : s.size ≤ 9223372036854775807) (w : World) : Calls Tryz.prog 30 #[.string s] w fun e w' => e = .returned (.bool (Sp.nm s.data.toList)) ∧ Below w.heap.size w w' := by
  by_cases h0 : s.size = 0
  · have hl := list_of_size0 s h0
    have h1 : s.toList.isEmpty = true := by rw [Sp.toList_data, hl]; rfl
    have HL : Hid (Sp.nm s.data.toList = false) := by rw [hl]; rfl
    rw [HL.out]
    clear hl h0
    go_enter Tryz.func30, Tryz.ntmps30
    go_wp2_with fail
    go_ret
    exact ⟨rfl, Below.refl _ _⟩
  · have h0' : 0 < s.size := by omega
    have hd := get_drop s 0 h0'
    simp only [List.drop_zero] at hd
    have h1 : s.toList.isEmpty = false := by rw [Sp.toList_data, hd]; rfl
    obtain ⟨bl, HB⟩ := hid_ex (Sp.isLet s[0])
    obtain ⟨n, HN⟩ := hid_ex (Sp.wordLen s.data.toList)
    obtain ⟨bk, HK⟩ := hid_ex (Sp.kw s.data.toList)
    have HE : Hid (Sp.nm s.data.toList = (bl && decide (n = s.size) && !bk)) := by
      show _ = _
      rw [← HB.out, ← HN.out, ← HK.out, ← size_list]
      generalize hu : s.data.toList.drop (0 + 1) = u at hd
      generalize s.data.toList = l at hd
      subst hd
      rfl
    clear hd h0
    rw [HE.out]
    cases bl <;> cases bk
    all_goals
      by_cases hn : n = s.size
      all_goals
        go_enter Tryz.func30, Tryz.ntmps30
        go_wp2_with (first | (go_at_call 44; refine (rletter_is HB _).mono ?_; rintro e w' ⟨rfl, rfl⟩) | (go_at_call 45; refine (rwords_isB HN hs _).mono ?_; rintro e w' ⟨rfl, rfl⟩) | (go_at_call 31; refine (rkeyword_is HK _).mono ?_; rintro e w' ⟨rfl, hb⟩))
        all_goals
          go_ret
          refine ⟨ret_bool ?_, by first | exact Below.refl _ _ | assumption⟩
          simp_all <;> omega
end Go.Proofs.YtbdjccmcdifjcaaGreatDoor
