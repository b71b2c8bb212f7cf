/-
  The reference's answers for numbers and operators, at this program.
-/
import Derived.Test.YtbdjccmcdifjcaaGreatDoorRefD
import Derived.Test.YtbdjccmcdifjcaaGreatDoorOps
import Derived.Test.YtbdjccmcdifjcaaGreatDoorDigits
set_option linter.unusedVariables false
set_option linter.unusedSimpArgs false
namespace Go.Proofs.YtbdjccmcdifjcaaGreatDoor
open Go.RowKit Go.Shelf

namespace Sp
theorem odd_in {u : Bs} (h : ¬ digs u) : ∃ u1 d u2, u = u1 ++ d :: u2 ∧ ¬ (48 ≤ d.toNat ∧ d.toNat ≤ 57) := by
  unfold digs at h
  simp only [Classical.not_forall] at h
  obtain ⟨d, hd, hn⟩ := h
  obtain ⟨u1, u2, rfl⟩ := List.append_of_mem hd
  exact ⟨u1, d, u2, rfl, hn⟩
theorem tokInt_over {c : UInt8} {r u : Bs} (hd : digs (c :: r)) (hv : 9223372036854775808 ≤ valFrom 0 (c :: r)) : tokInt (c :: r ++ u) = .error 11 := by
  by_cases h : digs u
  · have hb : Lib.parseIntB 64 (c :: r ++ u) = .range := parseInt_big (c := c) (r := r ++ u) (digs_append hd h) (by
      rw [← List.cons_append, valFrom_append]
      exact Nat.le_trans hv (valFrom_ge _ _))
    unfold tokInt
    split
    · rfl
    · rw [hb]
  · obtain ⟨u1, d, u2, rfl, hn⟩ := odd_in h
    have := tokInt_odd (r := r ++ u1) (u := u2) (digs_cons hd).1 hn
    simpa using this
theorem take_more {l : Bs} {k : Nat} {d : UInt8} (h : l[k]? = some d) : l.take (k + 1) = l.take k ++ [d] := by rw [List.take_add_one, h]; rfl
theorem digs_more {l : Bs} {k n : Nat} {d : UInt8} (h : l[k]? = some d) (hg : digs (l.take k) ∧ valFrom 0 (l.take k) = n) (hd : 48 ≤ d.toNat ∧ d.toNat ≤ 57) : digs (l.take (k + 1)) ∧ valFrom 0 (l.take (k + 1)) = n * 10 + (d.toNat - 48) := by
  rw [take_more h]
  refine ⟨digs_append hg.1 ?_, ?_⟩
  · intro x hx
    rw [List.mem_singleton] at hx
    rw [hx]; exact hd
  · rw [valFrom_append, hg.2, valFrom_cons, valFrom_nil]
theorem num_over {l : Bs} {k n : Nat} {c d : UInt8} {u : Bs} (hl : l = c :: u) (h : l[k]? = some d) (hg : digs (l.take k) ∧ valFrom 0 (l.take k) = n) (hd : 48 ≤ d.toNat ∧ d.toNat ≤ 57) (ho : 9223372036854775808 ≤ n * 10 + (d.toNat - 48)) : tokInt l = .error 11 := by
  obtain ⟨h1, h2⟩ := digs_more h hg hd
  have e : l = l.take (k + 1) ++ l.drop (k + 1) := (List.take_append_drop _ _).symm
  have e2 : l.take (k + 1) = c :: u.take k := by rw [hl, List.take_succ_cons]
  rw [e, e2]
  rw [e2] at h1 h2
  exact tokInt_over h1 (by rw [h2]; exact ho)
theorem num_odd {l : Bs} {k : Nat} {c d : UInt8} {u : Bs} (hl : l = c :: u) (hc : 48 ≤ c.toNat ∧ c.toNat ≤ 57) (h : l[k]? = some d) (hd : ¬ (48 ≤ d.toNat ∧ d.toNat ≤ 57)) : tokInt l = .error 11 := by
  cases k with
  | zero =>
    rw [hl] at h
    simp at h
    rw [h] at hc
    exact absurd hc hd
  | succ j =>
    rw [hl, List.getElem?_cons_succ] at h
    obtain ⟨hj, hjd⟩ := List.getElem?_eq_some_iff.1 h
    have e : u = u.take j ++ d :: u.drop (j + 1) := by
      rw [← hjd, ← List.drop_eq_getElem_cons hj, List.take_append_drop]
    rw [hl, e]
    exact tokInt_odd (r := u.take j) (u := u.drop (j + 1)) hc hd
theorem num_end {l : Bs} {n : Nat} {c : UInt8} {u : Bs} (hl : l = c :: u) (hg : digs l ∧ valFrom 0 l = n) (hn : n ≤ 9223372036854775807) : tokInt l = if 1 < l.length ∧ c.toNat = 48 then .error 11 else .ok ⟨2, [], (n : Int), l.length⟩ := by
  subst hl
  unfold tokInt
  have e : (1 < (c :: u).length ∧ (c :: u).head? = some 48) ↔ (1 < (c :: u).length ∧ c.toNat = 48) := by
    constructor
    · rintro ⟨a, b⟩
      simp at b
      exact ⟨a, by rw [b]; rfl⟩
    · rintro ⟨a, b⟩
      refine ⟨a, ?_⟩
      have : c = 48 := UInt8.toNat_inj.1 b
      rw [this]
      rfl
  by_cases h : 1 < (c :: u).length ∧ c.toNat = 48
  · rw [if_pos (e.2 h), if_pos h]
  · rw [if_neg (fun x => h (e.1 x)), if_neg h, parseInt_digs hg.1 (by rw [hg.2]; omega), hg.2]
end Sp

theorem byte_get (s : ByteArray) (k : Nat) (h : k < s.size) : s.data.toList[k]? = some s[k] := by
  rw [List.getElem?_eq_getElem (by rw [size_list]; exact h)]
  rfl

set_option maxHeartbeats 4000000 in
set_option maxRecDepth 100000 in
theorem rnumber_any (s : ByteArray) (hs : s.size ≤ 1000000) (h0 : 0 < s.size) (hd0 : Sp.isDig s[0] = true) (w : World) : Calls Tryz.prog 47 #[.string s] w fun e w' => (∃ v ok, e = .returned (.tuple #[.int .i64 v, .bool ok]) ∧ Hid (Sp.tokInt s.data.toList = if ok then .ok ⟨2, [], v, s.size⟩ else .error 11)) ∧ ∃ q, w' = w.drewN q := by
  have hb0 := s[0].toNat_lt
  have hdd : 48 ≤ s[0].toNat ∧ s[0].toNat ≤ 57 := by simpa [Sp.isDig] using hd0
  have hl0 := get_drop s 0 h0
  simp only [List.drop_zero] at hl0
  have HL0 := Lib.hid hl0
  have HD0 := Lib.hid hdd
  clear hl0 hdd hd0
  go_enter Tryz.func47, Tryz.ntmps47
  go_wp2_with fail
  go_loop [4, 5] (fun v4 v5 => ∃ k n : Nat, v4 = .int .i64 (n : Int) ∧ v5 = .int .i64 k ∧ k ≤ s.size ∧ n ≤ 9223372036854775807 ∧ Hid (Sp.digs (s.data.toList.take k) ∧ Sp.valFrom 0 (s.data.toList.take k) = n)) (fun _ v5 => s.size - (intOf v5).toNat)
  case atStart => exact ⟨0, 0, rfl, rfl, Nat.zero_le _, by omega, by show _ ∧ _; exact ⟨fun x hx => by simp at hx, by rw [List.take_zero]; rfl⟩⟩
  case round =>
    obtain ⟨k, n, rfl, rfl, hk, hn, HW⟩ := hrel
    by_cases hlt : k < s.size
    · have hkl := byte_get s k hlt
      have hc0 := s[k].toNat_lt
      obtain ⟨bd, HB⟩ := hid_ex (Sp.isDig s[k])
      cases bd with
      | false =>
        have hnd : ¬ (48 ≤ s[k].toNat ∧ s[k].toNat ≤ 57) := by
          intro h
          have := HB.out
          simp [Sp.isDig] at this
          omega
        have HN : Hid (Sp.tokInt s.data.toList = if false = true then .ok ⟨2, [], 0, s.size⟩ else .error 11) := by
          show _ = _
          rw [Sp.num_odd HL0.out HD0.out hkl hnd]
          rfl
        have hw0 : IntKind.i64.wrap ((s[k].toNat : Int) - 48) = (s[k].toNat : Int) - 48 := IntWalk.i64_in _ (by omega)
        clear hnd hkl HW
        go_wp2_with (go_at_call 46; refine (rdigit_is HB _).mono ?_; rintro e w' ⟨rfl, rfl⟩)
        go_ret2
        exact ⟨⟨_, false, rfl, HN⟩, 0, rfl⟩
      | true =>
        have hcd : 48 ≤ s[k].toNat ∧ s[k].toNat ≤ 57 := by have := HB.out; simpa [Sp.isDig] using this
        obtain ⟨x, HX⟩ := hid_ex (s[k].toNat - 48)
        have hx9 : x ≤ 9 := by rw [← HX.out]; omega
        have hxd : (s[k].toNat : Int) - 48 = (x : Int) := by rw [← HX.out]; omega
        have hw0 : IntKind.i64.wrap ((s[k].toNat : Int) - 48) = (x : Int) := by rw [hxd]; exact IntWalk.i64_in _ (by omega)
        have hw1 : IntKind.i64.wrap (9223372036854775807 - (x : Int)) = 9223372036854775807 - (x : Int) := IntWalk.i64_in _ (by omega)
        obtain ⟨q, HQ⟩ := hid_ex ((9223372036854775807 - x) / 10)
        have hq0 : q ≤ 922337203685477580 := by rw [← HQ.out]; omega
        have hw2 : (9223372036854775807 - (x : Int)).tdiv 10 = (q : Int) := by rw [← HQ.out, Int.tdiv_eq_ediv_of_nonneg (by omega)]; omega
        have hw2' : (9223372036854775807 - (x : Int)) / 10 = (q : Int) := by rw [← HQ.out]; omega
        have hw3 : IntKind.i64.wrap (q : Int) = (q : Int) := IntWalk.i64_in _ (by omega)
        by_cases hov : q < n
        · have HN : Hid (Sp.tokInt s.data.toList = if false = true then .ok ⟨2, [], 0, s.size⟩ else .error 11) := by
            show _ = _
            rw [Sp.num_over HL0.out hkl HW.out hcd (by rw [HX.out]; rw [← HQ.out] at hov; omega)]
            rfl
          clear hcd hkl HW HX HQ
          go_wp2_with (go_at_call 46; refine (rdigit_is HB _).mono ?_; rintro e w' ⟨rfl, rfl⟩)
          go_ret2
          exact ⟨⟨_, false, rfl, HN⟩, 0, rfl⟩
        · obtain ⟨m, HM⟩ := hid_ex (n * 10)
          obtain ⟨z, HZ⟩ := hid_ex (m + x)
          have hz1 : z ≤ 9223372036854775807 := by
            have h1 := HQ.out
            have h2 := HZ.out
            have h3 := HM.out
            omega
          have hmz : m ≤ z := by rw [← HZ.out]; omega
          have hw4 : (n : Int) * 10 = (m : Int) := by rw [← HM.out]; omega
          have hw5 : IntKind.i64.wrap ((n : Int) * 10) = (m : Int) := by rw [hw4]; exact IntWalk.i64_in _ (by omega)
          have hw6 : (m : Int) + (x : Int) = (z : Int) := by rw [← HZ.out]; omega
          have hw7 : IntKind.i64.wrap ((m : Int) + (x : Int)) = (z : Int) := by rw [hw6]; exact IntWalk.i64_in _ (by omega)
          have HN : Hid (Sp.digs (s.data.toList.take (k + 1)) ∧ Sp.valFrom 0 (s.data.toList.take (k + 1)) = z) := by
            have := Sp.digs_more hkl HW.out hcd
            rw [HX.out, HM.out, HZ.out] at this
            exact this
          clear hcd hkl HW HX HQ HM HZ
          go_wp2_with (go_at_call 46; refine (rdigit_is HB _).mono ?_; rintro e w' ⟨rfl, rfl⟩)
          refine ⟨⟨k + 1, z, rfl, by go_num, by omega, hz1, HN⟩, by simp [intOf]; omega⟩
    · have HN : Hid (Sp.tokInt s.data.toList = if 1 < s.size ∧ s[0].toNat = 48 then .error 11 else .ok ⟨2, [], (n : Int), s.size⟩) := by
        show _ = _
        have h := HW.out
        rw [List.take_of_length_le (by rw [size_list]; omega)] at h
        rw [Sp.num_end HL0.out h hn, size_list]
      clear HW HL0 HD0
      by_cases h1 : s.size = 1
      · have g1 : ((s.size : Int) == 1) = true := by simp; omega
        have HN2 : Hid (Sp.tokInt s.data.toList = if true = true then .ok ⟨2, [], (n : Int), s.size⟩ else .error 11) := by
          show _ = _
          rw [HN.out, if_neg (by omega), if_pos rfl]
        clear HN
        go_wp2_with fail
        go_quiet (fail)
        go_wp2_with fail
        go_ret2
        exact ⟨⟨_, true, rfl, HN2⟩, _, rfl⟩
      · have g1 : ((s.size : Int) == 1) = false := by simp; omega
        by_cases h48 : s[0].toNat = 48
        · have g48 : ((s[0].toNat : Int) != 48) = false := by simp; omega
          have HN2 : Hid (Sp.tokInt s.data.toList = if false = true then .ok ⟨2, [], (n : Int), s.size⟩ else .error 11) := by
            show _ = _
            rw [HN.out, if_pos ⟨by omega, h48⟩, if_neg (by simp)]
          clear HN h48
          go_wp2_with fail
          go_quiet (fail)
          go_wp2_with fail
          go_ret2
          exact ⟨⟨_, false, rfl, HN2⟩, _, rfl⟩
        · have g48 : ((s[0].toNat : Int) != 48) = true := by simp; omega
          have HN2 : Hid (Sp.tokInt s.data.toList = if true = true then .ok ⟨2, [], (n : Int), s.size⟩ else .error 11) := by
            show _ = _
            rw [HN.out, if_neg (by omega), if_pos rfl]
          clear HN h48
          go_wp2_with fail
          go_quiet (fail)
          go_wp2_with fail
          go_ret2
          exact ⟨⟨_, true, rfl, HN2⟩, _, rfl⟩
theorem rnumber_ok {s : ByteArray} {t : Sp.Tk} (h : Hid (Sp.tokInt s.data.toList = .ok t)) (hs : s.size ≤ 1000000) (h0 : 0 < s.size) (hd0 : Sp.isDig s[0] = true) (w : World) : Calls Tryz.prog 47 #[.string s] w fun e w' => e = .returned (.tuple #[.int .i64 t.num, .bool true]) ∧ ∃ q, w' = w.drewN q := by
  refine (rnumber_any s hs h0 hd0 w).mono ?_
  rintro e w' ⟨⟨v, ok, rfl, hh⟩, hw⟩
  refine ⟨?_, hw⟩
  have := hh.out
  rw [h.out] at this
  cases ok with
  | true => rw [if_pos rfl] at this; cases this; rfl
  | false => rw [if_neg (by simp)] at this; cases this
theorem rnumber_err {s : ByteArray} {er : Int} (h : Hid (Sp.tokInt s.data.toList = .error er)) (hs : s.size ≤ 1000000) (h0 : 0 < s.size) (hd0 : Sp.isDig s[0] = true) (w : World) : Calls Tryz.prog 47 #[.string s] w fun e w' => (∃ v, e = .returned (.tuple #[.int .i64 v, .bool false])) ∧ ∃ q, w' = w.drewN q := by
  refine (rnumber_any s hs h0 hd0 w).mono ?_
  rintro e w' ⟨⟨v, ok, rfl, hh⟩, hw⟩
  refine ⟨⟨v, ?_⟩, hw⟩
  have := hh.out
  rw [h.out] at this
  cases ok with
  | true => rw [if_pos rfl] at this; cases this
  | false => rfl
end Go.Proofs.YtbdjccmcdifjcaaGreatDoor
