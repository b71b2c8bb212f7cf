/-
  A line alone, without blanks ahead and without brackets, has its tokens, its end, and the source's (layer 2, P2.1), at this program: the tied card of LayoutOne. No condition.
-/
import Derived.Test.YtbdjccmcdifjcaaGreatDoorRefD
import Derived.Test.YtbdjccmcdifjcaaGreatDoorOps
import Derived.Test.YtbdjccmcdifjcaaGreatDoorDigits
import Derived.Test.YtbdjccmcdifjcaaGreatDoorShown
import Derived.Test.YtbdjccmcdifjcaaGreatDoorLsAll
import Derived.Test.YtbdjccmcdifjcaaGreatDoorCards
import Derived.Test.YtbdjccmcdifjcaaGreatDoorTie
import Derived.SevenTiedAt
set_option linter.unusedVariables false
set_option linter.unusedSimpArgs false
namespace Go.Proofs.YtbdjccmcdifjcaaGreatDoor
open Go.RowKit Go.Shelf

namespace Sp
theorem odd_in {u : Bs} (h : ¬ digs u) : ∃ u1 d u2, u = u1 ++ d :: u2 ∧ ¬ (48 ≤ d.toNat ∧ d.toNat ≤ 57) := by
  unfold digs at h
  simp only [Classical.not_forall] at h
  obtain ⟨d, hd, hn⟩ := h
  obtain ⟨u1, u2, rfl⟩ := List.append_of_mem hd
  exact ⟨u1, d, u2, rfl, hn⟩
theorem tokInt_over {c : UInt8} {r u : Bs} (hd : digs (c :: r)) (hv : 9223372036854775808 ≤ valFrom 0 (c :: r)) : tokInt (c :: r ++ u) = .error 11 := by
  by_cases h : digs u
  · have hb : Lib.parseIntB 64 (c :: r ++ u) = .range := parseInt_big (c := c) (r := r ++ u) (digs_append hd h) (by
      rw [← List.cons_append, valFrom_append]
      exact Nat.le_trans hv (valFrom_ge _ _))
    unfold tokInt
    split
    · rfl
    · rw [hb]
  · obtain ⟨u1, d, u2, rfl, hn⟩ := odd_in h
    have := tokInt_odd (r := r ++ u1) (u := u2) (digs_cons hd).1 hn
    simpa using this
theorem take_more {l : Bs} {k : Nat} {d : UInt8} (h : l[k]? = some d) : l.take (k + 1) = l.take k ++ [d] := by rw [List.take_add_one, h]; rfl
theorem digs_more {l : Bs} {k n : Nat} {d : UInt8} (h : l[k]? = some d) (hg : digs (l.take k) ∧ valFrom 0 (l.take k) = n) (hd : 48 ≤ d.toNat ∧ d.toNat ≤ 57) : digs (l.take (k + 1)) ∧ valFrom 0 (l.take (k + 1)) = n * 10 + (d.toNat - 48) := by
  rw [take_more h]
  refine ⟨digs_append hg.1 ?_, ?_⟩
  · intro x hx
    rw [List.mem_singleton] at hx
    rw [hx]; exact hd
  · rw [valFrom_append, hg.2, valFrom_cons, valFrom_nil]
theorem num_over {l : Bs} {k n : Nat} {c d : UInt8} {u : Bs} (hl : l = c :: u) (h : l[k]? = some d) (hg : digs (l.take k) ∧ valFrom 0 (l.take k) = n) (hd : 48 ≤ d.toNat ∧ d.toNat ≤ 57) (ho : 9223372036854775808 ≤ n * 10 + (d.toNat - 48)) : tokInt l = .error 11 := by
  obtain ⟨h1, h2⟩ := digs_more h hg hd
  have e : l = l.take (k + 1) ++ l.drop (k + 1) := (List.take_append_drop _ _).symm
  have e2 : l.take (k + 1) = c :: u.take k := by rw [hl, List.take_succ_cons]
  rw [e, e2]
  rw [e2] at h1 h2
  exact tokInt_over h1 (by rw [h2]; exact ho)
theorem num_odd {l : Bs} {k : Nat} {c d : UInt8} {u : Bs} (hl : l = c :: u) (hc : 48 ≤ c.toNat ∧ c.toNat ≤ 57) (h : l[k]? = some d) (hd : ¬ (48 ≤ d.toNat ∧ d.toNat ≤ 57)) : tokInt l = .error 11 := by
  cases k with
  | zero =>
    rw [hl] at h
    simp at h
    rw [h] at hc
    exact absurd hc hd
  | succ j =>
    rw [hl, List.getElem?_cons_succ] at h
    obtain ⟨hj, hjd⟩ := List.getElem?_eq_some_iff.1 h
    have e : u = u.take j ++ d :: u.drop (j + 1) := by
      rw [← hjd, ← List.drop_eq_getElem_cons hj, List.take_append_drop]
    rw [hl, e]
    exact tokInt_odd (r := u.take j) (u := u.drop (j + 1)) hc hd
theorem num_end {l : Bs} {n : Nat} {c : UInt8} {u : Bs} (hl : l = c :: u) (hg : digs l ∧ valFrom 0 l = n) (hn : n ≤ 9223372036854775807) : tokInt l = if 1 < l.length ∧ c.toNat = 48 then .error 11 else .ok ⟨2, [], (n : Int), l.length⟩ := by
  subst hl
  unfold tokInt
  have e : (1 < (c :: u).length ∧ (c :: u).head? = some 48) ↔ (1 < (c :: u).length ∧ c.toNat = 48) := by
    constructor
    · rintro ⟨a, b⟩
      simp at b
      exact ⟨a, by rw [b]; rfl⟩
    · rintro ⟨a, b⟩
      refine ⟨a, ?_⟩
      have : c = 48 := UInt8.toNat_inj.1 b
      rw [this]
      rfl
  by_cases h : 1 < (c :: u).length ∧ c.toNat = 48
  · rw [if_pos (e.2 h), if_pos h]
  · rw [if_neg (fun x => h (e.1 x)), if_neg h, parseInt_digs hg.1 (by rw [hg.2]; omega), hg.2]
end Sp

theorem byte_get (s : ByteArray) (k : Nat) (h : k < s.size) : s.data.toList[k]? = some s[k] := by
  rw [List.getElem?_eq_getElem (by rw [size_list]; exact h)]
  rfl

set_option maxHeartbeats 4000000 in
set_option maxRecDepth 100000 in
theorem rnumber_any (s : ByteArray) (hs : s.size ≤ 1000000) (h0 : 0 < s.size) (hd0 : Sp.isDig s[0] = true) (w : World) : Calls Tryz.prog 47 #[.string s] w fun e w' => (∃ v ok, e = .returned (.tuple #[.int .i64 v, .bool ok]) ∧ Hid (Sp.tokInt s.data.toList = if ok then .ok ⟨2, [], v, s.size⟩ else .error 11)) ∧ ∃ q, w' = w.drewN q := by
  have hb0 := s[0].toNat_lt
  have hdd : 48 ≤ s[0].toNat ∧ s[0].toNat ≤ 57 := by simpa [Sp.isDig] using hd0
  have hl0 := get_drop s 0 h0
  simp only [List.drop_zero] at hl0
  have HL0 := Lib.hid hl0
  have HD0 := Lib.hid hdd
  clear hl0 hdd hd0
  go_enter Tryz.func47, Tryz.ntmps47
  go_wp2_with fail
  go_loop [4, 5] (fun v4 v5 => ∃ k n : Nat, v4 = .int .i64 (n : Int) ∧ v5 = .int .i64 k ∧ k ≤ s.size ∧ n ≤ 9223372036854775807 ∧ Hid (Sp.digs (s.data.toList.take k) ∧ Sp.valFrom 0 (s.data.toList.take k) = n)) (fun _ v5 => s.size - (intOf v5).toNat)
  case atStart => exact ⟨0, 0, rfl, rfl, Nat.zero_le _, by omega, by show _ ∧ _; exact ⟨fun x hx => by simp at hx, by rw [List.take_zero]; rfl⟩⟩
  case round =>
    obtain ⟨k, n, rfl, rfl, hk, hn, HW⟩ := hrel
    by_cases hlt : k < s.size
    · have hkl := byte_get s k hlt
      have hc0 := s[k].toNat_lt
      obtain ⟨bd, HB⟩ := hid_ex (Sp.isDig s[k])
      cases bd with
      | false =>
        have hnd : ¬ (48 ≤ s[k].toNat ∧ s[k].toNat ≤ 57) := by
          intro h
          have := HB.out
          simp [Sp.isDig] at this
          omega
        have HN : Hid (Sp.tokInt s.data.toList = if false = true then .ok ⟨2, [], 0, s.size⟩ else .error 11) := by
          show _ = _
          rw [Sp.num_odd HL0.out HD0.out hkl hnd]
          rfl
        have hw0 : IntKind.i64.wrap ((s[k].toNat : Int) - 48) = (s[k].toNat : Int) - 48 := IntWalk.i64_in _ (by omega)
        clear hnd hkl HW
        go_wp2_with (go_at_call 46; refine (rdigit_is HB _).mono ?_; rintro e w' ⟨rfl, rfl⟩)
        go_ret2
        exact ⟨⟨_, false, rfl, HN⟩, 0, rfl⟩
      | true =>
        have hcd : 48 ≤ s[k].toNat ∧ s[k].toNat ≤ 57 := by have := HB.out; simpa [Sp.isDig] using this
        obtain ⟨x, HX⟩ := hid_ex (s[k].toNat - 48)
        have hx9 : x ≤ 9 := by rw [← HX.out]; omega
        have hxd : (s[k].toNat : Int) - 48 = (x : Int) := by rw [← HX.out]; omega
        have hw0 : IntKind.i64.wrap ((s[k].toNat : Int) - 48) = (x : Int) := by rw [hxd]; exact IntWalk.i64_in _ (by omega)
        have hw1 : IntKind.i64.wrap (9223372036854775807 - (x : Int)) = 9223372036854775807 - (x : Int) := IntWalk.i64_in _ (by omega)
        obtain ⟨q, HQ⟩ := hid_ex ((9223372036854775807 - x) / 10)
        have hq0 : q ≤ 922337203685477580 := by rw [← HQ.out]; omega
        have hw2 : (9223372036854775807 - (x : Int)).tdiv 10 = (q : Int) := by rw [← HQ.out, Int.tdiv_eq_ediv_of_nonneg (by omega)]; omega
        have hw2' : (9223372036854775807 - (x : Int)) / 10 = (q : Int) := by rw [← HQ.out]; omega
        have hw3 : IntKind.i64.wrap (q : Int) = (q : Int) := IntWalk.i64_in _ (by omega)
        by_cases hov : q < n
        · have HN : Hid (Sp.tokInt s.data.toList = if false = true then .ok ⟨2, [], 0, s.size⟩ else .error 11) := by
            show _ = _
            rw [Sp.num_over HL0.out hkl HW.out hcd (by rw [HX.out]; rw [← HQ.out] at hov; omega)]
            rfl
          clear hcd hkl HW HX HQ
          go_wp2_with (go_at_call 46; refine (rdigit_is HB _).mono ?_; rintro e w' ⟨rfl, rfl⟩)
          go_ret2
          exact ⟨⟨_, false, rfl, HN⟩, 0, rfl⟩
        · obtain ⟨m, HM⟩ := hid_ex (n * 10)
          obtain ⟨z, HZ⟩ := hid_ex (m + x)
          have hz1 : z ≤ 9223372036854775807 := by
            have h1 := HQ.out
            have h2 := HZ.out
            have h3 := HM.out
            omega
          have hmz : m ≤ z := by rw [← HZ.out]; omega
          have hw4 : (n : Int) * 10 = (m : Int) := by rw [← HM.out]; omega
          have hw5 : IntKind.i64.wrap ((n : Int) * 10) = (m : Int) := by rw [hw4]; exact IntWalk.i64_in _ (by omega)
          have hw6 : (m : Int) + (x : Int) = (z : Int) := by rw [← HZ.out]; omega
          have hw7 : IntKind.i64.wrap ((m : Int) + (x : Int)) = (z : Int) := by rw [hw6]; exact IntWalk.i64_in _ (by omega)
          have HN : Hid (Sp.digs (s.data.toList.take (k + 1)) ∧ Sp.valFrom 0 (s.data.toList.take (k + 1)) = z) := by
            have := Sp.digs_more hkl HW.out hcd
            rw [HX.out, HM.out, HZ.out] at this
            exact this
          clear hcd hkl HW HX HQ HM HZ
          go_wp2_with (go_at_call 46; refine (rdigit_is HB _).mono ?_; rintro e w' ⟨rfl, rfl⟩)
          refine ⟨⟨k + 1, z, rfl, by go_num, by omega, hz1, HN⟩, by simp [intOf]; omega⟩
    · have HN : Hid (Sp.tokInt s.data.toList = if 1 < s.size ∧ s[0].toNat = 48 then .error 11 else .ok ⟨2, [], (n : Int), s.size⟩) := by
        show _ = _
        have h := HW.out
        rw [List.take_of_length_le (by rw [size_list]; omega)] at h
        rw [Sp.num_end HL0.out h hn, size_list]
      clear HW HL0 HD0
      by_cases h1 : s.size = 1
      · have g1 : ((s.size : Int) == 1) = true := by simp; omega
        have HN2 : Hid (Sp.tokInt s.data.toList = if true = true then .ok ⟨2, [], (n : Int), s.size⟩ else .error 11) := by
          show _ = _
          rw [HN.out, if_neg (by omega), if_pos rfl]
        clear HN
        go_wp2_with fail
        go_quiet (fail)
        go_wp2_with fail
        go_ret2
        exact ⟨⟨_, true, rfl, HN2⟩, _, rfl⟩
      · have g1 : ((s.size : Int) == 1) = false := by simp; omega
        by_cases h48 : s[0].toNat = 48
        · have g48 : ((s[0].toNat : Int) != 48) = false := by simp; omega
          have HN2 : Hid (Sp.tokInt s.data.toList = if false = true then .ok ⟨2, [], (n : Int), s.size⟩ else .error 11) := by
            show _ = _
            rw [HN.out, if_pos ⟨by omega, h48⟩, if_neg (by simp)]
          clear HN h48
          go_wp2_with fail
          go_quiet (fail)
          go_wp2_with fail
          go_ret2
          exact ⟨⟨_, false, rfl, HN2⟩, _, rfl⟩
        · have g48 : ((s[0].toNat : Int) != 48) = true := by simp; omega
          have HN2 : Hid (Sp.tokInt s.data.toList = if true = true then .ok ⟨2, [], (n : Int), s.size⟩ else .error 11) := by
            show _ = _
            rw [HN.out, if_neg (by omega), if_pos rfl]
          clear HN h48
          go_wp2_with fail
          go_quiet (fail)
          go_wp2_with fail
          go_ret2
          exact ⟨⟨_, true, rfl, HN2⟩, _, rfl⟩
theorem rnumber_ok {s : ByteArray} {t : Sp.Tk} (h : Hid (Sp.tokInt s.data.toList = .ok t)) (hs : s.size ≤ 1000000) (h0 : 0 < s.size) (hd0 : Sp.isDig s[0] = true) (w : World) : Calls Tryz.prog 47 #[.string s] w fun e w' => e = .returned (.tuple #[.int .i64 t.num, .bool true]) ∧ ∃ q, w' = w.drewN q := by
  refine (rnumber_any s hs h0 hd0 w).mono ?_
  rintro e w' ⟨⟨v, ok, rfl, hh⟩, hw⟩
  refine ⟨?_, hw⟩
  have := hh.out
  rw [h.out] at this
  cases ok with
  | true => rw [if_pos rfl] at this; cases this; rfl
  | false => rw [if_neg (by simp)] at this; cases this
theorem rnumber_err {s : ByteArray} {er : Int} (h : Hid (Sp.tokInt s.data.toList = .error er)) (hs : s.size ≤ 1000000) (h0 : 0 < s.size) (hd0 : Sp.isDig s[0] = true) (w : World) : Calls Tryz.prog 47 #[.string s] w fun e w' => (∃ v, e = .returned (.tuple #[.int .i64 v, .bool false])) ∧ ∃ q, w' = w.drewN q := by
  refine (rnumber_any s hs h0 hd0 w).mono ?_
  rintro e w' ⟨⟨v, ok, rfl, hh⟩, hw⟩
  refine ⟨⟨v, ?_⟩, hw⟩
  have := hh.out
  rw [h.out] at this
  cases ok with
  | true => rw [if_pos rfl] at this; cases this
  | false => rfl
end Go.Proofs.YtbdjccmcdifjcaaGreatDoor

set_option linter.unusedVariables false
set_option linter.unusedSimpArgs false
namespace Go.Proofs.YtbdjccmcdifjcaaGreatDoor
open Go.RowKit Go.Shelf

namespace Sp
/-- The longest one of these with which s begins, if it is longer than b. -/
def best (s : Bs) : List Bs → Bs → Bs
  | [], b => b
  | o :: r, b => best s r (if b.length < o.length ∧ o.isPrefixOf s then o else b)
theorem best_mem (s : Bs) : ∀ (L : List Bs) (b : Bs), (best s L b = b ∨ (best s L b ∈ L ∧ (best s L b).isPrefixOf s = true)) ∧ b.length ≤ (best s L b).length ∧ ∀ o ∈ L, o.isPrefixOf s = true → o.length ≤ (best s L b).length := by
  intro L
  induction L with
  | nil => intro b; exact ⟨Or.inl rfl, Nat.le_refl _, fun o ho => by cases ho⟩
  | cons o r ih =>
    intro b
    rw [best]
    by_cases h : b.length < o.length ∧ o.isPrefixOf s = true
    · rw [if_pos h]
      obtain ⟨h1, h2, h3⟩ := ih o
      refine ⟨Or.inr ?_, by omega, ?_⟩
      · rcases h1 with h1 | ⟨h1, h4⟩
        · rw [h1]; exact ⟨by simp, h.2⟩
        · exact ⟨List.mem_cons_of_mem _ h1, h4⟩
      · intro x hx hp
        rcases List.mem_cons.1 hx with rfl | hx
        · exact h2
        · exact h3 x hx hp
    · rw [if_neg h]
      obtain ⟨h1, h2, h3⟩ := ih b
      refine ⟨?_, h2, ?_⟩
      · rcases h1 with h1 | ⟨h1, h4⟩
        · exact Or.inl h1
        · exact Or.inr ⟨List.mem_cons_of_mem _ h1, h4⟩
      · intro x hx hp
        rcases List.mem_cons.1 hx with rfl | hx
        · have : ¬ b.length < x.length := fun y => h ⟨y, hp⟩
          omega
        · exact h3 x hx hp
def opV (s : Bs) : Bs := (opsL.find? (·.isPrefixOf s)).getD []
theorem ref_in_ops : ∀ o ∈ refL, o ∈ opsL := by decide
theorem ops_in_ref : ∀ o ∈ opsL, o ∈ refL := by decide
theorem ops_down : opsL.Pairwise (fun a b => b.length ≤ a.length) := by decide
theorem ops_long : ∀ o ∈ opsL, 1 ≤ o.length := by decide
theorem best_ops (s : Bs) : best s refL [] = opV s := by
  obtain ⟨h1, _, h3⟩ := best_mem s refL []
  unfold opV
  cases hf : opsL.find? (·.isPrefixOf s) with
  | none =>
    rcases h1 with h1 | ⟨h1, h4⟩
    · exact h1
    · have := List.find?_eq_none.1 hf _ (ref_in_ops _ h1)
      exact absurd h4 this
  | some o =>
    have hm : o ∈ opsL := List.mem_of_find?_eq_some hf
    have hp0 := List.find?_some hf
    have hp : o.isPrefixOf s = true := hp0
    have hl := h3 o (ops_in_ref o hm) hp
    have h1l := ops_long o hm
    rcases h1 with h1 | ⟨h1, h4⟩
    · rw [h1] at hl
      simp at hl
      rw [hl] at h1l
      simp at h1l
    · obtain ⟨_, l1, l2, he, hno⟩ := List.find?_eq_some_iff_append.1 hf
      have hin := ref_in_ops _ h1
      have hdn := ops_down
      rw [he] at hin hdn
      have hle : (best s refL []).length ≤ o.length := by
        rcases List.mem_append.1 hin with hin | hin
        · have := hno _ hin
          rw [h4] at this
          simp at this
        · rcases List.mem_cons.1 hin with hin | hin
          · rw [hin]; exact Nat.le_refl _
          · exact (List.pairwise_cons.1 (List.pairwise_append.1 hdn).2.1).1 _ hin
      show best s refL [] = o
      have p1 := List.isPrefixOf_iff_prefix.1 h4
      have p2 := List.isPrefixOf_iff_prefix.1 hp
      exact (List.prefix_of_prefix_length_le p1 p2 hle).eq_of_length (by omega)
theorem tokOp_opV (s : Bs) : tokOp s = if opV s = [] then .error 10 else .ok ⟨4, opV s, 0, (opV s).length⟩ := by
  unfold tokOp opsFrom opV
  rw [List.drop_zero]
  cases hf : opsL.find? (·.isPrefixOf s) with
  | none => rfl
  | some o =>
    have h1l := ops_long o (List.mem_of_find?_eq_some hf)
    have : ¬ o = [] := by intro e; rw [e] at h1l; simp at h1l
    show _ = if o = [] then _ else _
    rw [if_neg this]
    rfl
/-- That a text begins with another, by its first bytes. -/
theorem prefix_take (o s : Bs) : o.isPrefixOf s = (decide (o.length ≤ s.length) && decide (s.take o.length = o)) := by
  rw [Bool.eq_iff_iff]
  simp only [Bool.and_eq_true, decide_eq_true_eq]
  rw [List.isPrefixOf_iff_prefix]
  constructor
  · intro h
    exact ⟨h.length_le, (List.prefix_iff_eq_take.1 h).symm⟩
  · rintro ⟨_, h⟩
    rw [← h]
    exact List.take_prefix _ _
end Sp

set_option maxHeartbeats 8000000 in
set_option maxRecDepth 100000 in
theorem rop_any (s : ByteArray) (hs : s.size ≤ 1000000) (w : World) : Calls Tryz.prog 49 #[.string s] w fun e w' => e = .returned (.string ⟨(Sp.opV s.data.toList).toArray⟩) ∧ Below w.heap.size w w' := by
  go_enter Tryz.func49, Tryz.ntmps49
  go_wp2_with fail
  refine (ops_ref w).mono ?_
  rintro e w1 ⟨rfl, hw1⟩
  have hb1 : Below w.heap.size w w1 := by rw [hw1]; exact (Below.refl _ w).alloc (Nat.le_refl _) _
  have HC : Hid (∀ j l, Sp.refL[j]? = some l → ∀ q, (w1.drewN q).cell? ⟨w.heap.size, j, none⟩ = some (.string ⟨l.toArray⟩)) := by
    intro j l h q
    rw [hw1]
    exact text_cell w _ _ ref_list j l h
  clear hw1
  go_wp2_with fail
  go_loopw [3, 5] (fun v3 v5 wr => ∃ (k : Nat) (b : ByteArray), v3 = .string b ∧ v5 = .int .i64 k ∧ k ≤ 28 ∧ Hid (Sp.best s.data.toList (Sp.refL.drop k) b.data.toList = Sp.opV s.data.toList) ∧ b.size ≤ 3 ∧ ∃ q, wr = w1.drewN q) (fun _ v5 _ => 28 - (intOf v5).toNat)
  case atStart => exact ⟨0, ⟨#[]⟩, rfl, rfl, by omega, by show _ = _; exact Sp.best_ops _, by decide, 0, rfl⟩
  case round =>
    obtain ⟨k, b, rfl, rfl, hk, HW, hb3, q, rfl⟩ := hrel
    by_cases hlt : k < 28
    · have hl : k < Sp.refL.length := hlt
      obtain ⟨l, hll⟩ : ∃ l, Sp.refL[k]? = some l := ⟨_, List.getElem?_eq_getElem hl⟩
      have hc := HC.out k l hll
      have hd : Sp.refL.drop k = l :: Sp.refL.drop (k + 1) := by
        have e := List.drop_eq_getElem_cons hl
        rw [e]
        congr 1
        rw [List.getElem?_eq_getElem hl] at hll
        exact Option.some.inj hll
      have hsz := List.all_eq_true.1 Sp.ref_sizes l (List.mem_of_getElem? hll)
      simp only [Bool.and_eq_true, decide_eq_true_eq] at hsz
      obtain ⟨tb, htb⟩ : ∃ tb : ByteArray, tb = ⟨l.toArray⟩ := ⟨_, rfl⟩
      have htl : tb.data.toList = l := by rw [htb]
      rw [← htb] at hc
      have hts : tb.size = l.length := by rw [← htl, size_list]
      rw [← hts] at hsz
      obtain ⟨hsz1, hsz3⟩ := hsz
      have HST : Hid (Sp.best s.data.toList (Sp.refL.drop (k + 1)) (if b.size < tb.size ∧ tb.data.toList.isPrefixOf s.data.toList then tb.data.toList else b.data.toList) = Sp.opV s.data.toList) := by
        show _ = _
        rw [← HW.out, hd, Sp.best, htl, hts, size_list]
      have hcq := hc q
      have hc0 := hc 0
      have hcw : w1.cell? ⟨w.heap.size, k, none⟩ = some (.string tb) := hc0
      have HPT := Sp.prefix_take tb.data.toList s.data.toList
      rw [size_list, size_list] at HPT
      have hex : (s.extract 0 tb.size).data.toList = s.data.toList.take tb.size := by rw [extract_list]; simp
      rw [← hex, ← Sp.toList_data (s.extract 0 tb.size), ← Sp.toList_data tb] at HPT
      have HPT' := Lib.hid HPT
      clear hll hd htb htl hts HW HPT hex hc hc0
      by_cases g1 : b.size < tb.size
      · by_cases g2 : tb.size ≤ s.size
        · cases g3 : ((s.extract 0 tb.size).toList == tb.toList) with
          | true =>
            have HN : Hid (Sp.best s.data.toList (Sp.refL.drop (k + 1)) tb.data.toList = Sp.opV s.data.toList) := by
              show _ = _
              rw [← HST.out, if_pos ⟨g1, by rw [← Sp.toList_data tb, HPT'.out]; simp [g2]; simpa using g3⟩]
            clear HST HPT' HC
            go_wp2_with fail
            go_quiet (fail)
            go_wp2_with fail
            go_roundw
            case rel => exact ⟨k + 1, tb, rfl, by go_num, by omega, HN, hsz3, _, rfl⟩
            case measure => simp [intOf]; omega
          | false =>
            have HN : Hid (Sp.best s.data.toList (Sp.refL.drop (k + 1)) b.data.toList = Sp.opV s.data.toList) := by
              show _ = _
              rw [← HST.out, if_neg ?_]
              rintro ⟨_, h⟩
              rw [← Sp.toList_data tb, HPT'.out] at h
              simp at h g3
              exact g3 h.2
            clear HST HPT' HC
            go_wp2_with fail
            go_quiet (fail)
            go_wp2_with fail
            go_roundw
            case rel => exact ⟨k + 1, b, rfl, by go_num, by omega, HN, hb3, _, rfl⟩
            case measure => simp [intOf]; omega
        · have HN : Hid (Sp.best s.data.toList (Sp.refL.drop (k + 1)) b.data.toList = Sp.opV s.data.toList) := by
            show _ = _
            rw [← HST.out, if_neg ?_]
            rintro ⟨_, h⟩
            rw [← Sp.toList_data tb, HPT'.out] at h
            simp at h
            exact g2 h.1
          clear HST HPT' HC
          go_wp2_with fail
          go_quiet (fail)
          go_wp2_with fail
          go_roundw
          case rel => exact ⟨k + 1, b, rfl, by go_num, by omega, HN, hb3, _, rfl⟩
          case measure => simp [intOf]; omega
      · have HN : Hid (Sp.best s.data.toList (Sp.refL.drop (k + 1)) b.data.toList = Sp.opV s.data.toList) := by
          show _ = _
          rw [← HST.out, if_neg (fun h => g1 h.1)]
        clear HST HPT' HC
        go_wp2_with fail
        go_quiet (fail)
        go_wp2_with fail
        go_roundw
        case rel => exact ⟨k + 1, b, rfl, by go_num, by omega, HN, hb3, _, rfl⟩
        case measure => simp [intOf]; omega
    · have HN : Hid ((⟨(Sp.opV s.data.toList).toArray⟩ : ByteArray) = b) := by
        show _ = _
        rw [← HW.out, List.drop_of_length_le (by show 28 ≤ k; omega)]
        show (⟨b.data.toList.toArray⟩ : ByteArray) = b
        exact toArray_data b
      clear HW HC
      go_wp2_with fail
      go_ret
      exact ⟨ret_str HN.out.symm, below_drewN hb1 q⟩
theorem rop_is {s b : ByteArray} (h : Hid ((⟨(Sp.opV s.data.toList).toArray⟩ : ByteArray) = b)) (hs : s.size ≤ 1000000) (w : World) : Calls Tryz.prog 49 #[.string s] w fun e w' => e = .returned (.string b) ∧ Below w.heap.size w w' := by
  rw [← h.out]; exact rop_any s hs w
end Go.Proofs.YtbdjccmcdifjcaaGreatDoor

set_option linter.unusedVariables false
set_option linter.unusedSimpArgs false
namespace Go.Proofs.YtbdjccmcdifjcaaGreatDoor
open Go.RowKit Go.Shelf

theorem tokEnd_ok (k n : Int) (sz : Nat) (tb : ByteArray) : TokEnd (.ok ⟨k, tb.data.toList, n, sz⟩) (.returned (.tuple #[.agg #[.int .i64 k, .int .i64 0, .string tb, .int .i64 n], .int .i64 sz, .int .i64 0])) := by
  show Ending.returned _ = Ending.returned (.tuple #[.agg #[.int .i64 k, .int .i64 0, .string ⟨tb.data.toList.toArray⟩, .int .i64 n], .int .i64 sz, .int .i64 0])
  rw [toArray_data]
theorem tokEnd_err (er : Int) : TokEnd (.error er) (.returned (.tuple #[.agg #[.int .i64 0, .int .i64 0, .string ⟨#[]⟩, .int .i64 0], .int .i64 0, .int .i64 er])) := rfl
theorem Sp.tokInt_form {l : Sp.Bs} {t : Sp.Tk} (h : Sp.tokInt l = .ok t) : t = ⟨2, [], t.num, l.length⟩ := by
  unfold Sp.tokInt at h
  split at h
  · cases h
  · split at h
    · cases h; rfl
    · cases h
theorem Sp.tokInt_err {l : Sp.Bs} {er : Int} (h : Sp.tokInt l = .error er) : er = 11 := by
  unfold Sp.tokInt at h
  split at h
  · cases h; rfl
  · split at h
    · cases h
    · cases h; rfl

set_option maxHeartbeats 8000000 in
set_option maxRecDepth 100000 in
theorem one_any (s : ByteArray) (hs : s.size ≤ 60000) (h0 : 0 < s.size) (w : World) :
    Calls Tryz.prog 29 #[.string s] w fun e w' => TokEnd (Sp.tok1 s.data.toList) e ∧ Below w.heap.size w w' := by
  have hs6 : s.size ≤ 1000000 := by omega
  have hbel0 : Below w.heap.size w (w.alloc (Obj.cells #[.int .i64 0, .int .i64 0, .string ⟨#[]⟩, .int .i64 0] 37)) := (Below.refl _ w).alloc (Nat.le_refl _) _
  have hc0 := s[0].toNat_lt
  have hwl := Sp.wordLen_le s.data.toList
  rw [size_list] at hwl
  have ht := tok1_cons s h0
  obtain ⟨m, HM⟩ := hid_ex (Sp.wordLen s.data.toList)
  rw [HM.out] at hwl ht
  obtain ⟨xb, HXB⟩ := hid_ex (s.extract 0 m)
  have hxs : xb.size = m := by rw [← HXB.out]; simp [ByteArray.size_extract]; omega
  have hxl : s.extract 0 m = xb := HXB.out
  rw [hxl] at ht
  have hs1 : (s.extract 1 s.size).data.toList = s.data.toList.drop 1 := Lib.extract_to_end s 1
  rw [hs1] at ht
  clear hs1
  cases hbl : Sp.isLet s[0] with
  | true =>
    have HL : Hid (Sp.isLet s[0] = true) := hbl
    obtain ⟨_, _, f3, f4, f5⟩ := Sp.isLet_facts hbl
    rw [if_neg f3, f4, if_neg (by simp), f5, if_pos rfl] at ht
    have HT : Hid (Sp.tok1 s.data.toList = .ok ⟨1, xb.data.toList, 0, m⟩) := by
      show _ = _
      rw [ht]; unfold Sp.tokName; rw [size_list, hxs]
    clear ht hbl f3 f4 f5 HXB
    go_enter Tryz.func29, Tryz.ntmps29
    go_wp2_with (first | (go_at_call 44; refine (rletter_is HL _).mono ?_; rintro e w' ⟨rfl, rfl⟩) | (go_at_call 45; refine (rwords_is HM hs6 _).mono ?_; rintro e w' ⟨rfl, rfl⟩))
    refine bodyPost_ret (v := .tuple #[.agg #[.int .i64 1, .int .i64 0, .string xb, .int .i64 0], .int .i64 m, .int .i64 0]) (by simp [results, Tryz.results29, go_sem]) rfl ⟨?_, ?_⟩
    · rw [HT.out]; exact tokEnd_ok 1 0 m xb
    · exact (Below.refl _ w).alloc (Nat.le_refl _) _
  | false =>
    have HL : Hid (Sp.isLet s[0] = false) := hbl
    cases hbd : Sp.isDig s[0] with
    | true =>
      have HD : Hid (Sp.isDig s[0] = true) := hbd
      have hdd : 48 ≤ s[0].toNat ∧ s[0].toNat ≤ 57 := by simpa [Sp.isDig] using hbd
      rw [if_neg (by omega), hbd, if_pos rfl] at ht
      have hm0 : 0 < m := by
        have hd := get_drop s 0 h0
        simp only [List.drop_zero] at hd
        have : Sp.isWd s[0] = true := by simp [Sp.isWd, hbd]
        rw [← HM.out, hd, Sp.wordLen, if_pos this]
        omega
      have hx0 : 0 < xb.size := by omega
      have hxd : Sp.isDig xb[0] = true := by
        have : xb[0] = s[0] := by
          have e1 := get_drop xb 0 hx0
          have e2 := get_drop s 0 h0
          simp only [List.drop_zero] at e1 e2
          have e3 : xb.data.toList = s.data.toList.take m := by rw [← HXB.out, extract_list]; simp
          rw [e1, e2] at e3
          obtain ⟨j, rfl⟩ : ∃ j, m = j + 1 := ⟨m - 1, by omega⟩
          rw [List.take_succ_cons] at e3
          exact (List.cons.inj e3).1
        rw [this]; exact hbd
      cases hx : Sp.tokInt xb.data.toList with
      | error er =>
        obtain rfl := Sp.tokInt_err hx
        have HN : Hid (Sp.tokInt xb.data.toList = .error 11) := hx
        have HT : Hid (Sp.tok1 s.data.toList = .error 11) := by show _ = _; rw [ht, hx]
        have HXD := Lib.hid hxd
        clear ht hbl hbd hdd hx HXB hxd
        go_enter Tryz.func29, Tryz.ntmps29
        go_wp2_with (first | (go_at_call 44; refine (rletter_is HL _).mono ?_; rintro e w' ⟨rfl, rfl⟩) | (go_at_call 46; refine (rdigit_is HD _).mono ?_; rintro e w' ⟨rfl, rfl⟩) | (go_at_call 45; refine (rwords_is HM hs6 _).mono ?_; rintro e w' ⟨rfl, rfl⟩))
        refine (rnumber_err HN (by omega) hx0 HXD.out _).mono ?_
        rintro e w1 ⟨⟨v, rfl⟩, q, hw1⟩
        have hb1 : Below (w.alloc (Obj.cells #[.int .i64 0, .int .i64 0, .string ⟨#[]⟩, .int .i64 0] 37)).heap.size (w.alloc (Obj.cells #[.int .i64 0, .int .i64 0, .string ⟨#[]⟩, .int .i64 0] 37)) w1 := by rw [hw1]; exact below_drewN (Below.refl _ _) q
        have hT1 := (TokBlk.fresh w (.int .i64 0) (.int .i64 0) (.string ⟨#[]⟩) (.int .i64 0)).below hb1 (by simp)
        obtain ⟨c0, c1, c2, c3, f0, f1, f2, f3, z0, z1, z2, z3, hlt⟩ := hT1.facts
        have hbel1 := hbel0.trans (hb1.mono (by simp))
        clear hb1 hbel0 hw1
        go_wp2
        refine bodyPost_ret (v := .tuple #[.agg (tokVal 0 0 [] 0), .int .i64 0, .int .i64 11]) (by simp [results, Tryz.results29, go_sem, f0, f1, f2, f3, tokVal]) rfl ⟨?_, below4 hbel1⟩
        rw [HT.out]; exact tokEnd_err 11
      | ok t =>
        have htf := Sp.tokInt_form hx
        obtain ⟨n, Hn⟩ := hid_ex t.num
        rw [size_list, hxs, Hn.out] at htf
        have HN : Hid (Sp.tokInt xb.data.toList = .ok ⟨2, [], n, m⟩) := by show _ = _; rw [hx, htf]
        have HT : Hid (Sp.tok1 s.data.toList = .ok ⟨2, [], n, m⟩) := by show _ = _; rw [ht, hx, htf]
        have HXD := Lib.hid hxd
        clear ht hbl hbd hdd hx HXB hxd htf Hn
        go_enter Tryz.func29, Tryz.ntmps29
        go_wp2_with (first | (go_at_call 44; refine (rletter_is HL _).mono ?_; rintro e w' ⟨rfl, rfl⟩) | (go_at_call 46; refine (rdigit_is HD _).mono ?_; rintro e w' ⟨rfl, rfl⟩) | (go_at_call 45; refine (rwords_is HM hs6 _).mono ?_; rintro e w' ⟨rfl, rfl⟩))
        refine (rnumber_ok HN (by omega) hx0 HXD.out _).mono ?_
        rintro e w1 ⟨rfl, q, hw1⟩
        have hb1 : Below (w.alloc (Obj.cells #[.int .i64 0, .int .i64 0, .string ⟨#[]⟩, .int .i64 0] 37)).heap.size (w.alloc (Obj.cells #[.int .i64 0, .int .i64 0, .string ⟨#[]⟩, .int .i64 0] 37)) w1 := by rw [hw1]; exact below_drewN (Below.refl _ _) q
        have hT1 := (TokBlk.fresh w (.int .i64 0) (.int .i64 0) (.string ⟨#[]⟩) (.int .i64 0)).below hb1 (by simp)
        obtain ⟨c0, c1, c2, c3, f0, f1, f2, f3, z0, z1, z2, z3, hlt⟩ := hT1.facts
        have hbel1 := hbel0.trans (hb1.mono (by simp))
        clear hb1 hbel0 hw1
        go_wp2
        refine bodyPost_ret (v := .tuple #[.agg #[.int .i64 2, .int .i64 0, .string ⟨#[]⟩, .int .i64 n], .int .i64 m, .int .i64 0]) (by simp [results, Tryz.results29, go_sem, f0, f1, f2, f3]) rfl ⟨?_, below4 hbel1⟩
        rw [HT.out]; exact tokEnd_ok 2 n m ⟨#[]⟩
    | false =>
      have HD : Hid (Sp.isDig s[0] = false) := hbd
      by_cases hq : s[0].toNat = 39 ∨ s[0].toNat = 34
      · rw [if_pos hq] at ht
        have g : ((s[0].toNat : Int) == 39) = true ∨ (((s[0].toNat : Int) == 39) = false ∧ ((s[0].toNat : Int) == 34) = true) := by
          rcases hq with h | h
          · left; simp [h]
          · right; simp [h]
        cases hst : Sp.strAt s[0] (s.data.toList.drop 1) with
        | none =>
          have HS : Hid (Sp.strAt s[0] (s.data.toList.drop 1) = none) := hst
          have HT : Hid (Sp.tok1 s.data.toList = .error 12) := by
            show _ = _
            rw [ht]; unfold Sp.tokStr; rw [hst]
          clear ht hbl hbd hst hq HXB HM
          rcases g with g1 | ⟨g1, g2⟩
          all_goals
            go_enter Tryz.func29, Tryz.ntmps29
            go_wp2_with (first | (go_at_call 44; refine (rletter_is HL _).mono ?_; rintro e w' ⟨rfl, rfl⟩) | (go_at_call 46; refine (rdigit_is HD _).mono ?_; rintro e w' ⟨rfl, rfl⟩))
            refine (rstr_none h0 HS hs _).mono ?_
            rintro e w1 ⟨rfl, hb1⟩
            have hT1 := (TokBlk.fresh w (.int .i64 0) (.int .i64 0) (.string ⟨#[]⟩) (.int .i64 0)).below hb1 (by simp)
            obtain ⟨c0, c1, c2, c3, f0, f1, f2, f3, z0, z1, z2, z3, hlt⟩ := hT1.facts
            have hbel1 := hbel0.trans (hb1.mono (by simp))
            clear hb1 hbel0
            go_wp2
            refine bodyPost_ret (v := .tuple #[.agg (tokVal 0 0 [] 0), .int .i64 0, .int .i64 12]) (by simp [results, Tryz.results29, go_sem, f0, f1, f2, f3, tokVal]) rfl ⟨?_, below4 hbel1⟩
            rw [HT.out]; exact tokEnd_err 12
        | some x =>
          obtain ⟨t, n⟩ := x
          obtain ⟨tb, htb⟩ : ∃ tb : ByteArray, tb.data.toList = t := ⟨⟨t.toArray⟩, mk_list t⟩
          have hn := Sp.strAt_len s[0] (s.data.toList.drop 1).length (s.data.toList.drop 1) t n (Nat.le_refl _) hst
          rw [List.length_drop, size_list] at hn
          obtain ⟨_, hn2, hn3⟩ := hn
          have HS : Hid (Sp.strAt s[0] (s.data.toList.drop 1) = some (tb.data.toList, n)) := by show _ = _; rw [htb]; exact hst
          have HT : Hid (Sp.tok1 s.data.toList = .ok ⟨3, tb.data.toList, 0, n + 1⟩) := by
            show _ = _
            rw [ht]; unfold Sp.tokStr; rw [hst]
            simp only []
            rw [if_pos (by omega), htb]
          clear ht hbl hbd hst hq HXB HM htb
          rcases g with g1 | ⟨g1, g2⟩
          all_goals
            go_enter Tryz.func29, Tryz.ntmps29
            go_wp2_with (first | (go_at_call 44; refine (rletter_is HL _).mono ?_; rintro e w' ⟨rfl, rfl⟩) | (go_at_call 46; refine (rdigit_is HD _).mono ?_; rintro e w' ⟨rfl, rfl⟩))
            refine (rstr_some h0 HS hs _).mono ?_
            rintro e w1 ⟨rfl, hb1⟩
            have hT1 := (TokBlk.fresh w (.int .i64 0) (.int .i64 0) (.string ⟨#[]⟩) (.int .i64 0)).below hb1 (by simp)
            obtain ⟨c0, c1, c2, c3, f0, f1, f2, f3, z0, z1, z2, z3, hlt⟩ := hT1.facts
            have hbel1 := hbel0.trans (hb1.mono (by simp))
            clear hb1 hbel0
            go_wp2
            refine bodyPost_ret (v := .tuple #[.agg #[.int .i64 3, .int .i64 0, .string tb, .int .i64 0], .int .i64 ((n : Int) + 1), .int .i64 0]) (by simp [results, Tryz.results29, go_sem, f0, f1, f2, f3]) rfl ⟨?_, below4 hbel1⟩
            rw [HT.out]; exact tokEnd_ok 3 0 (n + 1) tb
      · have hnw : Sp.isWd s[0] = false := by unfold Sp.isWd; rw [hbl, hbd]; rfl
        rw [if_neg hq, hbd, if_neg (by simp), hnw, if_neg (by simp), Sp.tokOp_opV] at ht
        have g39 : ((s[0].toNat : Int) == 39) = false := by simp; omega
        have g34 : ((s[0].toNat : Int) == 34) = false := by simp; omega
        obtain ⟨b, hbb⟩ : ∃ b : ByteArray, b.data.toList = Sp.opV s.data.toList := ⟨⟨(Sp.opV s.data.toList).toArray⟩, mk_list _⟩
        have HB : Hid ((⟨(Sp.opV s.data.toList).toArray⟩ : ByteArray) = b) := by show _ = _; rw [← hbb, toArray_data]
        rw [← hbb] at ht
        cases hbe : b.toList.isEmpty with
        | true =>
          have HT : Hid (Sp.tok1 s.data.toList = .error 10) := by
            show _ = _
            rw [ht, if_pos (by rw [← Sp.toList_data]; simpa using hbe)]
          clear ht hbl hbd hq hbb HXB HM hnw
          go_enter Tryz.func29, Tryz.ntmps29
          go_wp2_with (first | (go_at_call 44; refine (rletter_is HL _).mono ?_; rintro e w' ⟨rfl, rfl⟩) | (go_at_call 46; refine (rdigit_is HD _).mono ?_; rintro e w' ⟨rfl, rfl⟩))
          refine (rop_is HB hs6 _).mono ?_
          rintro e w1 ⟨rfl, hb1⟩
          have hT1 := (TokBlk.fresh w (.int .i64 0) (.int .i64 0) (.string ⟨#[]⟩) (.int .i64 0)).below hb1 (by simp)
          obtain ⟨c0, c1, c2, c3, f0, f1, f2, f3, z0, z1, z2, z3, hlt⟩ := hT1.facts
          have hbel1 := hbel0.trans (hb1.mono (by simp))
          clear hb1 hbel0
          go_wp2
          refine bodyPost_ret (v := .tuple #[.agg (tokVal 0 0 [] 0), .int .i64 0, .int .i64 10]) (by simp [results, Tryz.results29, go_sem, f0, f1, f2, f3, tokVal]) rfl ⟨?_, below4 hbel1⟩
          rw [HT.out]; exact tokEnd_err 10
        | false =>
          have HT : Hid (Sp.tok1 s.data.toList = .ok ⟨4, b.data.toList, 0, b.size⟩) := by
            show _ = _
            rw [ht, if_neg (by rw [← Sp.toList_data]; intro e; rw [e] at hbe; simp at hbe), size_list]
          clear ht hbl hbd hq hbb HXB HM hnw
          go_enter Tryz.func29, Tryz.ntmps29
          go_wp2_with (first | (go_at_call 44; refine (rletter_is HL _).mono ?_; rintro e w' ⟨rfl, rfl⟩) | (go_at_call 46; refine (rdigit_is HD _).mono ?_; rintro e w' ⟨rfl, rfl⟩))
          refine (rop_is HB hs6 _).mono ?_
          rintro e w1 ⟨rfl, hb1⟩
          have hT1 := (TokBlk.fresh w (.int .i64 0) (.int .i64 0) (.string ⟨#[]⟩) (.int .i64 0)).below hb1 (by simp)
          obtain ⟨c0, c1, c2, c3, f0, f1, f2, f3, z0, z1, z2, z3, hlt⟩ := hT1.facts
          have hbel1 := hbel0.trans (hb1.mono (by simp))
          clear hb1 hbel0
          go_wp2
          refine bodyPost_ret (v := .tuple #[.agg #[.int .i64 4, .int .i64 0, .string b, .int .i64 0], .int .i64 b.size, .int .i64 0]) (by simp [results, Tryz.results29, go_sem, f0, f1, f2, f3]) rfl ⟨?_, below4 hbel1⟩
          rw [HT.out]; exact tokEnd_ok 4 0 b.size b

set_option maxHeartbeats 8000000 in
set_option maxRecDepth 100000 in
theorem rline_any (s : ByteArray) (hs : s.size ≤ 60000) (at_ : Int) (w : World) :
    Calls Tryz.prog 19 #[.string s, .int .i64 at_] w fun e w' => LineEnd w.heap.size at_ (Sp.lex s.data.toList) e w' ∧ Below w.heap.size w w' := by
  obtain ⟨i0, hi, hz0, hz1, hz2⟩ := info_parts infoTok
  go_enter Tryz.func19, Tryz.ntmps19
  go_wp2_with fail
  go_loopw [7, 8] (fun v7 v8 wr => ∃ (pos : Nat) (ts : List (Nat × Sp.Tk)), v8 = .int .i64 pos ∧ pos ≤ s.size ∧ ts.length ≤ pos ∧ TokRow w.heap.size at_ v7 ts wr ∧ Below w.heap.size w wr ∧ Hid (Sp.lex s.data.toList = Sp.ahead ts (Sp.lexAt pos (s.data.toList.drop pos)))) (fun _ v8 wr => s.size - (intOf v8).toNat)
  case atStart =>
    refine ⟨0, [], rfl, Nat.zero_le _, Nat.le_refl _, ?_, (Below.refl _ w).alloc (Nat.le_refl _) _, ?_⟩
    · exact row_lit w [] #[] rfl (by decide)
    · show _ = _
      rw [Sp.ahead_nil]
      rfl
  case round =>
    obtain ⟨pos, ts, rfl, hpos, htl, hrow, hbel, hx⟩ := hrel
    by_cases hlt : pos < s.size
    · have hd := get_drop s pos hlt
      by_cases h35 : s[pos].toNat = 35
      · have HN : Hid (Sp.lex s.data.toList = .ok ts) := by
          show _ = _
          rw [hx.out, hd, Sp.lexAt_hash _ _ _ h35]
          simp [Sp.ahead]
        have g35 : ((s[pos].toNat : Int) != 35) = false := by simp; omega
        clear hx hd h35
        go_wp2_with fail
        go_ret3
        refine ⟨?_, hbel⟩
        rw [HN.out]
        exact ⟨_, rfl, hrow⟩
      · have g35 : ((s[pos].toNat : Int) != 35) = true := by simp; omega
        by_cases h32 : s[pos].toNat = 32
        · have HN : Hid (Sp.lex s.data.toList = Sp.ahead ts (Sp.lexAt (pos + 1) (s.data.toList.drop (pos + 1)))) := by
            show _ = _
            rw [hx.out, hd, Sp.lexAt_blank _ _ _ h32]
          have g32 : ((s[pos].toNat : Int) == 32) = true := by simp; omega
          clear hx hd h32 h35
          go_wp2_with fail
          go_roundw
          case rel => exact ⟨pos + 1, ts, by go_num, by omega, by omega, hrow, hbel, HN⟩
          case measure => simp [intOf]; omega
        · have g32 : ((s[pos].toNat : Int) == 32) = false := by simp; omega
          have hxl : (s.extract pos s.size).data.toList = s.data.toList.drop pos := Lib.extract_to_end s pos
          have hxs : (s.extract pos s.size).size = s.size - pos := by simp [ByteArray.size_extract]
          have hT := fun w => one_any (s.extract pos s.size) (by omega) (by omega) w
          rw [hxl, hd] at hT
          rw [hd] at hx
          cases ht : Sp.tok1 (s[pos] :: s.data.toList.drop (pos + 1)) with
          | error er =>
            rw [ht] at hT
            have her := Sp.tok1_err ht
            have HN : Hid (Sp.lex s.data.toList = .error (pos, er)) := by
              show _ = _
              rw [hx.out, Sp.lexAt_err _ _ _ h32 h35 _ ht]
              rfl
            have ger : ((er : Int) != 0) = true := by rcases her with rfl | rfl | rfl <;> decide
            have HT : Hid (Calls Tryz.prog 29 #[.string (s.extract pos s.size)] wr fun e w' => e = .returned (.tuple #[.agg #[.int .i64 0, .int .i64 0, .string ⟨#[]⟩, .int .i64 0], .int .i64 0, .int .i64 er]) ∧ Below wr.heap.size wr w') := hT wr
            clear hx hd h32 h35 hxl hxs hT ht her
            go_wp2_with fail
            refine HT.out.mono ?_
            clear HT
            rintro e w1 ⟨rfl, hb1⟩
            have hbel1 := hbel.trans (hb1.mono hbel.size)
            go_wp2_with fail
            go_ret3
            refine ⟨?_, hbel1.alloc hbel1.size _⟩
            rw [HN.out]
            rfl
          | ok t =>
            rw [ht] at hT
            have hsz := Sp.tok1_size ht
            have hsl : (s[pos] :: s.data.toList.drop (pos + 1)).length = s.size - pos := by rw [← hd, List.length_drop, size_list]
            rw [hsl] at hsz
            obtain ⟨hsz1, hsz2⟩ := hsz
            have HN : Hid (Sp.lex s.data.toList = Sp.ahead (ts ++ [(pos, t)]) (Sp.lexAt (pos + t.size) (s.data.toList.drop (pos + t.size)))) := by
              show _ = _
              rw [hx.out, Sp.lexAt_tok _ _ _ h32 h35 _ ht, Sp.ahead_ahead, ← hd, List.drop_drop]
            obtain ⟨tb, HTB⟩ := hid_ex (⟨t.text.toArray⟩ : ByteArray)
            have HT : Hid (Calls Tryz.prog 29 #[.string (s.extract pos s.size)] wr fun e w' => e = .returned (.tuple #[.agg #[.int .i64 t.kind, .int .i64 0, .string tb, .int .i64 t.num], .int .i64 t.size, .int .i64 0]) ∧ Below wr.heap.size wr w') := by
              rw [← HTB.out]
              exact hT wr
            clear hx hd h32 h35 hxl hxs hT ht hsl
            go_wp2_with fail
            refine HT.out.mono ?_
            clear HT
            rintro e w1 ⟨rfl, hb1⟩
            have hbel1 := hbel.trans (hb1.mono hbel.size)
            have hrow1 := TokRow.below hrow hb1
            clear hrow hbel hb1
            have hown : w1.ownsRow w.heap.size 37 4 _ ts.length (rowCells at_ ts) := hrow1
            clear hrow1
            have hz1' : w.heap.size ≤ w1.heap.size := hbel1.size
            go_wp2_with (at_builtin; refine wpList_append_own _ rfl _ _ 25 rfl w.heap.size 37 i0 (.agg #[.int .i64 0, .int .i64 0, .string ⟨#[]⟩, .int .i64 0]) 4 40 Tryz.underlying25 hi hz0 hz1 hz2 rfl (by decide) _ _ _ rfl ((hown.alloc _).alloc _) ⟨w1.heap.size + 1, 0, none⟩ 1 1 [.int .i64 t.kind, .int .i64 (wrap64 (at_ + ↑pos)), .string tb, .int .i64 t.num] rfl rfl ?c1 ?c2 ?c3 ?c4 ?c5 ?_)
            case c1 =>
              intro j u hj
              match j, hj with
              | 0, hj => simp at hj; subst hj; simp [Addr.add]
              | 1, hj => simp at hj; subst hj; simp [Addr.add]
              | 2, hj => simp at hj; subst hj; simp [Addr.add]
              | 3, hj => simp at hj; subst hj; simp [Addr.add]
            case c2 => intro u hu; simp at hu; rcases hu with rfl | rfl | rfl | rfl <;> rfl
            case c3 => unfold maxLen; omega
            case c4 => omega
            case c5 => simp; omega
            intro v' w2 hown' hgrow _
            have hbel2 : Below w.heap.size w w2 := ((hbel1.alloc hz1' _).alloc (by simp; omega) _).grown hgrow (by simp; omega) (fun k hk => (hown.lt k hk).1)
            have hrow2 : TokRow w.heap.size at_ v' (ts ++ [(pos, t)]) w2 := by
              unfold TokRow
              rw [List.length_append]
              have e : rowCells at_ (ts ++ [(pos, t)]) = rowCells at_ ts ++ [.int .i64 t.kind, .int .i64 (wrap64 (at_ + ↑pos)), .string tb, .int .i64 t.num] := by
                simp [rowCells, List.flatMap_append, tokCells, HTB.out]
              rw [e]
              exact hown'
            clear hown' hgrow hown hbel1 hz1'
            go_wp2_with fail
            go_roundw
            case rel => exact ⟨pos + t.size, ts ++ [(pos, t)], by go_num, by omega, by simp; omega, hrow2, hbel2, HN⟩
            case measure => simp [intOf]; omega
    · have HN : Hid (Sp.lex s.data.toList = .ok ts) := by
        show _ = _
        rw [hx.out, List.drop_of_length_le (by rw [size_list]; omega), Sp.lexAt_nil]
        simp [Sp.ahead]
      clear hx
      go_wp2_with fail
      go_ret3
      refine ⟨?_, hbel⟩
      rw [HN.out]
      exact ⟨_, rfl, hrow⟩
end Go.Proofs.YtbdjccmcdifjcaaGreatDoor

set_option linter.unusedVariables false
set_option linter.unusedSimpArgs false
namespace Go.Proofs.YtbdjccmcdifjcaaGreatDoor
open Go.RowKit Go.Shelf
namespace lawOne

theorem place0 (n : Nat) (h : n ≤ 1000000) : (n : Int) = ((n : Nat) : Int) := rfl

set_option maxHeartbeats 16000000 in
set_option maxRecDepth 100000 in
theorem walk (v : Value) (x : Sp.LineD) (w : World) (ha : ArgL v x w) (hbx : Bnd x) (hE : Env w) : Calls Tryz.prog 10 #[v] w fun e w' => e = .returned (.bool true) ∧ Below w.heap.size w w' := by
  have HSH : Hid (∀ w', Below w.heap.size w w' → Calls Tryz.prog 11 #[] w' fun e w'' => e = .returned (.bool true) ∧ Below w'.heap.size w' w'') := fun w' hb => shown_any2 w' (hE.below hb hE.size)
  have HE := Lib.hid hE
  have hEs := hE.size
  obtain ⟨n0, l0, em0, c0⟩ := x
  obtain ⟨vt, rfl, h4⟩ := ha
  have HA4 := Lib.hid h4
  obtain ⟨x, hx⟩ : ∃ x : Sp.LineD, x = (0, l0, false, c0) := ⟨_, rfl⟩
  have hx3 : x.2.2.1 = false := by rw [hx]
  have hbx' : Bnd x := by rw [hx]; exact hbx
  obtain ⟨sb, hsb⟩ : ∃ sb : ByteArray, sb = ⟨(Sp.txt x).toArray⟩ := ⟨_, rfl⟩
  have hsl : sb.data.toList = Sp.ln 0 x := by rw [hsb]; show Sp.txt x = _; rw [hx]; rfl
  have hss : sb.size ≤ 687 := by
    rw [← size_list, hsl]
    have := Sp.ln_size 0 x
    omega
  have HLT : Hid (∀ w', Below w.heap.size w w' → Calls Tryz.prog 12 #[.agg #[.int .i64 0, vt, .bool false, .string ⟨c0.toArray⟩]] w' fun e w'' => e = .returned (.string sb) ∧ Below w'.heap.size w' w'') := by
    intro w' hb
    rw [hsb]
    refine ltext_any _ x w' ⟨vt, by rw [hx], ?_⟩ hbx'
    rw [hx]
    exact h4.below hb
  obtain ⟨ts, hts⟩ : ∃ ts, ts = Sp.coreT x := ⟨_, rfl⟩
  have HLEX : Hid (Sp.lex sb.data.toList = .ok ts) := by
    show _ = _
    rw [hsl, hts]
    exact Sp.lexAt_core x
  obtain ⟨m, hm⟩ : ∃ m, m = ts.map (abs4 0) := ⟨_, rfl⟩
  have HLAY : Hid (Sp.layL sb.data.toList = .ok (m ++ [Sp.mark 5 (sb.size : Int), Sp.mark 8 (sb.size : Int)])) := by
    show _ = _
    rw [hm, hts, ← size_list, hsl]
    exact Sp.layL_one hx3
  have hml : m.length ≤ 1000 := by
    have := Sp.lex_count HLEX.out
    rw [size_list] at this
    rw [hm, List.length_map]
    omega
  have HM := Lib.hid hm
  clear hE h4 hbx hbx' hx hsb hsl hts hm hx3 HA4
  obtain ⟨cb, hcb⟩ : ∃ cb : ByteArray, cb = ⟨c0.toArray⟩ := ⟨_, rfl⟩
  rw [← hcb] at HLT ⊢
  clear hcb
  have hb0 : Below w.heap.size w (w.alloc (Obj.cells #[.int .i64 n0, vt, .bool em0, .string cb] 27)) := (Below.refl _ w).alloc (Nat.le_refl _) _
  have HS0 := Lib.hid (HSH.out _ hb0)
  clear HSH
  go_enter Tryz.func10, Tryz.ntmps10
  go_wp2_with fail
  refine HS0.out.mono ?_
  rintro e w1 ⟨rfl, hb1⟩
  clear HS0
  have hh : w1.heap[w.heap.size]? = some (.cells #[.int .i64 n0, vt, .bool em0, .string cb] 27) := by
    rw [hb1.block w.heap.size (by simp)]
    show (w.heap.push _)[w.heap.size]? = _
    simp
  have k0 : w1.cell? ⟨w.heap.size, 0, none⟩ = some (.int .i64 n0) := by simp [World.cell?, hh]
  have k1 : w1.cell? ⟨w.heap.size, 1, none⟩ = some vt := by simp [World.cell?, hh]
  have k2 : w1.cell? ⟨w.heap.size, 2, none⟩ = some (.bool em0) := by simp [World.cell?, hh]
  have k3 : w1.cell? ⟨w.heap.size, 3, none⟩ = some (.string cb) := by simp [World.cell?, hh]
  have z0 : w1.frozen? ⟨w.heap.size, 0, none⟩ = false := Lib.frozen_of_heap hh 0
  have z2 : w1.frozen? ⟨w.heap.size, 2, none⟩ = false := Lib.frozen_of_heap hh 2
  have hbw1 : Below w.heap.size w w1 := hb0.trans (hb1.mono (by simp))
  have hbw2 : Below w.heap.size w ((w1.setCell ⟨w.heap.size, 0, none⟩ (.int .i64 0)).setCell ⟨w.heap.size, 2, none⟩ (.bool false)) := (hbw1.setCell (p := ⟨w.heap.size, 0, none⟩) (Nat.le_refl _) _).setCell (p := ⟨w.heap.size, 2, none⟩) (Nat.le_refl _) _
  obtain ⟨W2, hW2⟩ : ∃ W2, W2 = ((w1.setCell ⟨w.heap.size, 0, none⟩ (.int .i64 0)).setCell ⟨w.heap.size, 2, none⟩ (.bool false)) := ⟨_, rfl⟩
  have HW2 := Lib.hid hW2
  rw [← hW2] at hbw2
  have HT0 := Lib.hid (HLT.out W2 hbw2)
  clear hb1 hb0 hh hW2 HLT
  go_wp2_with fail
  rw [← HW2.out]
  refine HT0.out.mono ?_
  rintro e w2 ⟨rfl, hb2'⟩
  have HB2 : Hid (Below w.heap.size w w2) := hbw2.trans (hb2'.mono hbw2.size)
  have HT := Lib.hid (tokens_any sb (by omega) w2 (HE.out.below HB2.out hEs))
  rw [HLAY.out] at HT
  clear hbw1 hbw2 hb2' HT0 HE hEs HW2 k0 k1 k2 k3 z0 z2
  go_wp2_with fail
  refine HT.out.mono ?_
  rintro e w3 ⟨⟨va, rfl, hra⟩, hb3'⟩
  have HB3 : Hid (Below w.heap.size w w3) := HB2.out.trans (hb3'.mono HB2.out.size)
  have HR := Lib.hid (rline_any sb (by omega) 0 w3)
  rw [HLEX.out] at HR
  have HRA := Lib.hid hra
  clear HB2 HT hb3' hra
  go_wp2_with fail
  refine HR.out.mono ?_
  rintro e w4 ⟨⟨vb, rfl, hrb⟩, hb4'⟩
  have HB4 : Hid (Below w.heap.size w w4) := HB3.out.trans (hb4'.mono HB3.out.size)
  have hra := HRA.out.below hb4'
  have hrb := hrb.row4
  rw [← HM.out] at hrb
  clear HB3 HR hb4' HRA HLEX HLAY HM
  have hm0 : ∃ x0, (m ++ [Sp.mark 5 (sb.size : Int), Sp.mark 8 (sb.size : Int)])[0]? = some x0 := ⟨_, List.getElem?_eq_getElem (by simp)⟩
  obtain ⟨x0, hx0⟩ := hm0
  obtain ⟨ga, ca, rfl, hca⟩ := hra.there hx0
  obtain ⟨pb, cb2, rfl, _⟩ := hrb.form
  have hcut : Row4 w2.heap.size (.slice (some ⟨ga, 0, none⟩) m.length ca) m w4 := by
    have := hra.cut (m := m.length) (by simp)
    rwa [List.take_left'] at this
    rfl
  obtain ⟨pa', ca', ea, fa⟩ := hra.form
  cases ea
  obtain ⟨_, e5, hg, _, p0, p1, p2, p3⟩ := fa m.length (Sp.mark 5 (sb.size : Int)) (by simp)
  cases e5
  obtain ⟨_, e8, _, _, q0, q1, q2, q3⟩ := fa (m.length + 1) (Sp.mark 8 (sb.size : Int)) (by simp)
  cases e8
  simp only [Sp.mark] at p0 p1 p2 p3 q0 q1 q2 q3
  have hlen : (m ++ [Sp.mark 5 (sb.size : Int), Sp.mark 8 (sb.size : Int)]).length = m.length + 2 := by simp
  rw [hlen] at hca ⊢
  have HSAME := fun w' (hb : Below w4.heap.size w4 w') => same2_any w2.heap.size w3.heap.size _ _ m m w' (hcut.below hb) (hrb.below hb) (by omega) (by omega)
  have hdl : decide (m = m) = true := by simp
  rw [hdl] at HSAME
  have HS := Lib.hid HSAME
  have r5 := fun w' => eql_mark 5 (sb.size : Int) w'
  have r8 := fun w' => eql_mark 8 (sb.size : Int) w'
  clear hra hrb hcut fa hx0 HSAME hdl
  go_wp2_with fail
  refine (HS.out w4 (Below.refl _ _)).mono ?_
  rintro e w5 ⟨rfl, hb5⟩
  have HB5 : Hid (Below w.heap.size w w5) := HB4.out.trans (hb5.mono HB4.out.size)
  have p0' := (hb5.cell (p := ⟨ga, m.length * 4, none⟩) hg).trans p0
  have p1' := (hb5.cell (p := ⟨ga, m.length * 4 + 1, none⟩) hg).trans p1
  have p2' := (hb5.cell (p := ⟨ga, m.length * 4 + 2, none⟩) hg).trans p2
  have p3' := (hb5.cell (p := ⟨ga, m.length * 4 + 3, none⟩) hg).trans p3
  have q0' := (hb5.cell (p := ⟨ga, (m.length + 1) * 4, none⟩) hg).trans q0
  have q1' := (hb5.cell (p := ⟨ga, (m.length + 1) * 4 + 1, none⟩) hg).trans q1
  have q2' := (hb5.cell (p := ⟨ga, (m.length + 1) * 4 + 2, none⟩) hg).trans q2
  have q3' := (hb5.cell (p := ⟨ga, (m.length + 1) * 4 + 3, none⟩) hg).trans q3
  clear p0 p1 p2 p3 q0 q1 q2 q3 hb5 HS HB4
  go_wp2_with fail
  trace_state
  go_ret
  exact ⟨rfl, HB5.out⟩
end lawOne
end Go.Proofs.YtbdjccmcdifjcaaGreatDoor

set_option linter.unusedVariables false
set_option linter.unusedSimpArgs false
namespace Go.Proofs.YtbdjccmcdifjcaaGreatDoor
namespace lawOne
open Go.ChangeShapes Go.WideShapes Go.ChangeAt Go.WideMaps Go.WideElems Go.RowKit
open Go.ChangeMaps (open_string shut_string)
open A2

set_option maxRecDepth 100000 in
theorem lifted (os : Os) (started : os.Started) (H : Type) (enc : TypeId × Value → H) :
    ReturnsInHanded {} Tryz.checked os 10 .any (fun w args => (Rows.layoutOneSpec.pre enc Tryz.prog Tryz.f10 [] false w args ∧ laidMetH Tryz.prog laidL w) ∧ sizedMet enc Tryz.prog Tryz.f10 (OpenSpec.ofChange Rows.layoutOneSpec) false w args)
      (Rows.layoutOneSpec.post enc Tryz.prog Tryz.f10 false true false false) := by
  refine handed_both (C := Tryz.checked) (X := fun w _ => laidMetH Tryz.prog laidL w) (fun _ _ _ hh h => h.of_heap hh) own started (by kernel_rfl) Tryz.func10
    (ChangeSpec.witness_shaped (enc := enc) (C := Tryz.checked) (os := os) (X := fun w _ => laidMetH Tryz.prog laidL w) false (World.laidAll Tryz.prog os laidL) #[.agg #[.int .i64 0, .slice none 0 0, .bool false, .string ⟨#[]⟩]] 8 (door_os os) (door_shaped os _) (by kernel_rfl) (by kernel_rfl) (by kernel_rfl) (door_met os _)) ?_
  intro W base args ds gs before hval0 hW _ _ hL hsh _
  have hval : ∀ (j : Nat) t v, Tryz.f10.params[j]? = some t → args[j]? = some v → Value.okWide Tryz.prog W .any base t v := hval0
  have hW' := hW
  obtain ⟨p, q, hA0, hV, rfl, hfz, hnd⟩ := hW
  have hA : DataW.TrodAll enc Tryz.prog W 0 (fun _ => true) true Tryz.f10.params.toList args.toList ds p := hA0
  rw [Tryz.params10] at hA hval
  obtain ⟨v0, d0, rfl, rfl, h0⟩ := trodAll_one hA
  obtain ⟨rfl, rfl⟩ := trodVars_none hV
  have h0k := h0
  obtain ⟨x0, a0, b0⟩ := line_of (hval 0 27 v0 rfl rfl) h0
  clear hA0 hval0
  simp only [List.append_nil] at hW'
  refine (walk v0 x0 W a0 b0 (env_of hL hsh)).mono fun e W' ⟨he, hb⟩ => ?_
  subst he
  have hlt : ∀ x ∈ p, x.block < W.heap.size := fun x hx => hW'.lt x (by simpa using hx)
  exact ⟨_, rfl, post_true_at hW' (by kernel_rfl) rfl rfl rfl rfl (by have h := trodAll_mk1 (Below.trod laidOut (by kernel_rfl) (of_decide_eq_true (by kernel_rfl)) h0k hb (fun x hx => hlt x (by simp [hx]))); (try simp only [List.append_nil, List.nil_append] at h); exact h) hb⟩

theorem row_holds : Rows.LayoutOneSaid :=
  OpenClaim.holds_of_wide 10 Tryz.f10 rfl rfl rfl rfl rfl rfl rfl ⟨rfl, rfl, rfl, rfl, rfl⟩ rfl rfl rfl rfl rfl (by kernel_rfl) Tryz.func10 (by kernel_rfl)
    (of_decide_eq_true (by kernel_rfl)) (by unfold Func.isWrapper; first | (rw [if_pos (by decide +kernel)]; kernel_rfl) | (rw [if_neg (by decide +kernel)]; exact ⟨rfl, rfl⟩))
    (fun os started H enc _ => lifted os started H enc)

theorem card_holds : Rows.LayoutOneCardSaid :=
  Claim7.holds_tied_plain_at .later [] [.data, .data, .data, .data, .sentinel, .sentinel, .data, .pinned] true (true, "88ce31af55d7e15b8eb372d6691e0e677d11b1df154c7967afde70b805ca128e") true
    row_holds (fun _ h => by cases h) (by kernel_rfl) (fun _ h => by cases h) layoutOne_row_tie rfl ⟨rfl, rfl⟩ (by kernel_rfl) rfl
    (fun f fn hf hfn => by
      obtain rfl : f = 10 := Option.some.inj ((show Tryz.prog.funcNamed "krait/kraitlaw02.LayoutOne" = some 10 by kernel_rfl).symm.trans hf) |>.symm
      obtain rfl : fn = Tryz.f10 := (Option.some.inj (Tryz.func10.symm.trans hfn)).symm
      exact ⟨by kernel_rfl, fun j t ht => by
        rw [Tryz.params10] at ht
        have hm : t ∈ [27] := by simpa using Array.mem_of_getElem? ht
        have hall : ([27].all fun u => !Tryz.prog.wantsStandIn u) = true := by kernel_rfl
        exact (show Tryz.prog.wantsStandIn t = false by simpa using List.all_eq_true.1 hall t hm)⟩)
    (by kernel_rfl)
end lawOne
end Go.Proofs.YtbdjccmcdifjcaaGreatDoor
