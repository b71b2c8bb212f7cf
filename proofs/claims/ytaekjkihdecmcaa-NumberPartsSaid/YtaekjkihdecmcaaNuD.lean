/-
  The reference's sums and differences of digits, and which row is the greater one, at this program.
-/
import Derived.Test.YtaekjkihdecmcaaNuC
set_option linter.unusedVariables false
set_option linter.unusedSimpArgs false
namespace Go.Proofs.Ytaekjkihdecmcaa
open Go.RowKit

set_option maxHeartbeats 4000000 in
theorem plus_any (va vb : Value) (a b : List Nat) (w : World) (ha : DRow va a w) (hb : DRow vb b w) (da : Nu.Dg a) (db : Nu.Dg b) (la : a.length ≤ 1000) (lb : b.length ≤ 1000) :
    Calls Try.prog 41 #[va, vb] w fun e w' => ∃ v out, e = .returned v ∧ DRow v out w' ∧ Nu.Dg out ∧ Nu.val out = Nu.val a + Nu.val b ∧ out.length = max a.length b.length + 1 ∧ Below w.heap.size w w' := by
  have HA := Lib.hid ha
  have HB := Lib.hid hb
  obtain ⟨pa, ca, rfl⟩ := ha.form
  obtain ⟨pb, cb, rfl⟩ := hb.form
  have HDA := Lib.hid da
  have HDB := Lib.hid db
  obtain ⟨n, hn⟩ : ∃ n, n = a.length := ⟨_, rfl⟩
  obtain ⟨m, hm⟩ : ∃ m, m = b.length := ⟨_, rfl⟩
  rw [← hn] at la HA
  rw [← hm] at lb HB
  rw [← hn, ← hm]
  have HN := Lib.hid hn
  have HM := Lib.hid hm
  have hown0 := own_empty w w.heap.size (Nat.le_refl _) w.heap.size rfl
  clear ha hb da db hn hm
  go_enter Try.func41, Try.ntmps41
  go_wp2_with fail
  go_loopw [5, 6, 7] (fun v5 v6 v7 wr => ∃ (i carry : Nat) (out : List Nat) (pr : Option Addr) (c : Nat), v5 = .slice pr i c ∧ v6 = .int .i64 (carry : Int) ∧ v7 = .int .i64 (i : Int) ∧ i ≤ max n m + 1 ∧ carry ≤ 1 ∧ Hid (wr.ownsRow w.heap.size 3 1 (.slice pr i c) i (out.map dI)) ∧ Hid (Nu.Dg out) ∧ Hid (Nu.val out + carry * 65536 ^ i = Nu.valTo a i + Nu.valTo b i) ∧ Below w.heap.size w wr) (fun _ _ v7 _ => max n m + 1 - (intOf v7).toNat)
  case atStart => exact ⟨0, 0, [], _, _, rfl, rfl, rfl, by omega, by omega, hown0, (show Nu.Dg _ from fun d hd => by simp at hd), (show _ = _ from rfl), (Below.refl _ _).alloc (Nat.le_refl _) _⟩
  case round =>
    clear hown0
    obtain ⟨i, carry, out, pr, c, rfl, rfl, rfl, hi, hc, HO, HD, HV, hbel⟩ := hrel
    have hlo : out.length = i := by have := HO.out.1; rw [List.length_map] at this; omega
    have HLO := Lib.hid hlo
    by_cases hlt : i ≤ max n m
    · obtain ⟨x, HX⟩ := hid_ex (Nu.dig a i)
      obtain ⟨y, HY⟩ := hid_ex (Nu.dig b i)
      have hx := Nu.dig_lt HDA.out i
      have hy := Nu.dig_lt HDB.out i
      rw [HX.out] at hx
      rw [HY.out] at hy
      have HA2 := Lib.hid (HA.out.below hbel)
      have HB2 := Lib.hid (HB.out.below hbel)
      have hle : (i : Int) ≤ max (n : Int) (m : Int) := by omega
      have hs := hbel.size
      have HBEL := Lib.hid hbel
      clear hbel hlo hlt
      go_wp2_with (first
        | (at_builtin; refine wpList_dapp rfl _ _ rfl w.heap.size _ _ out _ HO.out hs ((x + y + carry) % 65536) rfl (by rfl) (by omega) ?_; intro g5 c5 w5 HO5 HB5)
        | (go_at_call 33; with_reducible (show Calls _ _ #[Value.slice pb _ _, _] _ _); refine (digit_is HB2.out (by rw [← HM.out]; omega) (by omega) HY).mono ?_; rintro e w' ⟨rfl, rfl⟩)
        | (go_at_call 33; with_reducible (show Calls _ _ #[Value.slice pa _ _, _] _ _); refine (digit_is HA2.out (by rw [← HN.out]; omega) (by omega) HX).mono ?_; rintro e w' ⟨rfl, rfl⟩))
      have h1 : (x + y + carry) / 65536 ≤ 1 := by omega
      have h2 : (x + y + carry) % 65536 < 65536 := by omega
      have HD5 : Hid (Nu.Dg (out ++ [(x + y + carry) % 65536])) := (show Nu.Dg _ from Nu.dg_snoc HD.out h2)
      have HV5 : Hid (Nu.val (out ++ [(x + y + carry) % 65536]) + (x + y + carry) / 65536 * 65536 ^ (i + 1) = Nu.valTo a (i + 1) + Nu.valTo b (i + 1)) := (show _ = _ by
        have := Nu.plus_step HLO.out HV.out
        rwa [HX.out, HY.out] at this)
      have HBE5 := Lib.hid (HBEL.out.trans (HB5.out.below hs (fun b hb e => by have := (HO.out.lt b e).1; omega)))
      refine ⟨⟨i + 1, (x + y + carry) / 65536, _, some ⟨g5, 0, none⟩, c5, rfl, by go_num, by go_num, by omega, h1, HO5, HD5, HV5, HBE5.out⟩, by simp [intOf]; omega⟩
    · obtain rfl : i = max n m + 1 := by omega
      have HR : Hid (Nu.val out = Nu.val a + Nu.val b) := (show _ = _ from Nu.plus_end HDA.out HDB.out (by rw [← HN.out, ← HM.out]) HV.out)
      have hgt : ¬ ((max n m + 1 : Nat) : Int) ≤ max (n : Int) (m : Int) := by omega
      have HBEL := Lib.hid hbel
      clear hbel
      go_wp2_with fail
      all_goals
        go_ret
        first
          | exact ⟨_, out, rfl, own_drow HO.out, HD.out, HR.out, HLO.out, HBEL.out⟩
          | exact ⟨_, rfl, out, own_drow HO.out, HD.out, HR.out, HLO.out, HBEL.out⟩

set_option maxHeartbeats 4000000 in
theorem less_any (va vb : Value) (a b : List Nat) (w : World) (ha : DRow va a w) (hb : DRow vb b w) (da : Nu.Dg a) (db : Nu.Dg b) (tb : Nu.Trim b) (hab : Nu.val b ≤ Nu.val a) (la : a.length ≤ 1000) (lb : b.length ≤ 1000) :
    Calls Try.prog 43 #[va, vb] w fun e w' => ∃ v out, e = .returned v ∧ DRow v out w' ∧ Nu.Dg out ∧ Nu.val out + Nu.val b = Nu.val a ∧ out.length = a.length ∧ Below w.heap.size w w' := by
  have HA := Lib.hid ha
  have HB := Lib.hid hb
  obtain ⟨pa, ca, rfl⟩ := ha.form
  obtain ⟨pb, cb, rfl⟩ := hb.form
  have HDA := Lib.hid da
  have HDB := Lib.hid db
  have HTB := Lib.hid tb
  have HAB := Lib.hid hab
  obtain ⟨n, hn⟩ : ∃ n, n = a.length := ⟨_, rfl⟩
  obtain ⟨m, hm⟩ : ∃ m, m = b.length := ⟨_, rfl⟩
  rw [← hn] at la HA
  rw [← hm] at lb HB
  rw [← hn, ← hm]
  have HN := Lib.hid hn
  have HM := Lib.hid hm
  have hown0 := own_empty w w.heap.size (Nat.le_refl _) w.heap.size rfl
  clear ha hb da db hn hm tb hab
  go_enter Try.func43, Try.ntmps43
  go_wp2_with fail
  go_loopw [5, 6, 7] (fun v5 v6 v7 wr => ∃ (i lent : Nat) (out : List Nat) (pr : Option Addr) (c : Nat), v5 = .slice pr i c ∧ v6 = .int .i64 (lent : Int) ∧ v7 = .int .i64 (i : Int) ∧ i ≤ n ∧ lent ≤ 1 ∧ Hid (wr.ownsRow w.heap.size 3 1 (.slice pr i c) i (out.map dI)) ∧ Hid (Nu.Dg out) ∧ Hid (Nu.val out + Nu.valTo b i = Nu.valTo a i + lent * 65536 ^ i) ∧ Below w.heap.size w wr) (fun _ _ v7 _ => n - (intOf v7).toNat)
  case atStart => exact ⟨0, 0, [], _, _, rfl, rfl, rfl, by omega, by omega, hown0, (show Nu.Dg _ from fun d hd => by simp at hd), (show _ = _ from rfl), (Below.refl _ _).alloc (Nat.le_refl _) _⟩
  case round =>
    clear hown0
    obtain ⟨i, lent, out, pr, c, rfl, rfl, rfl, hi, hc, HO, HD, HV, hbel⟩ := hrel
    have hlo : out.length = i := by have := HO.out.1; rw [List.length_map] at this; omega
    have HLO := Lib.hid hlo
    by_cases hlt : i < n
    · obtain ⟨x, HX⟩ := hid_ex (Nu.dig a i)
      obtain ⟨y, HY⟩ := hid_ex (Nu.dig b i)
      have hx := Nu.dig_lt HDA.out i
      have hy := Nu.dig_lt HDB.out i
      rw [HX.out] at hx
      rw [HY.out] at hy
      have HA2 := Lib.hid (HA.out.below hbel)
      have HB2 := Lib.hid (HB.out.below hbel)
      have hs := hbel.size
      have HBEL := Lib.hid hbel
      have hin : (i : Int) < (n : Int) := by omega
      clear hbel hlo hlt
      by_cases hneg : x < y + lent
      · obtain ⟨d, hd⟩ : ∃ d, d = x + 65536 - y - lent := ⟨_, rfl⟩
        have e1 : (x : Int) - (y : Int) - (lent : Int) < 0 := by omega
        have e2 : (x : Int) - (y : Int) - (lent : Int) + 65536 = (d : Int) := by omega
        have HV5 : Hid (Nu.val (out ++ [d]) + Nu.valTo b (i + 1) = Nu.valTo a (i + 1) + 1 * 65536 ^ (i + 1)) := (show _ = _ from Nu.less_step HLO.out HV.out (by rw [HX.out, HY.out]; omega))
        have HD5 : Hid (Nu.Dg (out ++ [d])) := (show Nu.Dg _ from Nu.dg_snoc HD.out (by omega))
        have w1 : IntKind.i64.wrap ((x : Int) - (y : Int)) = (x : Int) - (y : Int) := IntWalk.i64_in _ (by omega)
        have w2 : IntKind.i64.wrap ((x : Int) - (y : Int) - (lent : Int)) = (x : Int) - (y : Int) - (lent : Int) := IntWalk.i64_in _ (by omega)
        have w3 : IntKind.i64.wrap ((x : Int) - (y : Int) - (lent : Int) + 65536) = (d : Int) := by rw [e2]; exact IntWalk.i64_in _ (by omega)
        clear hneg e2
        have HDD := Lib.hid hd
        clear hd
        go_wp2_with (first
          | (at_builtin; refine wpList_dapp rfl _ _ rfl w.heap.size _ _ out _ HO.out hs d rfl (by rfl) (by omega) ?_; intro g5 c5 w5 HO5 HB5)
          | (go_at_call 33; with_reducible (show Calls _ _ #[Value.slice pb _ _, _] _ _); refine (digit_is HB2.out (by rw [← HM.out]; omega) (by omega) HY).mono ?_; rintro e w' ⟨rfl, rfl⟩)
          | (go_at_call 33; with_reducible (show Calls _ _ #[Value.slice pa _ _, _] _ _); refine (digit_is HA2.out (by rw [← HN.out]; omega) (by omega) HX).mono ?_; rintro e w' ⟨rfl, rfl⟩))
        have HBE5 := Lib.hid (HBEL.out.trans (HB5.out.below hs (fun b hb e => by have := (HO.out.lt b e).1; omega)))
        refine ⟨⟨i + 1, 1, _, some ⟨g5, 0, none⟩, c5, rfl, by go_num, by go_num, by omega, by omega, HO5, HD5, HV5, HBE5.out⟩, by simp [intOf]; omega⟩
      · obtain ⟨d, hd⟩ : ∃ d, d = x - y - lent := ⟨_, rfl⟩
        have e1 : ¬ (x : Int) - (y : Int) - (lent : Int) < 0 := by omega
        have e2 : (x : Int) - (y : Int) - (lent : Int) = (d : Int) := by omega
        have HV5 : Hid (Nu.val (out ++ [d]) + Nu.valTo b (i + 1) = Nu.valTo a (i + 1) + 0 * 65536 ^ (i + 1)) := (show _ = _ from Nu.less_step HLO.out HV.out (by rw [HX.out, HY.out]; omega))
        have HD5 : Hid (Nu.Dg (out ++ [d])) := (show Nu.Dg _ from Nu.dg_snoc HD.out (by omega))
        have w1 : IntKind.i64.wrap ((x : Int) - (y : Int)) = (x : Int) - (y : Int) := IntWalk.i64_in _ (by omega)
        have w2 : IntKind.i64.wrap ((x : Int) - (y : Int) - (lent : Int)) = (d : Int) := by rw [e2]; exact IntWalk.i64_in _ (by omega)
        clear hneg e2 e1
        have HDD := Lib.hid hd
        clear hd
        go_wp2_with (first
          | (at_builtin; refine wpList_dapp rfl _ _ rfl w.heap.size _ _ out _ HO.out hs d rfl (by rfl) (by omega) ?_; intro g5 c5 w5 HO5 HB5)
          | (go_at_call 33; with_reducible (show Calls _ _ #[Value.slice pb _ _, _] _ _); refine (digit_is HB2.out (by rw [← HM.out]; omega) (by omega) HY).mono ?_; rintro e w' ⟨rfl, rfl⟩)
          | (go_at_call 33; with_reducible (show Calls _ _ #[Value.slice pa _ _, _] _ _); refine (digit_is HA2.out (by rw [← HN.out]; omega) (by omega) HX).mono ?_; rintro e w' ⟨rfl, rfl⟩))
        have HBE5 := Lib.hid (HBEL.out.trans (HB5.out.below hs (fun b hb e => by have := (HO.out.lt b e).1; omega)))
        refine ⟨⟨i + 1, 0, _, some ⟨g5, 0, none⟩, c5, rfl, by go_num, by go_num, by omega, by omega, HO5, HD5, HV5, HBE5.out⟩, by simp [intOf]; omega⟩
    · obtain rfl : i = n := by omega
      have HR : Hid (Nu.val out + Nu.val b = Nu.val a) := (show _ = _ from Nu.less_end HD.out HAB.out HDA.out HTB.out (by rw [HLO.out, HN.out]) (by rw [← HN.out]; exact HV.out))
      have HBEL := Lib.hid hbel
      clear hbel
      go_wp2_with fail
      go_ret
      exact ⟨_, out, rfl, own_drow HO.out, HD.out, HR.out, HLO.out, HBEL.out⟩

set_option maxHeartbeats 4000000 in
theorem compare_any (va vb : Value) (a b : List Nat) (w : World) (ha : DRow va a w) (hb : DRow vb b w) (da : Nu.Dg a) (db : Nu.Dg b) (la : a.length ≤ 1000) (lb : b.length ≤ 1000) :
    Calls Try.prog 42 #[va, vb] w fun e w' => ∃ c : Int, e = .returned (.int .i64 c) ∧ (0 ≤ c ↔ Nu.val b ≤ Nu.val a) ∧ w' = w := by
  have HA := Lib.hid ha
  have HB := Lib.hid hb
  obtain ⟨pa, ca, rfl⟩ := ha.form
  obtain ⟨pb, cb, rfl⟩ := hb.form
  have HDA := Lib.hid da
  have HDB := Lib.hid db
  obtain ⟨n, hn⟩ : ∃ n, n = a.length := ⟨_, rfl⟩
  obtain ⟨m, hm⟩ : ∃ m, m = b.length := ⟨_, rfl⟩
  rw [← hn] at la HA
  rw [← hm] at lb HB
  rw [← hn, ← hm]
  have HN := Lib.hid hn
  have HM := Lib.hid hm
  clear ha hb da db hn hm
  go_enter Try.func42, Try.ntmps42
  go_wp2_with fail
  all_goals
    go_loop [5] (fun v5 => ∃ i : Nat, v5 = .int .i64 ((i : Int) - 1) ∧ i ≤ max n m ∧ Hid (∀ j, i ≤ j → j < max n m → Nu.dig a j = Nu.dig b j)) (fun v5 => (intOf v5 + 1).toNat)
    case atStart => exact ⟨max n m, by go_num, Nat.le_refl _, (show ∀ _, _ from fun j h1 h2 => by omega)⟩
    case round =>
      obtain ⟨i, rfl, hi, HE⟩ := hrel
      cases i with
      | zero =>
        have HR : Hid (Nu.val a = Nu.val b) := (show _ = _ from Nu.cmp_eq (n := max n m) (by rw [← HN.out]; omega) (by rw [← HM.out]; omega) (fun j hj => HE.out j (Nat.zero_le _) hj))
        clear HE
        go_wp2_with fail
        go_ret
        exact ⟨0, rfl, by rw [HR.out]; simp, rfl⟩
      | succ i =>
        obtain ⟨x, HX⟩ := hid_ex (Nu.dig a i)
        obtain ⟨y, HY⟩ := hid_ex (Nu.dig b i)
        have hx := Nu.dig_lt HDA.out i
        have hy := Nu.dig_lt HDB.out i
        rw [HX.out] at hx
        rw [HY.out] at hy
        have e1 : ((i + 1 : Nat) : Int) - 1 = (i : Int) := by omega
        rw [e1]
        have h0 : (0 : Int) ≤ (i : Int) := by omega
        have w1 : IntKind.i64.wrap ((x : Int) - (y : Int)) = (x : Int) - (y : Int) := IntWalk.i64_in _ (by omega)
        have w2 : IntKind.i64.wrap ((i : Int) - 1) = (i : Int) - 1 := IntWalk.i64_in _ (by omega)
        by_cases hxy : x = y
        · have HE2 : Hid (∀ j, i ≤ j → j < max n m → Nu.dig a j = Nu.dig b j) := (show ∀ _, _ from fun j h1 h2 => by
            rcases Nat.lt_or_ge i j with h | h
            · exact HE.out j h h2
            · rw [show j = i by omega, HX.out, HY.out, hxy])
          have hxi : (x : Int) = (y : Int) := by omega
          clear HE hxy e1
          go_wp2_with (first
            | (go_at_call 33; with_reducible (show Calls _ _ #[Value.slice pb _ _, _] _ _); refine (digit_is HB.out (by rw [← HM.out]; omega) (by omega) HY).mono ?_; rintro e w' ⟨rfl, rfl⟩)
            | (go_at_call 33; with_reducible (show Calls _ _ #[Value.slice pa _ _, _] _ _); refine (digit_is HA.out (by rw [← HN.out]; omega) (by omega) HX).mono ?_; rintro e w' ⟨rfl, rfl⟩))
          exact ⟨⟨i, rfl, by omega, HE2⟩, by simp [intOf]⟩
        · have HR : Hid (y < x ∧ Nu.val b < Nu.val a ∨ x < y ∧ Nu.val a < Nu.val b) := by
            show _ ∨ _
            rcases Nat.lt_or_gt_of_ne hxy with h | h
            · exact Or.inr ⟨h, Nu.cmp_gt HDA.out (i := i) (n := max n m) (by omega) (by rw [← HM.out]; omega) (by rw [← HN.out]; omega) (by rw [HX.out, HY.out]; exact h) (fun j h1 h2 => (HE.out j h1 h2).symm)⟩
            · exact Or.inl ⟨h, Nu.cmp_gt HDB.out (i := i) (n := max n m) (by omega) (by rw [← HN.out]; omega) (by rw [← HM.out]; omega) (by rw [HX.out, HY.out]; exact h) (fun j h1 h2 => HE.out j h1 h2)⟩
          have hxi : ¬ (x : Int) = (y : Int) := by omega
          clear HE hxy e1
          go_wp2_with (first
            | (go_at_call 33; with_reducible (show Calls _ _ #[Value.slice pb _ _, _] _ _); refine (digit_is HB.out (by rw [← HM.out]; omega) (by omega) HY).mono ?_; rintro e w' ⟨rfl, rfl⟩)
            | (go_at_call 33; with_reducible (show Calls _ _ #[Value.slice pa _ _, _] _ _); refine (digit_is HA.out (by rw [← HN.out]; omega) (by omega) HX).mono ?_; rintro e w' ⟨rfl, rfl⟩))
          go_ret
          refine ⟨(x : Int) - (y : Int), rfl, ?_, rfl⟩
          rcases HR.out with ⟨h1, h2⟩ | ⟨h1, h2⟩
          · omega
          · omega
end Go.Proofs.Ytaekjkihdecmcaa
