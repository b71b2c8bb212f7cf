/-
  What the program's Parse tells, at this program.
-/
import Derived.Test.YtaekjkihdecmcaaNuRf
import Derived.Test.YtaekjkihdecmcaaNuQ
import Derived.BigQuiet
set_option linter.unusedVariables false
set_option linter.unusedSimpArgs false
namespace Go.Proofs.Ytaekjkihdecmcaa
open Go.RowKit

theorem uwrap_def (z : Int) : IntKind.u64.wrap z = z % 18446744073709551616 := by
  simp only [IntKind.wrap, IntKind.signed, IntKind.bits]
  rfl
theorem u8wrap_def (z : Int) : IntKind.u8.wrap z = z % 256 := by
  simp only [IntKind.wrap, IntKind.signed, IntKind.bits]
  rfl
theorem nsize_is {z : Int} {N : Nat} (hN : Hid (z.natAbs = N)) (w : World) (hz : -9223372036854775808 ≤ z ∧ z ≤ 9223372036854775807) :
    Calls Try.prog 32 #[.int .i64 z] w fun e w' => e = .returned (.int .u64 (N : Int)) ∧ w' = w := by
  have hN := hN.out
  by_cases h : z < 0
  · obtain ⟨U, hU⟩ : ∃ U, IntKind.u64.wrap z = U := ⟨_, rfl⟩
    have h1 : IntKind.u64.wrap (-U) = (N : Int) := by rw [← hU, uwrap_def, uwrap_def]; omega
    clear hN hz
    go_enter Try.func32, Try.ntmps32
    go_wp2_with fail
    go_ret
    exact ⟨rfl, rfl⟩
  · have h1 : IntKind.u64.wrap z = (N : Int) := by rw [uwrap_def]; omega
    clear hN hz
    go_enter Try.func32, Try.ntmps32
    go_wp2_with fail
    go_ret
    exact ⟨rfl, rfl⟩
/-- What digits say, if they say no more than most. -/
def digR (l : Nu.Bs) (most : Nat) : Nat × Bool := if l ≠ [] ∧ l.all Nu.isDig = true ∧ Nu.num l ≤ most then (Nu.num l, true) else (0, false)
theorem parse_minus_dig (tl : Nu.Bs) : toldP (Nu.parse (45 :: tl)) = .tuple #[.int .i64 (-((digR tl 9223372036854775808).1 : Int)), .bool (digR tl 9223372036854775808).2] := by
  unfold Nu.parse digR
  rw [Nu.split_minus]
  simp only
  by_cases h1 : tl = []
  · rw [if_pos (Or.inl h1), if_neg (fun h => h.1 h1)]; rfl
  by_cases h2 : tl.all Nu.isDig = true
  · rw [if_neg (by rw [h2]; simp [h1])]
    by_cases h3 : Nu.num tl ≤ 9223372036854775808
    · rw [if_pos (by rw [Nu.fits_iff]; simp only [Nu.sgn, if_true]; omega), if_pos ⟨h1, h2, h3⟩]; rfl
    · rw [if_neg (by rw [Nu.fits_iff]; simp only [Nu.sgn, if_true]; omega), if_neg (fun h => h3 h.2.2)]; rfl
  · rw [if_pos (Or.inr (by simpa using h2)), if_neg (fun h => h2 h.2.1)]; rfl
theorem parse_other_dig {l : Nu.Bs} (h : l.head? ≠ some 45) : toldP (Nu.parse l) = .tuple #[.int .i64 ((digR l 9223372036854775807).1 : Int), .bool (digR l 9223372036854775807).2] := by
  unfold Nu.parse digR
  rw [Nu.split_other h]
  simp only
  by_cases h1 : l = []
  · rw [if_pos (Or.inl h1), if_neg (fun h => h.1 h1)]; rfl
  by_cases h2 : l.all Nu.isDig = true
  · rw [if_neg (by rw [h2]; simp [h1])]
    by_cases h3 : Nu.num l ≤ 9223372036854775807
    · rw [if_pos (by rw [Nu.fits_iff]; simp only [Nu.sgn, Bool.false_eq_true, if_false]; omega), if_pos ⟨h1, h2, h3⟩]; rfl
    · rw [if_neg (by rw [Nu.fits_iff]; simp only [Nu.sgn, Bool.false_eq_true, if_false]; omega), if_neg (fun h => h3 h.2.2)]; rfl
  · rw [if_pos (Or.inr (by simpa using h2)), if_neg (fun h => h2 h.2.1)]; rfl
set_option maxHeartbeats 4000000 in
theorem ndigits_is {s : ByteArray} {most r : Nat} {ok : Bool} (hr : Hid (digR s.data.toList most = (r, ok))) (h9 : 9 ≤ most) (hm : most ≤ 9223372036854775808) (hs : s.size ≤ 1000000) (w : World) :
    Calls Try.prog 34 #[.string s, .int .u64 (most : Int)] w fun e w' => e = .returned (.tuple #[.int .u64 (r : Int), .bool ok]) ∧ w' = w := by
  go_enter Try.func34, Try.ntmps34
  go_wp2_with fail
  go_loop [6, 11] (fun v6 v11 => ∃ i n : Nat, v6 = .int .u64 (n : Int) ∧ v11 = .int .i64 (i : Int) ∧ i ≤ s.size ∧ Hid (n ≤ most) ∧ Hid (n = Nu.num (s.data.toList.take i)) ∧ Hid ((s.data.toList.take i).all Nu.isDig = true)) (fun _ v11 => s.size - (intOf v11).toNat)
  case atStart => exact ⟨0, 0, rfl, rfl, Nat.zero_le _, (show 0 ≤ most by omega), rfl, rfl⟩
  case round =>
    obtain ⟨i, n, rfl, rfl, hi, HN, HV, HA⟩ := hrel
    have hsl := size_list s
    by_cases hlt : i < s.size
    · have hget : s.data.toList[i]? = some s[i] := by
        rw [List.getElem?_eq_getElem (by omega)]; rfl
      have htk : s.data.toList.take (i + 1) = s.data.toList.take i ++ [s[i]] := by
        rw [List.take_add_one, hget]; rfl
      by_cases hdg : Nu.isDig s[i] = true
      · have hc : 48 ≤ s[i].toNat ∧ s[i].toNat ≤ 57 := by unfold Nu.isDig at hdg; simp at hdg; exact hdg
        have h1 : ¬ ((s[i].toNat : Int) < 48) := by omega
        have h2 : ¬ ((57 : Int) < (s[i].toNat : Int)) := by omega
        have HA2 : Hid ((s.data.toList.take (i + 1)).all Nu.isDig = true) := (show _ = _ by rw [htk, List.all_append, HA.out]; simp [hdg])
        obtain ⟨d, hd⟩ : ∃ d : Nat, d = s[i].toNat - 48 := ⟨_, rfl⟩
        have hd9 : d ≤ 9 := by omega
        have hV2 : Nu.num (s.data.toList.take (i + 1)) = n * 10 + d := by rw [htk, Nu.num, Nu.numFrom_snoc, ← Nu.num, ← HV.out, hd]
        have w1 : IntKind.u8.wrap ((s[i].toNat : Int) - 48) = (d : Int) := by rw [u8wrap_def]; omega
        have w2 : IntKind.u64.wrap (d : Int) = (d : Int) := by rw [uwrap_def]; omega
        obtain ⟨E, hE⟩ : ∃ E : Int, (most : Int) - d = E := ⟨_, rfl⟩
        have w3 : IntKind.u64.wrap E = E := by rw [uwrap_def]; omega
        obtain ⟨Q, hQ⟩ : ∃ Q : Int, E.tdiv 10 = Q := ⟨_, rfl⟩
        have hQ2 : Q = E / 10 := by rw [← hQ, Int.tdiv_eq_ediv_of_nonneg (by omega)]
        have w4 : IntKind.u64.wrap Q = Q := by rw [uwrap_def]; omega
        have HD := Lib.hid hd
        by_cases hfit : n * 10 + d ≤ most
        · have h3 : decide (Q < (n : Int)) = false := by simp; omega
          have w5 : IntKind.u64.wrap ((n : Int) * 10) = (n : Int) * 10 := by rw [uwrap_def]; omega
          have w6 : IntKind.u64.wrap ((n : Int) * 10 + d) = (n : Int) * 10 + d := by rw [uwrap_def]; omega
          have HF : Hid (n * 10 + d ≤ most) := hfit
          have HV2 := Lib.hid hV2
          clear hfit hQ2 hd hget htk hV2 hc hdg hsl hd9
          go_wp2_with fail
          refine ⟨⟨i + 1, n * 10 + d, by go_num, by go_num, by omega, HF, (show _ = _ from HV2.out.symm), HA2⟩, by simp [intOf]; omega⟩
        · have h3 : decide (Q < (n : Int)) = true := by simp; omega
          have HR : Hid ((r, ok) = (0, false)) := (show _ = _ by
            rw [← hr.out]
            unfold digR
            rw [if_neg]
            rintro ⟨_, _, h⟩
            have := Nu.num_take_le s.data.toList (i + 1)
            omega)
          clear hfit hQ2 hd hget htk hV2 hc hdg hsl hd9
          go_wp2_with fail
          refine bodyPost_ret (results_tmp2 rfl _ _ _) rfl ?_
          have h := HR.out
          cases h
          exact ⟨rfl, rfl⟩
      · have HR : Hid ((r, ok) = (0, false)) := (show _ = _ by
          rw [← hr.out]
          unfold digR
          rw [if_neg]
          rintro ⟨_, h, _⟩
          exact hdg (List.all_eq_true.1 h _ (List.mem_of_getElem? hget)))
        by_cases h1 : (s[i].toNat : Int) < 48
        · clear hget htk hdg hsl
          go_wp2_with fail
          refine bodyPost_ret (results_tmp2 rfl _ _ _) rfl ?_
          have h := HR.out
          cases h
          exact ⟨rfl, rfl⟩
        · have h2 : (57 : Int) < (s[i].toNat : Int) := by
            unfold Nu.isDig at hdg; simp at hdg; omega
          clear hget htk hdg hsl
          go_wp2_with fail
          refine bodyPost_ret (results_tmp2 rfl _ _ _) rfl ?_
          have h := HR.out
          cases h
          exact ⟨rfl, rfl⟩
    · have hie : i = s.size := by omega
      have htk : s.data.toList.take i = s.data.toList := List.take_of_length_le (by omega)
      have HV2 : Hid (n = Nu.num s.data.toList) := (show _ = _ by rw [HV.out, htk])
      have HA2 : Hid (s.data.toList.all Nu.isDig = true) := (show _ = _ by rw [← htk]; exact HA.out)
      by_cases he : s = ⟨#[]⟩
      · have HR : Hid ((r, ok) = (0, false) ∧ n = 0) := (show _ ∧ _ by
          refine ⟨?_, by rw [HV2.out, he]; rfl⟩
          rw [← hr.out, he]
          rfl)
        subst he
        clear hie htk hsl
        go_wp2_with fail
        refine bodyPost_ret (results_tmp2 rfl _ _ _) rfl ?_
        obtain ⟨h, rfl⟩ := HR.out
        cases h
        exact ⟨rfl, rfl⟩
      · have HR : Hid ((r, ok) = (n, true)) := (show _ = _ by
          rw [← hr.out]
          unfold digR
          rw [if_pos ⟨fun e => he ((bytes_eq (l := [])).2 e), HA2.out, by rw [← HV2.out]; exact HN.out⟩, HV2.out])
        have hne : s.toList.isEmpty = false := by rw [Lib.toList_data]; exact List.isEmpty_eq_false_iff.2 (fun e => he ((bytes_eq (l := [])).2 e))
        clear hie htk hsl
        go_wp2_with fail
        refine bodyPost_ret (results_tmp2 rfl _ _ _) rfl ?_
        have h := HR.out
        cases h
        exact ⟨rfl, rfl⟩
theorem drop_one (s : ByteArray) (h : 0 < s.size) : (s.extract 1 s.size).data.toList = s.data.toList.drop 1 := by
  rw [ByteArray.data_extract, Array.toList_extract, List.extract_eq_take_drop]
  apply List.take_of_length_le
  simp
set_option maxHeartbeats 4000000 in
theorem nParse_is {s : ByteArray} {v : Int} {ok : Bool} (hr : Hid (toldP (Nu.parse s.data.toList) = .tuple #[.int .i64 v, .bool ok])) (hs : s.size ≤ 1000000) (w : World) :
    Calls Try.prog 23 #[.string s] w fun e w' => e = .returned (.tuple #[.int .i64 v, .bool ok]) ∧ Below w.heap.size w w' := by
  by_cases hm : s.data.toList.head? = some 45
  · have hp : 0 < s.size := by
      rw [← size_list]
      cases h : s.data.toList with
      | nil => rw [h] at hm; cases hm
      | cons a l => simp
    have hhead := get_drop s 0 hp
    rw [List.drop_zero] at hhead
    have h45 : s[0] = 45 := by rw [hhead] at hm; exact Option.some.inj hm
    obtain ⟨tl, htl⟩ : ∃ tl, s.data.toList.drop 1 = tl := ⟨_, rfl⟩
    rw [Nat.zero_add, htl, h45] at hhead
    obtain ⟨n, ok', hq⟩ : ∃ n ok', digR tl 9223372036854775808 = (n, ok') := ⟨_, _, rfl⟩
    have HR : Hid (Value.tuple #[.int .i64 v, .bool ok] = .tuple #[.int .i64 (-(n : Int)), .bool ok']) := (show _ = _ by
      rw [← hr.out, hhead, parse_minus_dig, hq])
    have hn : n ≤ 9223372036854775808 := by
      unfold digR at hq
      split at hq
      · rename_i h; have h2 := h.2.2; cases hq; exact h2
      · cases hq; omega
    have HQ : Hid (digR (s.extract 1 s.size).data.toList 9223372036854775808 = (n, ok')) := (show _ = _ by rw [drop_one s hp, htl, hq])
    have hne : s.toList.isEmpty = false := by rw [Lib.toList_data, hhead]; rfl
    have h0 : ((s[0].toNat : Int) == 45) = true := by rw [h45]; rfl
    have hxs : (s.extract 1 s.size).size ≤ 1000000 := by rw [ByteArray.size_extract]; omega
    obtain ⟨U, hU⟩ : ∃ U, IntKind.u64.wrap (-(n : Int)) = U := ⟨_, rfl⟩
    have w2 : IntKind.i64.wrap U = -(n : Int) := by rw [← hU, uwrap_def, wrap_def]; omega
    have HSZ : Hid ((-9223372036854775808 : Int).natAbs = 9223372036854775808) := (show _ = _ by decide)
    clear hr hm hhead htl hq hn h45
    go_enter Try.func23, Try.ntmps23
    go_wp2_with fail
    go_quiet (first
      | (go_at_call 34; exact Calls.quiet_of_same (ndigits_is HQ (by omega) (by omega) hxs _))
      | (go_at_call 32; exact Calls.quiet_of_same (nsize_is HSZ _ (by omega))))
    go_wp2_with fail
    refine bodyPost_ret (results_tmp2 rfl _ _ _) rfl ?_
    have h := HR.out
    injection h with h
    simp only [Array.mk.injEq, List.cons.injEq, Value.int.injEq, Value.bool.injEq, true_and, and_true] at h
    obtain ⟨rfl, rfl⟩ := h
    exact ⟨rfl, ⟨rfl, rfl, rfl, Nat.le_refl _, fun _ _ => rfl⟩⟩
  · obtain ⟨n, ok', hq⟩ : ∃ n ok', digR s.data.toList 9223372036854775807 = (n, ok') := ⟨_, _, rfl⟩
    have HR : Hid (Value.tuple #[.int .i64 v, .bool ok] = .tuple #[.int .i64 (n : Int), .bool ok']) := (show _ = _ by
      rw [← hr.out, parse_other_dig hm, hq])
    have hn : n ≤ 9223372036854775807 := by
      unfold digR at hq
      split at hq
      · rename_i h; have h2 := h.2.2; cases hq; exact h2
      · cases hq; omega
    have HQ := Lib.hid hq
    have w2 : IntKind.i64.wrap (n : Int) = (n : Int) := by rw [wrap_def]; omega
    by_cases he : s = ⟨#[]⟩
    · have hne : s.toList.isEmpty = true := by rw [he, Lib.toList_data]; rfl
      clear hr hm hq hn he
      go_enter Try.func23, Try.ntmps23
      go_wp2_with (go_at_call 34; refine (ndigits_is HQ (by omega) (by omega) hs _).mono ?_; rintro e w' ⟨rfl, rfl⟩)
      refine bodyPost_ret (results_tmp2 rfl _ _ _) rfl ?_
      have h := HR.out
      injection h with h
      simp only [Array.mk.injEq, List.cons.injEq, Value.int.injEq, Value.bool.injEq, true_and, and_true] at h
      obtain ⟨rfl, rfl⟩ := h
      exact ⟨rfl, Below.refl _ _⟩
    · have hp : 0 < s.size := by
        rcases Nat.eq_zero_or_pos s.size with h | h
        · exact absurd ((bytes_eq (l := [])).2 (List.length_eq_zero_iff.1 (by rw [size_list]; exact h))) he
        · exact h
      have hne : s.toList.isEmpty = false := by rw [Lib.toList_data]; exact List.isEmpty_eq_false_iff.2 (fun e => he ((bytes_eq (l := [])).2 e))
      have h0 : ((s[0].toNat : Int) == 45) = false := by
        have hhead := get_drop s 0 hp
        rw [List.drop_zero] at hhead
        rw [hhead] at hm
        simp only [List.head?_cons, Option.some.injEq] at hm
        have : s[0].toNat ≠ 45 := fun e => hm (UInt8.toNat_inj.1 e)
        simp; omega
      clear hr hm hq hn he
      go_enter Try.func23, Try.ntmps23
      go_wp2_with (go_at_call 34; refine (ndigits_is HQ (by omega) (by omega) hs _).mono ?_; rintro e w' ⟨rfl, rfl⟩)
      refine bodyPost_ret (results_tmp2 rfl _ _ _) rfl ?_
      have h := HR.out
      injection h with h
      simp only [Array.mk.injEq, List.cons.injEq, Value.int.injEq, Value.bool.injEq, true_and, and_true] at h
      obtain ⟨rfl, rfl⟩ := h
      exact ⟨rfl, Below.refl _ _⟩
end Go.Proofs.Ytaekjkihdecmcaa
