/-
  A number's digits are one token, of that number; with a nought ahead, a letter behind, or too great, none: the walk of the statement ScanNumbers.
-/
import Derived.Test.YtfomjdaihoaipaaDoorDecimal
import Derived.Deep.DeepCutAuto
set_option linter.unusedVariables false
set_option linter.unusedSimpArgs false
namespace Go.Proofs.YtfomjdaihoaipaaDoor
open Go.RowKit Go.Shelf

theorem line_err {s : ByteArray} {p : Nat} {er z : Int} (h : Hid (Sp.lex s.data.toList = .error (p, er))) (hs : s.size ≤ 60000) (at_ : Int) (hz : wrap64 (at_ + (p : Int)) = z) (w : World) (hE : Env w) :
    Calls Tryd.prog 16 #[.string s, .int .i64 at_] w fun e w' => e = .returned (.tuple #[.slice none 0 0, .int .i64 z, .int .i64 er]) ∧ Below w.heap.size w w' := by
  subst hz
  exact line_is h hs at_ w hE
namespace lawNumbers
theorem decimal_is {n : Nat} {d : ByteArray} (h : Hid ((⟨(Sp.dec n).toArray⟩ : ByteArray) = d)) (hn : n < 9223372036854775808) (w : World) : Calls Tryd.prog 29 #[.int .i64 (n : Int)] w fun e w' => e = .returned (.string d) ∧ Below w.heap.size w w' := by
  rw [← h.out]; exact decimal_any n hn w
theorem zeros_cut (r : Nat) (h : r < 8) (w : World) : (Instr.slice 9 (.string ⟨#[48, 48, 48, 48, 48, 48, 48, 48]⟩) none (some (.int .u8 (1 + (r : Int)))) none).run Tryd.prog w = .ok (.string ⟨(48 :: List.replicate r 48).toArray⟩) w := by
  have e : ∀ j : Fin 8, (⟨#[48, 48, 48, 48, 48, 48, 48, 48]⟩ : ByteArray).extract 0 (1 + j.val) = ⟨(48 :: List.replicate j.val 48).toArray⟩ := by decide +kernel
  have e2 : (1 + (r : Int)).toNat = 1 + r := by omega
  have h1 : 0 ≤ 1 + (r : Int) ∧ 1 + (r : Int) ≤ 8 := by omega
  have h3 := e ⟨r, h⟩
  simp only at h3
  rw [run_slice_string_to_if (h := Tryd.underlying9)]
  have sz : (((⟨#[48, 48, 48, 48, 48, 48, 48, 48]⟩ : ByteArray).size : Nat) : Int) = 8 := rfl
  rw [sz, if_pos h1, e2, h3]

set_option maxHeartbeats 16000000 in
set_option maxRecDepth 100000 in
theorem walk (n : Int) (c b : UInt8) (w : World) (hE : Env w) : Calls Tryd.prog 10 #[.int .i64 n, .int .u8 (c.toNat : Int), .int .u8 (b.toNat : Int)] w fun e w' => e = .returned (.bool true) ∧ Below w.heap.size w w' := by
  have hc0 := c.toNat_lt
  have hb0 := b.toNat_lt
  obtain ⟨x, hx, hxl⟩ : ∃ x : Nat, bits .and .i64 n 9223372036854775807 = (x : Int) ∧ x < 9223372036854775808 := ⟨(n % 9223372036854775808).toNat, by rw [and_max]; omega, by omega⟩
  obtain ⟨r, HR⟩ := hid_ex (b.toNat % 8)
  have hr8 : r < 8 := by rw [← HR.out]; omega
  have hrt : ((b.toNat : Int)).tmod 8 = (r : Int) := by rw [← HR.out, Int.tmod_eq_emod_of_nonneg (by omega)]; omega
  have hre : (b.toNat : Int) % 8 = (r : Int) := by rw [← HR.out]; omega
  have hrw : IntKind.u8.wrap (1 + (r : Int)) = 1 + (r : Int) := IntWalk.u8_in _ (by omega)
  have HZ := Lib.hid (zeros_cut r hr8)
  obtain ⟨d, HD⟩ := hid_ex (⟨(Sp.dec x).toArray⟩ : ByteArray)
  have hdl : d.data.toList = Sp.dec x := by rw [← HD.out]
  have hds : d.size ≤ 20 := by rw [← size_list, hdl]; exact dec_len x hxl
  have HX : Hid (kindOf (Sp.lex d.data.toList) = .ok (.inr (0, ⟨2, [], (x : Int), d.size⟩))) := by
    show _ = _
    rw [hdl, Sp.lex_dec x hxl, ← hdl, size_list]
    rfl
  obtain ⟨z, HZZ⟩ := hid_ex (⟨(48 :: List.replicate r 48).toArray⟩ : ByteArray)
  have hzl : z.data.toList = 48 :: List.replicate r 48 := by rw [← HZZ.out]
  have hzs : z.size = r + 1 := by rw [← size_list, hzl]; simp
  rw [HZZ.out] at HZ
  have T2 : Hid (∀ W, Env W → Calls Tryd.prog 16 #[.string ((⟨#[43]⟩ : ByteArray) ++ z ++ d), .int .i64 3] W fun e w' => e = .returned (.tuple #[.slice none 0 0, .int .i64 4, .int .i64 11]) ∧ Below W.heap.size W w') := by
    intro W hW
    have hl : ((⟨#[43]⟩ : ByteArray) ++ z ++ d).data.toList = 43 :: (48 :: List.replicate r 48 ++ Sp.dec x) := by simp [hzl, hdl]
    exact line_err (p := 1) (er := 11) (by show _ = _; rw [hl]; exact Sp.lex_noughts r x hxl) (by rw [← size_list, hl, ← hzl, ← hdl, List.length_cons, List.length_append, size_list, size_list]; omega) 3 (by unfold wrap64; omega) W hW
  have T3 : Hid (∀ W, Env W → ∀ k : UInt8, Sp.isLet k = true → Calls Tryd.prog 16 #[.string (d ++ (⟨#[k]⟩ : ByteArray)), .int .i64 0] W fun e w' => e = .returned (.tuple #[.slice none 0 0, .int .i64 0, .int .i64 11]) ∧ Below W.heap.size W w') := by
    intro W hW k hk
    have hl : (d ++ (⟨#[k]⟩ : ByteArray)).data.toList = Sp.dec x ++ [k] := by simp [hdl]
    exact line_err (p := 0) (er := 11) (by show _ = _; rw [hl]; exact Sp.lex_dec_more x hxl k hk) (by rw [← size_list, hl, ← hdl, List.length_append, size_list]; simp; omega) 0 (by unfold wrap64; omega) W hW
  have T4 : Hid (∀ W, Env W → Calls Tryd.prog 16 #[.string (⟨#[57, 50, 50, 51, 51, 55, 50, 48, 51, 54, 56, 53, 52, 55, 55, 53, 56, 48, 56]⟩ : ByteArray), .int .i64 0] W fun e w' => e = .returned (.tuple #[.slice none 0 0, .int .i64 0, .int .i64 11]) ∧ Below W.heap.size W w') := by
    intro W hW
    exact line_err (s := ⟨#[57, 50, 50, 51, 51, 55, 50, 48, 51, 54, 56, 53, 52, 55, 55, 53, 56, 48, 56]⟩) (p := 0) (er := 11) (by show _ = _; kernel_rfl) (by decide) 0 (by unfold wrap64; omega) W hW
  have T5 : Hid (∀ W, Env W → Calls Tryd.prog 16 #[.string ((⟨#[49]⟩ : ByteArray) ++ d ++ (⟨#[48, 48, 48, 48, 48, 48, 48, 48, 48, 48, 48, 48, 48, 48, 48, 48, 48, 48]⟩ : ByteArray)), .int .i64 0] W fun e w' => e = .returned (.tuple #[.slice none 0 0, .int .i64 0, .int .i64 11]) ∧ Below W.heap.size W w') := by
    intro W hW
    have hl : ((⟨#[49]⟩ : ByteArray) ++ d ++ (⟨#[48, 48, 48, 48, 48, 48, 48, 48, 48, 48, 48, 48, 48, 48, 48, 48, 48, 48]⟩ : ByteArray)).data.toList = 49 :: (Sp.dec x ++ List.replicate 18 48) := by
      simp [hdl]
    exact line_err (p := 0) (er := 11) (by show _ = _; rw [hl]; exact Sp.lex_great x hxl) (by rw [← size_list, hl, ← hdl]; simp [size_list]; omega) 0 (by unfold wrap64; omega) W hW
  have T6 : Hid (∀ W, Env W → Calls Tryd.prog 16 #[.string (d ++ (⟨#[c]⟩ : ByteArray)), .int .i64 0] W fun e w' => ∃ v27 v28 v29, e = .returned (.tuple #[v27, v28, v29]) ∧ (Sp.isLet c = true → v29 = .int .i64 11) ∧ Below W.heap.size W w') := by
    intro W hW
    by_cases hk : Sp.isLet c = true
    · refine (T3.out W hW c hk).mono ?_
      rintro e w' ⟨rfl, h⟩
      exact ⟨_, _, _, rfl, fun _ => rfl, h⟩
    · refine (line_any _ (by simp [ByteArray.size_append]; show d.size + 1 ≤ _; omega) 0 W hW).mono ?_
      rintro e w' ⟨hl, hb⟩
      obtain ⟨v27, v28, v29, he, _⟩ := kind_tuple (kind_of hl)
      exact ⟨v27, v28, v29, he, fun h => absurd h hk, hb⟩
  have T3' : Hid (∀ W, Env W → Calls Tryd.prog 16 #[.string (d ++ (⟨#[95]⟩ : ByteArray)), .int .i64 0] W fun e w' => e = .returned (.tuple #[.slice none 0 0, .int .i64 0, .int .i64 11]) ∧ Below W.heap.size W w') := fun W hW => T3.out W hW 95 (by decide)
  have hcmp := fun wx => eql_tok wx 2 (wrap64 (0 + ((0 : Nat) : Int))) (x : Int) 2 0 (x : Int) ⟨#[]⟩ ⟨#[]⟩ true (by simp [wrap64])
  have HCMP := Lib.hid hcmp
  obtain ⟨lw, HLW⟩ := hid_ex (Sp.isLet c)
  rw [HLW.out] at T6
  clear T3 hcmp hdl hzl HR HZZ
  go_enter Tryd.func10, Tryd.ntmps10
  go_wp2_with fail
  refine (shown_any w hE).mono ?_
  rintro e w1 ⟨rfl, hb1⟩
  go_wp2_with fail
  refine (decimal_is HD hxl w1).mono ?_
  rintro e w2 ⟨rfl, hb2'⟩
  have hb2 := hb1.trans (hb2'.mono hb1.size)
  have hE2 := hE.below hb2 hE.size
  clear hb1 hb2' HD
  go_wp2_with fail
  refine (line_kind HX (by omega) 0 w2 hE2).mono ?_
  rintro e w3 ⟨⟨g, cap, hg, hg2, rfl, a0, a1, a2, a3⟩, hb3'⟩
  have hb3 := hb2.trans (hb3'.mono hb2.size)
  have hE3 := hE.below hb3 hE.size
  clear hb3' hb2 hE2 HX
  simp only at a0 a1 a2 a3
  have hz := HZ.out
  clear HZ
  go_wp2_with fail
  refine (T2.out w3 hE3).mono ?_
  rintro e w4 ⟨rfl, hb4'⟩
  replace a0 := (hb4'.cell (p := ⟨g, 0, none⟩) hg).trans a0
  replace a1 := (hb4'.cell (p := ⟨g, 1, none⟩) hg).trans a1
  replace a2 := (hb4'.cell (p := ⟨g, 2, none⟩) hg).trans a2
  replace a3 := (hb4'.cell (p := ⟨g, 3, none⟩) hg).trans a3
  replace hg := Nat.lt_of_lt_of_le hg hb4'.size
  have hb4 := hb3.trans (hb4'.mono hb3.size)
  have hE4 := hE.below hb4 hE.size
  clear hb4' hb3 hE3 T2 hz
  go_wp2_with fail
  refine (T3'.out w4 hE4).mono ?_
  rintro e w5 ⟨rfl, hb5'⟩
  replace a0 := (hb5'.cell (p := ⟨g, 0, none⟩) hg).trans a0
  replace a1 := (hb5'.cell (p := ⟨g, 1, none⟩) hg).trans a1
  replace a2 := (hb5'.cell (p := ⟨g, 2, none⟩) hg).trans a2
  replace a3 := (hb5'.cell (p := ⟨g, 3, none⟩) hg).trans a3
  replace hg := Nat.lt_of_lt_of_le hg hb5'.size
  have hb5 := hb4.trans (hb5'.mono hb4.size)
  have hE5 := hE.below hb5 hE.size
  clear hb5' hb4 hE4 T3'
  go_wp2_with fail
  refine (T4.out w5 hE5).mono ?_
  rintro e w6 ⟨rfl, hb6'⟩
  replace a0 := (hb6'.cell (p := ⟨g, 0, none⟩) hg).trans a0
  replace a1 := (hb6'.cell (p := ⟨g, 1, none⟩) hg).trans a1
  replace a2 := (hb6'.cell (p := ⟨g, 2, none⟩) hg).trans a2
  replace a3 := (hb6'.cell (p := ⟨g, 3, none⟩) hg).trans a3
  replace hg := Nat.lt_of_lt_of_le hg hb6'.size
  have hb6 := hb5.trans (hb6'.mono hb5.size)
  have hE6 := hE.below hb6 hE.size
  clear hb6' hb5 hE5 T4
  go_wp2_with fail
  refine (T5.out w6 hE6).mono ?_
  rintro e w7 ⟨rfl, hb7'⟩
  replace a0 := (hb7'.cell (p := ⟨g, 0, none⟩) hg).trans a0
  replace a1 := (hb7'.cell (p := ⟨g, 1, none⟩) hg).trans a1
  replace a2 := (hb7'.cell (p := ⟨g, 2, none⟩) hg).trans a2
  replace a3 := (hb7'.cell (p := ⟨g, 3, none⟩) hg).trans a3
  replace hg := Nat.lt_of_lt_of_le hg hb7'.size
  have hb7 := hb6.trans (hb7'.mono hb6.size)
  have hE7 := hE.below hb7 hE.size
  clear hb7' hb6 hE6 T5
  go_upto_region 10 with (fail)
  go_cut [26] (fun v26 wx => v26 = .bool lw ∧ wx = w7)
  case first =>
    clear T6 HCMP a0 a1 a2 a3
    cases g95 : ((c.toNat : Int) == 95)
    all_goals
      go_wp2_with fail
      all_goals
        go_meet
        refine ⟨?_, rfl⟩
        rw [← HLW.out]
        unfold Sp.isLet
        congr 1
        rw [Bool.eq_iff_iff]
        simp at g95 ⊢ <;> omega
  case rest =>
    obtain ⟨rfl, hw⟩ := hcut
    subst hw
    have hbs := lawNames.byte_str c wc
    have hg' : g ≠ wc.heap.size := by omega
    have hb8 : Below w.heap.size w (wc.alloc (Obj.cells #[.int .u8 (c.toNat : Int)] 5)) := hb7.alloc hb7.size _
    have hbA : Below wc.heap.size wc (wc.alloc (Obj.cells #[.int .u8 (c.toNat : Int)] 5)) := (Below.refl _ wc).alloc (Nat.le_refl _) _
    have hE8 := hE.below hb8 hE.size
    go_wp2_with fail
    refine (T6.out _ hE8).mono ?_
    rintro e w9 ⟨v27, v28, v29, rfl, h29, hb9'⟩
    have hb9 := hb8.trans (hb9'.mono hb8.size)
    have hg8 : g < (wc.alloc (Obj.cells #[.int .u8 (c.toNat : Int)] 5)).heap.size := Nat.lt_of_lt_of_le hg hbA.size
    replace a0 := (hb9'.cell (p := ⟨g, 0, none⟩) hg8).trans ((hbA.cell (p := ⟨g, 0, none⟩) hg).trans a0)
    replace a1 := (hb9'.cell (p := ⟨g, 1, none⟩) hg8).trans ((hbA.cell (p := ⟨g, 1, none⟩) hg).trans a1)
    replace a2 := (hb9'.cell (p := ⟨g, 2, none⟩) hg8).trans ((hbA.cell (p := ⟨g, 2, none⟩) hg).trans a2)
    replace a3 := (hb9'.cell (p := ⟨g, 3, none⟩) hg8).trans ((hbA.cell (p := ⟨g, 3, none⟩) hg).trans a3)
    have hcmp := HCMP.out
    generalize wrap64 (0 + ((0 : Nat) : Int)) = zz at a1 hcmp
    clear HCMP hbs hb9' hb8 hbA hE8 T6 hb7 hE7 hg hg8 hg'
    by_cases hlw : lw = true
    · have e29 := h29 hlw
      subst e29
      subst hlw
      clear h29
      go_wp2_with fail
      go_ret
      exact ⟨rfl, hb9⟩
    · have hlf : lw = false := by simpa using hlw
      subst hlf
      clear h29
      go_wp2_with fail
      go_ret
      exact ⟨rfl, hb9⟩
end lawNumbers
end Go.Proofs.YtfomjdaihoaipaaDoor
