/-
  Within brackets it does not matter where lines end, how far in they are, or whether some are empty: it is the same as in one line, but for places (layer 2, P2.1), at this program: the tied card of LayoutWithin. No condition.
-/
import Derived.Test.YtbdjccmcdifjcaaGreatDoorShown
import Derived.Test.YtbdjccmcdifjcaaGreatDoorLsAll
import Derived.Test.YtbdjccmcdifjcaaGreatDoorCards
import Derived.Test.YtbdjccmcdifjcaaGreatDoorTie
import Derived.SevenTiedAt
set_option linter.unusedVariables false
set_option linter.unusedSimpArgs false
namespace Go.Proofs.YtbdjccmcdifjcaaGreatDoor
open Go.RowKit Go.Shelf
namespace lawWithin

theorem itemsL_at (l : List Sp.LineD) (i : Nat) (x : Sp.LineD) (h : l[i]? = some x) (hi : i < 30) : (itemsL (l.take 30))[i]? = some (Sp.wide x.1, x) := by
  unfold itemsL
  rw [List.getElem?_map, List.getElem?_take_of_lt hi, h]
  rfl
theorem take_next {α : Type} (X : List α) (i : Nat) (x : α) (h : X[i]? = some x) : X.take (i + 1) = X.take i ++ [x] := by
  rw [List.take_add_one, h]
  rfl
theorem many_next (k : Nat) (xs : List (Nat × Sp.LineD)) (x : Nat × Sp.LineD) : Sp.manyL k (xs ++ [x]) = Sp.manyL k xs ++ (Sp.ln x.1 x.2 ++ [10]) := by unfold Sp.manyL Sp.srcL; simp
theorem one_next (k : Nat) (xs : List (Nat × Sp.LineD)) (x : Nat × Sp.LineD) : Sp.oneL k (xs ++ [x]) = Sp.oneL k xs ++ 32 :: Sp.ln x.1 (Sp.mute x.2) := by unfold Sp.oneL Sp.rowL; simp

theorem idx0 (a b c : ByteArray) (w : World) : (Instr.index 40 (.agg #[.string a, .string b, .string c]) (.int .i64 0)).run Tryz.prog w = .ok (.string a) w := by
  simp [Instr.index, run_underlying Tryz.underlying40, asIntOf, go_sem, Tryz.underlying40]
theorem idx1 (a b c : ByteArray) (w : World) : (Instr.index 40 (.agg #[.string a, .string b, .string c]) (.int .i64 1)).run Tryz.prog w = .ok (.string b) w := by
  simp [Instr.index, run_underlying Tryz.underlying40, asIntOf, go_sem, Tryz.underlying40]
theorem idx2 (a b c : ByteArray) (w : World) : (Instr.index 40 (.agg #[.string a, .string b, .string c]) (.int .i64 2)).run Tryz.prog w = .ok (.string c) w := by
  simp [Instr.index, run_underlying Tryz.underlying40, asIntOf, go_sem, Tryz.underlying40]

set_option maxHeartbeats 16000000 in
set_option maxRecDepth 100000 in
theorem walk (va : Value) (l : List Sp.LineD) (n : Int) (w : World) (ha : ArgLs va l w) (hbd : ∀ x ∈ l, Bnd x) (hl : l.length ≤ maxLen) (hE : Env w) : Calls Tryz.prog 7 #[va, .int .i64 n] w fun e w' => e = .returned (.bool true) ∧ Below w.heap.size w w' := by
  have HSH := Lib.hid (shown_any2 w hE)
  have HE := Lib.hid hE
  have hEs := hE.size
  have HBD := Lib.hid hbd
  obtain ⟨pa, ca, rfl, fa⟩ := ha
  have FA := Lib.hid fa
  obtain ⟨X, HX⟩ := hid_ex (itemsL (l.take 30))
  have HXn : Hid (X.length = min 30 l.length) := by show _ = _; rw [← HX.out]; unfold itemsL; rw [List.length_map, List.length_take]
  obtain ⟨k, hk⟩ : ∃ k, k = ((n % 65536) % 3).toNat := ⟨_, rfl⟩
  have hk3 : k = 0 ∨ k = 1 ∨ k = 2 := by omega
  have handn := i64_and65535 n
  have hremn : (n % 65536).tmod 3 = (k : Int) := by rw [Int.tmod_eq_emod_of_nonneg (by omega)]; omega
  unfold maxLen at hl
  clear hE hbd fa hk
  rcases hk3 with rfl | rfl | rfl
  · have hr : (n % 65536).tmod 3 = 0 := hremn
    have hidx := idx0
    clear hremn
    go_enter Tryz.func7, Tryz.ntmps7
    go_wp2_with fail
    refine HSH.out.mono ?_
    rintro e w1 ⟨rfl, hb1⟩
    clear HSH
    simp only []
    go_wp2_with fail
    go_loopw [9, 10, 11] (fun v9 v10 v11 wr => ∃ (i : Nat) (sa sb : ByteArray), v11 = .int .i64 (i : Int) ∧ v9 = .string sa ∧ v10 = .string sb ∧ i ≤ X.length ∧ sa.size ≤ 3 + 699 * i ∧ sb.size ≤ 2 + 699 * i ∧ Hid (sa.data.toList = Sp.manyL 0 (X.take i)) ∧ Hid (sb.data.toList = Sp.oneL 0 (X.take i)) ∧ Below w.heap.size w wr) (fun _ _ v11 _ => X.length - (intOf v11).toNat)
    case atStart => exact ⟨0, _, _, rfl, rfl, rfl, Nat.zero_le _, by decide, by decide, rfl, rfl, hb1⟩
    case round =>
      obtain ⟨i, sa, sb, rfl, rfl, rfl, hix, hsa, hsb, HSA, HSB, hbel⟩ := hrel
      have hxl := HXn.out
      have HBW : Hid (Below w.heap.size w wr) := hbel
      by_cases hlt : i < X.length
      · obtain ⟨x, hx⟩ : ∃ x, l[i]? = some x := ⟨_, List.getElem?_eq_getElem (by omega)⟩
        have hX : X[i]? = some (Sp.wide x.1, x) := by rw [← HX.out]; exact itemsL_at l i x hx (by omega)
        have hbx := HBD.out x (List.mem_of_getElem? hx)
        obtain ⟨ga, oa, vt, rfl, hga, a0, a1, a2, a3, a4⟩ := FA.out i x hx
        have b0 := (HBW.out.cell (p := ⟨ga, oa + i * 4, none⟩) hga).trans a0
        have b1 := (HBW.out.cell (p := ⟨ga, oa + i * 4 + 1, none⟩) hga).trans a1
        have b2 := (HBW.out.cell (p := ⟨ga, oa + i * 4 + 2, none⟩) hga).trans a2
        have b3 := (HBW.out.cell (p := ⟨ga, oa + i * 4 + 3, none⟩) hga).trans a3
        obtain ⟨pu, cu, hvu, _⟩ := id a4
        have hnx := take_next X i _ hX
        have hy12 := Sp.wide_lt x.1
        obtain ⟨tb, htb⟩ : ∃ tb : ByteArray, tb = ⟨(Sp.txt x).toArray⟩ := ⟨_, rfl⟩
        have htl : tb.data.toList = Sp.ln (Sp.wide x.1) x := by rw [htb]; rfl
        have hts : tb.size ≤ 698 := by
          rw [← size_list, htl]
          have h1 := Sp.ln_size (Sp.wide x.1) x
          omega
        obtain ⟨ub, hub⟩ : ∃ ub : ByteArray, ub = ⟨(Sp.txt (Sp.mute x)).toArray⟩ := ⟨_, rfl⟩
        have hul : ub.data.toList = Sp.ln (Sp.wide x.1) (Sp.mute x) := by rw [hub]; rfl
        have hus : ub.size ≤ 698 := by
          rw [← size_list, hul]
          have h1 := Sp.ln_size (Sp.wide x.1) (Sp.mute x)
          omega
        have HT : Hid (∀ w', Below w.heap.size w w' → Calls Tryz.prog 12 #[.agg #[.int .i64 x.1, vt, .bool x.2.2.1, .string ⟨x.2.2.2.toArray⟩]] w' fun e w'' => e = .returned (.string tb) ∧ Below w'.heap.size w' w'') := by
          intro w' hb
          rw [htb]
          exact ltext_any _ x w' ⟨vt, rfl, a4.below hb⟩ hbx
        have HU : Hid (∀ w', Below w.heap.size w w' → Calls Tryz.prog 12 #[.agg #[.int .i64 x.1, vt, .bool x.2.2.1, .string ⟨#[]⟩]] w' fun e w'' => e = .returned (.string ub) ∧ Below w'.heap.size w' w'') := by
          intro w' hb
          rw [hub]
          exact ltext_any _ (Sp.mute x) w' ⟨vt, rfl, a4.below hb⟩ ⟨hbx.1, hbx.2.1, Nat.zero_le _⟩
        have i1 : (i : Int) < (l.length : Int) := by omega
        have i2 : (i : Int) < 30 := by omega
        have hix30 : X.length ≤ 30 := by omega
        have HX1 := Lib.hid hlt
        have HSA2 : Hid ((sa ++ tb ++ (⟨#[10]⟩ : ByteArray)).data.toList = Sp.manyL 0 (X.take (i + 1))) := by
          show _ = _
          rw [hnx, many_next, ← HSA.out, ← htl]
          simp
        have HSB2 : Hid ((sb ++ (⟨#[32]⟩ : ByteArray) ++ ub).data.toList = Sp.oneL 0 (X.take (i + 1))) := by
          show _ = _
          rw [hnx, one_next, ← HSB.out, ← hul]
          simp
        have hza : (sa ++ tb ++ (⟨#[10]⟩ : ByteArray)).size ≤ 3 + 699 * (i + 1) := by
          simp only [ByteArray.size_append]
          show sa.size + tb.size + 1 ≤ _
          omega
        have hzb : (sb ++ (⟨#[32]⟩ : ByteArray) ++ ub).size ≤ 2 + 699 * (i + 1) := by
          simp only [ByteArray.size_append]
          show sb.size + 1 + ub.size ≤ _
          omega
        obtain ⟨xc, hxc⟩ : ∃ xc : ByteArray, xc = ⟨x.2.2.2.toArray⟩ := ⟨_, rfl⟩
        rw [← hxc] at b3 HT
        obtain ⟨x0, x1, x2, x3⟩ := x
        simp only at b0 b2 HT HU hvu
        obtain ⟨ny, hny⟩ : ∃ ny, ny = x1.length := ⟨_, rfl⟩
        rw [← hny] at hvu
        subst hvu
        clear hnx htb htl hub hul hX hx hbx HX HXn hxl hlt a0 a1 a2 a3 a4 FA HBD HSA HSB hxc hny hy12
        have hb0 : Below w.heap.size w (wr.alloc (Obj.cells #[.int .i64 x0, .slice pu ny cu, .bool x2, .string xc] 27)) := HBW.out.alloc HBW.out.size _
        have HT0 := Lib.hid (HT.out _ hb0)
        have hwrs := HBW.out.size
        clear hbel HT
        go_wp2_with fail
        refine HT0.out.mono ?_
        rintro e w4 ⟨rfl, hb4⟩
        have hh : w4.heap[wr.heap.size]? = some (.cells #[.int .i64 x0, .slice pu ny cu, .bool x2, .string xc] 27) := by
          rw [hb4.block wr.heap.size (by simp)]
          show (wr.heap.push _)[wr.heap.size]? = _
          simp
        have k0 : w4.cell? ⟨wr.heap.size, 0, none⟩ = some (.int .i64 x0) := by simp [World.cell?, hh]
        have k1 : w4.cell? ⟨wr.heap.size, 1, none⟩ = some (.slice pu ny cu) := by simp [World.cell?, hh]
        have k2 : w4.cell? ⟨wr.heap.size, 2, none⟩ = some (.bool x2) := by simp [World.cell?, hh]
        have k3 : w4.cell? ⟨wr.heap.size, 3, none⟩ = some (.string xc) := by simp [World.cell?, hh]
        have z3 : w4.frozen? ⟨wr.heap.size, 3, none⟩ = false := Lib.frozen_of_heap hh 3
        have hbw4 : Below w.heap.size w w4 := hb0.trans (hb4.mono hb0.size)
        have hbw5 : Below w.heap.size w (w4.setCell ⟨wr.heap.size, 3, none⟩ (.string ⟨#[]⟩)) := hbw4.setCell (p := ⟨wr.heap.size, 3, none⟩) hwrs _
        have HU0 := Lib.hid (HU.out _ hbw5)
        clear hb4 hh HT0 hb0 HBW b0 b1 b2 b3 hbw4 HU
        simp only []
        go_wp2_with fail
        refine HU0.out.mono ?_
        rintro e w6 ⟨rfl, hb6⟩
        have hbel6 : Below w.heap.size w w6 := hbw5.trans (hb6.mono hbw5.size)
        clear hb6 HU0 hbw5 k0 k1 k2 k3 z3
        simp only []
        go_wp2_with fail
        exact ⟨⟨i + 1, _, _, by go_num, rfl, rfl, HX1.out, hza, hzb, HSA2, HSB2, hbel6⟩, by have := HX1.out; simp [intOf]; omega⟩
      · obtain rfl : i = X.length := by omega
        have hg : ¬ (X.length : Int) < (l.length : Int) ∨ ((X.length : Int) < (l.length : Int) ∧ ¬ (X.length : Int) < 30) := by omega
        have hix30 : X.length ≤ 30 := by omega
        have hsa2 := HSA.out
        have hsb2 := HSB.out
        rw [List.take_length] at hsa2 hsb2
        obtain ⟨la, lb, hA, hB, hbare⟩ := Sp.layL_within 0 X
        have hC := Sp.layL_left 0 X
        obtain ⟨ma, hma⟩ : ∃ ma : ByteArray, ma = sa ++ (⟨#[41]⟩ : ByteArray) ++ (⟨#[10]⟩ : ByteArray) := ⟨_, rfl⟩
        obtain ⟨mb, hmb⟩ : ∃ mb : ByteArray, mb = sb ++ (⟨#[41]⟩ : ByteArray) := ⟨_, rfl⟩
        have hmal : ma.data.toList = Sp.manyL 0 X ++ [Sp.shB 0, 10] := by
          rw [hma, ← hsa2]
          simp [Sp.shB]
        have hmbl : mb.data.toList = Sp.oneL 0 X ++ [Sp.shB 0] := by
          rw [hmb, ← hsb2]
          simp [Sp.shB]
        have hmas : ma.size ≤ 30000 := by
          rw [hma]
          simp only [ByteArray.size_append]
          show sa.size + 1 + 1 ≤ _
          omega
        have hmbs : mb.size ≤ 30000 := by
          rw [hmb]
          simp only [ByteArray.size_append]
          show sb.size + 1 ≤ _
          omega
        rw [← hmal] at hA
        rw [← hmbl] at hB
        rw [← hsa2] at hC
        have hla : la.length ≤ 1000000 := by
          have := Sp.layL_len hA
          rw [size_list] at this
          omega
        have HT1 : Hid (∀ w', Below w.heap.size w w' → Calls Tryz.prog 13 #[.string ma] w' fun e w'' => (∃ v, e = .returned (.tuple #[v, .int .i64 0, .int .i64 0]) ∧ Row4 w'.heap.size v la w'') ∧ Below w'.heap.size w' w'') := by
          intro w' hb
          have := tokens_any ma (by omega) w' (HE.out.below hb hEs)
          rw [hA] at this
          exact this
        have HT2 : Hid (∀ w', Below w.heap.size w w' → Calls Tryz.prog 13 #[.string mb] w' fun e w'' => (∃ v, e = .returned (.tuple #[v, .int .i64 0, .int .i64 0]) ∧ Row4 w'.heap.size v lb w'') ∧ Below w'.heap.size w' w'') := by
          intro w' hb
          have := tokens_any mb (by omega) w' (HE.out.below hb hEs)
          rw [hB] at this
          exact this
        have HT3 : Hid (∀ w', Below w.heap.size w w' → Calls Tryz.prog 13 #[.string sa] w' fun e w'' => e = .returned (.tuple #[.slice none 0 0, .int .i64 1, .int .i64 21]) ∧ Below w'.heap.size w' w'') := by
          intro w' hb
          have := tokens_any sa (by omega) w' (HE.out.below hb hEs)
          rw [hC] at this
          exact this
        have HBARE := Lib.hid hbare
        have HMA := Lib.hid hma
        have HMB := Lib.hid hmb
        have H1 := Lib.hid (HT1.out wr HBW.out)
        clear FA HBD HX HXn hxl hlt hsa2 hsb2 HSA HSB hA hB hC hbare hma hmb hmal hmbl hmas hmbs HE hbel HT1
        rcases hg with h1 | ⟨h1, h2⟩
        all_goals
          go_wp2_with fail
          rw [← HMA.out]
          refine H1.out.mono ?_
          rintro e w2 ⟨⟨v1, rfl, hr1⟩, hb2⟩
          have HB2 : Hid (Below w.heap.size w w2) := HBW.out.trans (hb2.mono HBW.out.size)
          have HR1 := Lib.hid hr1
          have H2 := Lib.hid (HT2.out w2 HB2.out)
          clear hb2 hr1 H1 HBW HT2
          simp only []
          go_wp2_with fail
          rw [← HMB.out]
          refine H2.out.mono ?_
          rintro e w3 ⟨⟨v2, rfl, hr2⟩, hb3⟩
          have HB3 : Hid (Below w.heap.size w w3) := HB2.out.trans (hb3.mono HB2.out.size)
          have HR1' := Lib.hid (HR1.out.below hb3)
          have HR2 := Lib.hid hr2
          have H3 := Lib.hid (HT3.out w3 HB3.out)
          clear hb3 hr2 H2 HB2 HT3 HR1
          simp only []
          go_wp2_with fail
          refine H3.out.mono ?_
          rintro e w4 ⟨rfl, hb4⟩
          have HB4 : Hid (Below w.heap.size w w4) := HB3.out.trans (hb4.mono HB3.out.size)
          have HAL := Lib.hid (alike_any _ _ v1 v2 la lb w4 (HR1'.out.below hb4) (HR2.out.below hb4) HBARE hla)
          clear hb4 H3 HB3 HR1' HR2
          simp only []
          go_wp2_with fail
          refine HAL.out.mono ?_
          rintro e w5 ⟨rfl, hb5⟩
          have HB5 : Hid (Below w.heap.size w w5) := HB4.out.trans (hb5.mono HB4.out.size)
          clear HAL hb5 HB4
          simp only []
          go_wp2_with fail
          go_ret
          exact ⟨rfl, HB5.out⟩
  · have hr : (n % 65536).tmod 3 = 1 := hremn
    have hidx := idx1
    clear hremn
    go_enter Tryz.func7, Tryz.ntmps7
    go_wp2_with fail
    refine HSH.out.mono ?_
    rintro e w1 ⟨rfl, hb1⟩
    clear HSH
    simp only []
    go_wp2_with fail
    go_loopw [9, 10, 11] (fun v9 v10 v11 wr => ∃ (i : Nat) (sa sb : ByteArray), v11 = .int .i64 (i : Int) ∧ v9 = .string sa ∧ v10 = .string sb ∧ i ≤ X.length ∧ sa.size ≤ 3 + 699 * i ∧ sb.size ≤ 2 + 699 * i ∧ Hid (sa.data.toList = Sp.manyL 1 (X.take i)) ∧ Hid (sb.data.toList = Sp.oneL 1 (X.take i)) ∧ Below w.heap.size w wr) (fun _ _ v11 _ => X.length - (intOf v11).toNat)
    case atStart => exact ⟨0, _, _, rfl, rfl, rfl, Nat.zero_le _, by decide, by decide, rfl, rfl, hb1⟩
    case round =>
      obtain ⟨i, sa, sb, rfl, rfl, rfl, hix, hsa, hsb, HSA, HSB, hbel⟩ := hrel
      have hxl := HXn.out
      have HBW : Hid (Below w.heap.size w wr) := hbel
      by_cases hlt : i < X.length
      · obtain ⟨x, hx⟩ : ∃ x, l[i]? = some x := ⟨_, List.getElem?_eq_getElem (by omega)⟩
        have hX : X[i]? = some (Sp.wide x.1, x) := by rw [← HX.out]; exact itemsL_at l i x hx (by omega)
        have hbx := HBD.out x (List.mem_of_getElem? hx)
        obtain ⟨ga, oa, vt, rfl, hga, a0, a1, a2, a3, a4⟩ := FA.out i x hx
        have b0 := (HBW.out.cell (p := ⟨ga, oa + i * 4, none⟩) hga).trans a0
        have b1 := (HBW.out.cell (p := ⟨ga, oa + i * 4 + 1, none⟩) hga).trans a1
        have b2 := (HBW.out.cell (p := ⟨ga, oa + i * 4 + 2, none⟩) hga).trans a2
        have b3 := (HBW.out.cell (p := ⟨ga, oa + i * 4 + 3, none⟩) hga).trans a3
        obtain ⟨pu, cu, hvu, _⟩ := id a4
        have hnx := take_next X i _ hX
        have hy12 := Sp.wide_lt x.1
        obtain ⟨tb, htb⟩ : ∃ tb : ByteArray, tb = ⟨(Sp.txt x).toArray⟩ := ⟨_, rfl⟩
        have htl : tb.data.toList = Sp.ln (Sp.wide x.1) x := by rw [htb]; rfl
        have hts : tb.size ≤ 698 := by
          rw [← size_list, htl]
          have h1 := Sp.ln_size (Sp.wide x.1) x
          omega
        obtain ⟨ub, hub⟩ : ∃ ub : ByteArray, ub = ⟨(Sp.txt (Sp.mute x)).toArray⟩ := ⟨_, rfl⟩
        have hul : ub.data.toList = Sp.ln (Sp.wide x.1) (Sp.mute x) := by rw [hub]; rfl
        have hus : ub.size ≤ 698 := by
          rw [← size_list, hul]
          have h1 := Sp.ln_size (Sp.wide x.1) (Sp.mute x)
          omega
        have HT : Hid (∀ w', Below w.heap.size w w' → Calls Tryz.prog 12 #[.agg #[.int .i64 x.1, vt, .bool x.2.2.1, .string ⟨x.2.2.2.toArray⟩]] w' fun e w'' => e = .returned (.string tb) ∧ Below w'.heap.size w' w'') := by
          intro w' hb
          rw [htb]
          exact ltext_any _ x w' ⟨vt, rfl, a4.below hb⟩ hbx
        have HU : Hid (∀ w', Below w.heap.size w w' → Calls Tryz.prog 12 #[.agg #[.int .i64 x.1, vt, .bool x.2.2.1, .string ⟨#[]⟩]] w' fun e w'' => e = .returned (.string ub) ∧ Below w'.heap.size w' w'') := by
          intro w' hb
          rw [hub]
          exact ltext_any _ (Sp.mute x) w' ⟨vt, rfl, a4.below hb⟩ ⟨hbx.1, hbx.2.1, Nat.zero_le _⟩
        have i1 : (i : Int) < (l.length : Int) := by omega
        have i2 : (i : Int) < 30 := by omega
        have hix30 : X.length ≤ 30 := by omega
        have HX1 := Lib.hid hlt
        have HSA2 : Hid ((sa ++ tb ++ (⟨#[10]⟩ : ByteArray)).data.toList = Sp.manyL 1 (X.take (i + 1))) := by
          show _ = _
          rw [hnx, many_next, ← HSA.out, ← htl]
          simp
        have HSB2 : Hid ((sb ++ (⟨#[32]⟩ : ByteArray) ++ ub).data.toList = Sp.oneL 1 (X.take (i + 1))) := by
          show _ = _
          rw [hnx, one_next, ← HSB.out, ← hul]
          simp
        have hza : (sa ++ tb ++ (⟨#[10]⟩ : ByteArray)).size ≤ 3 + 699 * (i + 1) := by
          simp only [ByteArray.size_append]
          show sa.size + tb.size + 1 ≤ _
          omega
        have hzb : (sb ++ (⟨#[32]⟩ : ByteArray) ++ ub).size ≤ 2 + 699 * (i + 1) := by
          simp only [ByteArray.size_append]
          show sb.size + 1 + ub.size ≤ _
          omega
        obtain ⟨xc, hxc⟩ : ∃ xc : ByteArray, xc = ⟨x.2.2.2.toArray⟩ := ⟨_, rfl⟩
        rw [← hxc] at b3 HT
        obtain ⟨x0, x1, x2, x3⟩ := x
        simp only at b0 b2 HT HU hvu
        obtain ⟨ny, hny⟩ : ∃ ny, ny = x1.length := ⟨_, rfl⟩
        rw [← hny] at hvu
        subst hvu
        clear hnx htb htl hub hul hX hx hbx HX HXn hxl hlt a0 a1 a2 a3 a4 FA HBD HSA HSB hxc hny hy12
        have hb0 : Below w.heap.size w (wr.alloc (Obj.cells #[.int .i64 x0, .slice pu ny cu, .bool x2, .string xc] 27)) := HBW.out.alloc HBW.out.size _
        have HT0 := Lib.hid (HT.out _ hb0)
        have hwrs := HBW.out.size
        clear hbel HT
        go_wp2_with fail
        refine HT0.out.mono ?_
        rintro e w4 ⟨rfl, hb4⟩
        have hh : w4.heap[wr.heap.size]? = some (.cells #[.int .i64 x0, .slice pu ny cu, .bool x2, .string xc] 27) := by
          rw [hb4.block wr.heap.size (by simp)]
          show (wr.heap.push _)[wr.heap.size]? = _
          simp
        have k0 : w4.cell? ⟨wr.heap.size, 0, none⟩ = some (.int .i64 x0) := by simp [World.cell?, hh]
        have k1 : w4.cell? ⟨wr.heap.size, 1, none⟩ = some (.slice pu ny cu) := by simp [World.cell?, hh]
        have k2 : w4.cell? ⟨wr.heap.size, 2, none⟩ = some (.bool x2) := by simp [World.cell?, hh]
        have k3 : w4.cell? ⟨wr.heap.size, 3, none⟩ = some (.string xc) := by simp [World.cell?, hh]
        have z3 : w4.frozen? ⟨wr.heap.size, 3, none⟩ = false := Lib.frozen_of_heap hh 3
        have hbw4 : Below w.heap.size w w4 := hb0.trans (hb4.mono hb0.size)
        have hbw5 : Below w.heap.size w (w4.setCell ⟨wr.heap.size, 3, none⟩ (.string ⟨#[]⟩)) := hbw4.setCell (p := ⟨wr.heap.size, 3, none⟩) hwrs _
        have HU0 := Lib.hid (HU.out _ hbw5)
        clear hb4 hh HT0 hb0 HBW b0 b1 b2 b3 hbw4 HU
        simp only []
        go_wp2_with fail
        refine HU0.out.mono ?_
        rintro e w6 ⟨rfl, hb6⟩
        have hbel6 : Below w.heap.size w w6 := hbw5.trans (hb6.mono hbw5.size)
        clear hb6 HU0 hbw5 k0 k1 k2 k3 z3
        simp only []
        go_wp2_with fail
        exact ⟨⟨i + 1, _, _, by go_num, rfl, rfl, HX1.out, hza, hzb, HSA2, HSB2, hbel6⟩, by have := HX1.out; simp [intOf]; omega⟩
      · obtain rfl : i = X.length := by omega
        have hg : ¬ (X.length : Int) < (l.length : Int) ∨ ((X.length : Int) < (l.length : Int) ∧ ¬ (X.length : Int) < 30) := by omega
        have hix30 : X.length ≤ 30 := by omega
        have hsa2 := HSA.out
        have hsb2 := HSB.out
        rw [List.take_length] at hsa2 hsb2
        obtain ⟨la, lb, hA, hB, hbare⟩ := Sp.layL_within 1 X
        have hC := Sp.layL_left 1 X
        obtain ⟨ma, hma⟩ : ∃ ma : ByteArray, ma = sa ++ (⟨#[93]⟩ : ByteArray) ++ (⟨#[10]⟩ : ByteArray) := ⟨_, rfl⟩
        obtain ⟨mb, hmb⟩ : ∃ mb : ByteArray, mb = sb ++ (⟨#[93]⟩ : ByteArray) := ⟨_, rfl⟩
        have hmal : ma.data.toList = Sp.manyL 1 X ++ [Sp.shB 1, 10] := by
          rw [hma, ← hsa2]
          simp [Sp.shB]
        have hmbl : mb.data.toList = Sp.oneL 1 X ++ [Sp.shB 1] := by
          rw [hmb, ← hsb2]
          simp [Sp.shB]
        have hmas : ma.size ≤ 30000 := by
          rw [hma]
          simp only [ByteArray.size_append]
          show sa.size + 1 + 1 ≤ _
          omega
        have hmbs : mb.size ≤ 30000 := by
          rw [hmb]
          simp only [ByteArray.size_append]
          show sb.size + 1 ≤ _
          omega
        rw [← hmal] at hA
        rw [← hmbl] at hB
        rw [← hsa2] at hC
        have hla : la.length ≤ 1000000 := by
          have := Sp.layL_len hA
          rw [size_list] at this
          omega
        have HT1 : Hid (∀ w', Below w.heap.size w w' → Calls Tryz.prog 13 #[.string ma] w' fun e w'' => (∃ v, e = .returned (.tuple #[v, .int .i64 0, .int .i64 0]) ∧ Row4 w'.heap.size v la w'') ∧ Below w'.heap.size w' w'') := by
          intro w' hb
          have := tokens_any ma (by omega) w' (HE.out.below hb hEs)
          rw [hA] at this
          exact this
        have HT2 : Hid (∀ w', Below w.heap.size w w' → Calls Tryz.prog 13 #[.string mb] w' fun e w'' => (∃ v, e = .returned (.tuple #[v, .int .i64 0, .int .i64 0]) ∧ Row4 w'.heap.size v lb w'') ∧ Below w'.heap.size w' w'') := by
          intro w' hb
          have := tokens_any mb (by omega) w' (HE.out.below hb hEs)
          rw [hB] at this
          exact this
        have HT3 : Hid (∀ w', Below w.heap.size w w' → Calls Tryz.prog 13 #[.string sa] w' fun e w'' => e = .returned (.tuple #[.slice none 0 0, .int .i64 1, .int .i64 21]) ∧ Below w'.heap.size w' w'') := by
          intro w' hb
          have := tokens_any sa (by omega) w' (HE.out.below hb hEs)
          rw [hC] at this
          exact this
        have HBARE := Lib.hid hbare
        have HMA := Lib.hid hma
        have HMB := Lib.hid hmb
        have H1 := Lib.hid (HT1.out wr HBW.out)
        clear FA HBD HX HXn hxl hlt hsa2 hsb2 HSA HSB hA hB hC hbare hma hmb hmal hmbl hmas hmbs HE hbel HT1
        rcases hg with h1 | ⟨h1, h2⟩
        all_goals
          go_wp2_with fail
          rw [← HMA.out]
          refine H1.out.mono ?_
          rintro e w2 ⟨⟨v1, rfl, hr1⟩, hb2⟩
          have HB2 : Hid (Below w.heap.size w w2) := HBW.out.trans (hb2.mono HBW.out.size)
          have HR1 := Lib.hid hr1
          have H2 := Lib.hid (HT2.out w2 HB2.out)
          clear hb2 hr1 H1 HBW HT2
          simp only []
          go_wp2_with fail
          rw [← HMB.out]
          refine H2.out.mono ?_
          rintro e w3 ⟨⟨v2, rfl, hr2⟩, hb3⟩
          have HB3 : Hid (Below w.heap.size w w3) := HB2.out.trans (hb3.mono HB2.out.size)
          have HR1' := Lib.hid (HR1.out.below hb3)
          have HR2 := Lib.hid hr2
          have H3 := Lib.hid (HT3.out w3 HB3.out)
          clear hb3 hr2 H2 HB2 HT3 HR1
          simp only []
          go_wp2_with fail
          refine H3.out.mono ?_
          rintro e w4 ⟨rfl, hb4⟩
          have HB4 : Hid (Below w.heap.size w w4) := HB3.out.trans (hb4.mono HB3.out.size)
          have HAL := Lib.hid (alike_any _ _ v1 v2 la lb w4 (HR1'.out.below hb4) (HR2.out.below hb4) HBARE hla)
          clear hb4 H3 HB3 HR1' HR2
          simp only []
          go_wp2_with fail
          refine HAL.out.mono ?_
          rintro e w5 ⟨rfl, hb5⟩
          have HB5 : Hid (Below w.heap.size w w5) := HB4.out.trans (hb5.mono HB4.out.size)
          clear HAL hb5 HB4
          simp only []
          go_wp2_with fail
          go_ret
          exact ⟨rfl, HB5.out⟩
  · have hr : (n % 65536).tmod 3 = 2 := hremn
    have hidx := idx2
    clear hremn
    go_enter Tryz.func7, Tryz.ntmps7
    go_wp2_with fail
    refine HSH.out.mono ?_
    rintro e w1 ⟨rfl, hb1⟩
    clear HSH
    simp only []
    go_wp2_with fail
    go_loopw [9, 10, 11] (fun v9 v10 v11 wr => ∃ (i : Nat) (sa sb : ByteArray), v11 = .int .i64 (i : Int) ∧ v9 = .string sa ∧ v10 = .string sb ∧ i ≤ X.length ∧ sa.size ≤ 3 + 699 * i ∧ sb.size ≤ 2 + 699 * i ∧ Hid (sa.data.toList = Sp.manyL 2 (X.take i)) ∧ Hid (sb.data.toList = Sp.oneL 2 (X.take i)) ∧ Below w.heap.size w wr) (fun _ _ v11 _ => X.length - (intOf v11).toNat)
    case atStart => exact ⟨0, _, _, rfl, rfl, rfl, Nat.zero_le _, by decide, by decide, rfl, rfl, hb1⟩
    case round =>
      obtain ⟨i, sa, sb, rfl, rfl, rfl, hix, hsa, hsb, HSA, HSB, hbel⟩ := hrel
      have hxl := HXn.out
      have HBW : Hid (Below w.heap.size w wr) := hbel
      by_cases hlt : i < X.length
      · obtain ⟨x, hx⟩ : ∃ x, l[i]? = some x := ⟨_, List.getElem?_eq_getElem (by omega)⟩
        have hX : X[i]? = some (Sp.wide x.1, x) := by rw [← HX.out]; exact itemsL_at l i x hx (by omega)
        have hbx := HBD.out x (List.mem_of_getElem? hx)
        obtain ⟨ga, oa, vt, rfl, hga, a0, a1, a2, a3, a4⟩ := FA.out i x hx
        have b0 := (HBW.out.cell (p := ⟨ga, oa + i * 4, none⟩) hga).trans a0
        have b1 := (HBW.out.cell (p := ⟨ga, oa + i * 4 + 1, none⟩) hga).trans a1
        have b2 := (HBW.out.cell (p := ⟨ga, oa + i * 4 + 2, none⟩) hga).trans a2
        have b3 := (HBW.out.cell (p := ⟨ga, oa + i * 4 + 3, none⟩) hga).trans a3
        obtain ⟨pu, cu, hvu, _⟩ := id a4
        have hnx := take_next X i _ hX
        have hy12 := Sp.wide_lt x.1
        obtain ⟨tb, htb⟩ : ∃ tb : ByteArray, tb = ⟨(Sp.txt x).toArray⟩ := ⟨_, rfl⟩
        have htl : tb.data.toList = Sp.ln (Sp.wide x.1) x := by rw [htb]; rfl
        have hts : tb.size ≤ 698 := by
          rw [← size_list, htl]
          have h1 := Sp.ln_size (Sp.wide x.1) x
          omega
        obtain ⟨ub, hub⟩ : ∃ ub : ByteArray, ub = ⟨(Sp.txt (Sp.mute x)).toArray⟩ := ⟨_, rfl⟩
        have hul : ub.data.toList = Sp.ln (Sp.wide x.1) (Sp.mute x) := by rw [hub]; rfl
        have hus : ub.size ≤ 698 := by
          rw [← size_list, hul]
          have h1 := Sp.ln_size (Sp.wide x.1) (Sp.mute x)
          omega
        have HT : Hid (∀ w', Below w.heap.size w w' → Calls Tryz.prog 12 #[.agg #[.int .i64 x.1, vt, .bool x.2.2.1, .string ⟨x.2.2.2.toArray⟩]] w' fun e w'' => e = .returned (.string tb) ∧ Below w'.heap.size w' w'') := by
          intro w' hb
          rw [htb]
          exact ltext_any _ x w' ⟨vt, rfl, a4.below hb⟩ hbx
        have HU : Hid (∀ w', Below w.heap.size w w' → Calls Tryz.prog 12 #[.agg #[.int .i64 x.1, vt, .bool x.2.2.1, .string ⟨#[]⟩]] w' fun e w'' => e = .returned (.string ub) ∧ Below w'.heap.size w' w'') := by
          intro w' hb
          rw [hub]
          exact ltext_any _ (Sp.mute x) w' ⟨vt, rfl, a4.below hb⟩ ⟨hbx.1, hbx.2.1, Nat.zero_le _⟩
        have i1 : (i : Int) < (l.length : Int) := by omega
        have i2 : (i : Int) < 30 := by omega
        have hix30 : X.length ≤ 30 := by omega
        have HX1 := Lib.hid hlt
        have HSA2 : Hid ((sa ++ tb ++ (⟨#[10]⟩ : ByteArray)).data.toList = Sp.manyL 2 (X.take (i + 1))) := by
          show _ = _
          rw [hnx, many_next, ← HSA.out, ← htl]
          simp
        have HSB2 : Hid ((sb ++ (⟨#[32]⟩ : ByteArray) ++ ub).data.toList = Sp.oneL 2 (X.take (i + 1))) := by
          show _ = _
          rw [hnx, one_next, ← HSB.out, ← hul]
          simp
        have hza : (sa ++ tb ++ (⟨#[10]⟩ : ByteArray)).size ≤ 3 + 699 * (i + 1) := by
          simp only [ByteArray.size_append]
          show sa.size + tb.size + 1 ≤ _
          omega
        have hzb : (sb ++ (⟨#[32]⟩ : ByteArray) ++ ub).size ≤ 2 + 699 * (i + 1) := by
          simp only [ByteArray.size_append]
          show sb.size + 1 + ub.size ≤ _
          omega
        obtain ⟨xc, hxc⟩ : ∃ xc : ByteArray, xc = ⟨x.2.2.2.toArray⟩ := ⟨_, rfl⟩
        rw [← hxc] at b3 HT
        obtain ⟨x0, x1, x2, x3⟩ := x
        simp only at b0 b2 HT HU hvu
        obtain ⟨ny, hny⟩ : ∃ ny, ny = x1.length := ⟨_, rfl⟩
        rw [← hny] at hvu
        subst hvu
        clear hnx htb htl hub hul hX hx hbx HX HXn hxl hlt a0 a1 a2 a3 a4 FA HBD HSA HSB hxc hny hy12
        have hb0 : Below w.heap.size w (wr.alloc (Obj.cells #[.int .i64 x0, .slice pu ny cu, .bool x2, .string xc] 27)) := HBW.out.alloc HBW.out.size _
        have HT0 := Lib.hid (HT.out _ hb0)
        have hwrs := HBW.out.size
        clear hbel HT
        go_wp2_with fail
        refine HT0.out.mono ?_
        rintro e w4 ⟨rfl, hb4⟩
        have hh : w4.heap[wr.heap.size]? = some (.cells #[.int .i64 x0, .slice pu ny cu, .bool x2, .string xc] 27) := by
          rw [hb4.block wr.heap.size (by simp)]
          show (wr.heap.push _)[wr.heap.size]? = _
          simp
        have k0 : w4.cell? ⟨wr.heap.size, 0, none⟩ = some (.int .i64 x0) := by simp [World.cell?, hh]
        have k1 : w4.cell? ⟨wr.heap.size, 1, none⟩ = some (.slice pu ny cu) := by simp [World.cell?, hh]
        have k2 : w4.cell? ⟨wr.heap.size, 2, none⟩ = some (.bool x2) := by simp [World.cell?, hh]
        have k3 : w4.cell? ⟨wr.heap.size, 3, none⟩ = some (.string xc) := by simp [World.cell?, hh]
        have z3 : w4.frozen? ⟨wr.heap.size, 3, none⟩ = false := Lib.frozen_of_heap hh 3
        have hbw4 : Below w.heap.size w w4 := hb0.trans (hb4.mono hb0.size)
        have hbw5 : Below w.heap.size w (w4.setCell ⟨wr.heap.size, 3, none⟩ (.string ⟨#[]⟩)) := hbw4.setCell (p := ⟨wr.heap.size, 3, none⟩) hwrs _
        have HU0 := Lib.hid (HU.out _ hbw5)
        clear hb4 hh HT0 hb0 HBW b0 b1 b2 b3 hbw4 HU
        simp only []
        go_wp2_with fail
        refine HU0.out.mono ?_
        rintro e w6 ⟨rfl, hb6⟩
        have hbel6 : Below w.heap.size w w6 := hbw5.trans (hb6.mono hbw5.size)
        clear hb6 HU0 hbw5 k0 k1 k2 k3 z3
        simp only []
        go_wp2_with fail
        exact ⟨⟨i + 1, _, _, by go_num, rfl, rfl, HX1.out, hza, hzb, HSA2, HSB2, hbel6⟩, by have := HX1.out; simp [intOf]; omega⟩
      · obtain rfl : i = X.length := by omega
        have hg : ¬ (X.length : Int) < (l.length : Int) ∨ ((X.length : Int) < (l.length : Int) ∧ ¬ (X.length : Int) < 30) := by omega
        have hix30 : X.length ≤ 30 := by omega
        have hsa2 := HSA.out
        have hsb2 := HSB.out
        rw [List.take_length] at hsa2 hsb2
        obtain ⟨la, lb, hA, hB, hbare⟩ := Sp.layL_within 2 X
        have hC := Sp.layL_left 2 X
        obtain ⟨ma, hma⟩ : ∃ ma : ByteArray, ma = sa ++ (⟨#[125]⟩ : ByteArray) ++ (⟨#[10]⟩ : ByteArray) := ⟨_, rfl⟩
        obtain ⟨mb, hmb⟩ : ∃ mb : ByteArray, mb = sb ++ (⟨#[125]⟩ : ByteArray) := ⟨_, rfl⟩
        have hmal : ma.data.toList = Sp.manyL 2 X ++ [Sp.shB 2, 10] := by
          rw [hma, ← hsa2]
          simp [Sp.shB]
        have hmbl : mb.data.toList = Sp.oneL 2 X ++ [Sp.shB 2] := by
          rw [hmb, ← hsb2]
          simp [Sp.shB]
        have hmas : ma.size ≤ 30000 := by
          rw [hma]
          simp only [ByteArray.size_append]
          show sa.size + 1 + 1 ≤ _
          omega
        have hmbs : mb.size ≤ 30000 := by
          rw [hmb]
          simp only [ByteArray.size_append]
          show sb.size + 1 ≤ _
          omega
        rw [← hmal] at hA
        rw [← hmbl] at hB
        rw [← hsa2] at hC
        have hla : la.length ≤ 1000000 := by
          have := Sp.layL_len hA
          rw [size_list] at this
          omega
        have HT1 : Hid (∀ w', Below w.heap.size w w' → Calls Tryz.prog 13 #[.string ma] w' fun e w'' => (∃ v, e = .returned (.tuple #[v, .int .i64 0, .int .i64 0]) ∧ Row4 w'.heap.size v la w'') ∧ Below w'.heap.size w' w'') := by
          intro w' hb
          have := tokens_any ma (by omega) w' (HE.out.below hb hEs)
          rw [hA] at this
          exact this
        have HT2 : Hid (∀ w', Below w.heap.size w w' → Calls Tryz.prog 13 #[.string mb] w' fun e w'' => (∃ v, e = .returned (.tuple #[v, .int .i64 0, .int .i64 0]) ∧ Row4 w'.heap.size v lb w'') ∧ Below w'.heap.size w' w'') := by
          intro w' hb
          have := tokens_any mb (by omega) w' (HE.out.below hb hEs)
          rw [hB] at this
          exact this
        have HT3 : Hid (∀ w', Below w.heap.size w w' → Calls Tryz.prog 13 #[.string sa] w' fun e w'' => e = .returned (.tuple #[.slice none 0 0, .int .i64 1, .int .i64 21]) ∧ Below w'.heap.size w' w'') := by
          intro w' hb
          have := tokens_any sa (by omega) w' (HE.out.below hb hEs)
          rw [hC] at this
          exact this
        have HBARE := Lib.hid hbare
        have HMA := Lib.hid hma
        have HMB := Lib.hid hmb
        have H1 := Lib.hid (HT1.out wr HBW.out)
        clear FA HBD HX HXn hxl hlt hsa2 hsb2 HSA HSB hA hB hC hbare hma hmb hmal hmbl hmas hmbs HE hbel HT1
        rcases hg with h1 | ⟨h1, h2⟩
        all_goals
          go_wp2_with fail
          rw [← HMA.out]
          refine H1.out.mono ?_
          rintro e w2 ⟨⟨v1, rfl, hr1⟩, hb2⟩
          have HB2 : Hid (Below w.heap.size w w2) := HBW.out.trans (hb2.mono HBW.out.size)
          have HR1 := Lib.hid hr1
          have H2 := Lib.hid (HT2.out w2 HB2.out)
          clear hb2 hr1 H1 HBW HT2
          simp only []
          go_wp2_with fail
          rw [← HMB.out]
          refine H2.out.mono ?_
          rintro e w3 ⟨⟨v2, rfl, hr2⟩, hb3⟩
          have HB3 : Hid (Below w.heap.size w w3) := HB2.out.trans (hb3.mono HB2.out.size)
          have HR1' := Lib.hid (HR1.out.below hb3)
          have HR2 := Lib.hid hr2
          have H3 := Lib.hid (HT3.out w3 HB3.out)
          clear hb3 hr2 H2 HB2 HT3 HR1
          simp only []
          go_wp2_with fail
          refine H3.out.mono ?_
          rintro e w4 ⟨rfl, hb4⟩
          have HB4 : Hid (Below w.heap.size w w4) := HB3.out.trans (hb4.mono HB3.out.size)
          have HAL := Lib.hid (alike_any _ _ v1 v2 la lb w4 (HR1'.out.below hb4) (HR2.out.below hb4) HBARE hla)
          clear hb4 H3 HB3 HR1' HR2
          simp only []
          go_wp2_with fail
          refine HAL.out.mono ?_
          rintro e w5 ⟨rfl, hb5⟩
          have HB5 : Hid (Below w.heap.size w w5) := HB4.out.trans (hb5.mono HB4.out.size)
          clear HAL hb5 HB4
          simp only []
          go_wp2_with fail
          go_ret
          exact ⟨rfl, HB5.out⟩
end lawWithin
end Go.Proofs.YtbdjccmcdifjcaaGreatDoor

set_option linter.unusedVariables false
set_option linter.unusedSimpArgs false
namespace Go.Proofs.YtbdjccmcdifjcaaGreatDoor
namespace lawWithin
open Go.ChangeShapes Go.WideShapes Go.ChangeAt Go.WideMaps Go.WideElems Go.RowKit
open Go.ChangeMaps (open_string shut_string)
open A2

set_option maxRecDepth 100000 in
theorem lifted (os : Os) (started : os.Started) (H : Type) (enc : TypeId × Value → H) :
    ReturnsInHanded {} Tryz.checked os 7 .any (fun w args => (Rows.layoutWithinSpec.pre enc Tryz.prog Tryz.f7 [] false w args ∧ laidMetH Tryz.prog laidL w) ∧ sizedMet enc Tryz.prog Tryz.f7 (OpenSpec.ofChange Rows.layoutWithinSpec) false w args)
      (Rows.layoutWithinSpec.post enc Tryz.prog Tryz.f7 false true false false) := by
  refine handed_both (C := Tryz.checked) (X := fun w _ => laidMetH Tryz.prog laidL w) (fun _ _ _ hh h => h.of_heap hh) own started (by kernel_rfl) Tryz.func7
    (ChangeSpec.witness_shaped (enc := enc) (C := Tryz.checked) (os := os) (X := fun w _ => laidMetH Tryz.prog laidL w) false (World.laidAll Tryz.prog os laidL) #[.slice none 0 0, .int .i64 0] 8 (door_os os) (door_shaped os _) (by kernel_rfl) (by kernel_rfl) (by kernel_rfl) (door_met os _)) ?_
  intro W base args ds gs before hval0 hW _ _ hL hsh _
  have hval : ∀ (j : Nat) t v, Tryz.f7.params[j]? = some t → args[j]? = some v → Value.okWide Tryz.prog W .any base t v := hval0
  have hW' := hW
  obtain ⟨p, q, hA0, hV, rfl, hfz, hnd⟩ := hW
  have hA : DataW.TrodAll enc Tryz.prog W 0 (fun _ => true) true Tryz.f7.params.toList args.toList ds p := hA0
  rw [Tryz.params7] at hA hval
  obtain ⟨v0, v1, d0, d1, p0, p1, rfl, rfl, rfl, h0, h1⟩ := trodAll_two hA
  obtain ⟨rfl, rfl⟩ := trodVars_none hV
  have h0k := h0
  obtain ⟨x0, a0, n0, b0⟩ := lines_of (hval 0 22 v0 rfl rfl) h0
  obtain ⟨x1, rfl, rfl, rfl, w1⟩ := open_int Tryz.underlying3 (hval 1 3 v1 rfl rfl) h1
  clear hA0 hval0
  simp only [List.append_nil] at hW'
  refine (walk v0 x0 x1 W a0 b0 n0 (env_of hL hsh)).mono fun e W' ⟨he, hb⟩ => ?_
  subst he
  have hlt : ∀ x ∈ p0, x.block < W.heap.size := fun x hx => hW'.lt x (by simpa using hx)
  exact ⟨_, rfl, post_true_at hW' (by kernel_rfl) rfl rfl rfl rfl (by have h := trodAll_mk2 (Below.trod laidOut (by kernel_rfl) (of_decide_eq_true (by kernel_rfl)) h0k hb (fun x hx => hlt x (by simp [hx]))) (shut_int Tryz.underlying3 w1); (try simp only [List.append_nil, List.nil_append] at h); exact h) hb⟩

theorem row_holds : Rows.LayoutWithinSaid :=
  OpenClaim.holds_of_wide 7 Tryz.f7 rfl rfl rfl rfl rfl rfl rfl ⟨rfl, rfl, rfl, rfl, rfl⟩ rfl rfl rfl rfl rfl (by kernel_rfl) Tryz.func7 (by kernel_rfl)
    (of_decide_eq_true (by kernel_rfl)) (by unfold Func.isWrapper; first | (rw [if_pos (by decide +kernel)]; kernel_rfl) | (rw [if_neg (by decide +kernel)]; exact ⟨rfl, rfl⟩))
    (fun os started H enc _ => lifted os started H enc)

theorem card_holds : Rows.LayoutWithinCardSaid :=
  Claim7.holds_tied_plain_at .later [] [.data, .data, .data, .data, .sentinel, .sentinel, .data, .pinned] true (true, "88ce31af55d7e15b8eb372d6691e0e677d11b1df154c7967afde70b805ca128e") true
    row_holds (fun _ h => by cases h) (by kernel_rfl) (fun _ h => by cases h) layoutWithin_row_tie rfl ⟨rfl, rfl⟩ (by kernel_rfl) rfl
    (fun f fn hf hfn => by
      obtain rfl : f = 7 := Option.some.inj ((show Tryz.prog.funcNamed "krait/kraitlaw02.LayoutWithin" = some 7 by kernel_rfl).symm.trans hf) |>.symm
      obtain rfl : fn = Tryz.f7 := (Option.some.inj (Tryz.func7.symm.trans hfn)).symm
      exact ⟨by kernel_rfl, fun j t ht => by
        rw [Tryz.params7] at ht
        have hm : t ∈ [22, 3] := by simpa using Array.mem_of_getElem? ht
        have hall : ([22, 3].all fun u => !Tryz.prog.wantsStandIn u) = true := by kernel_rfl
        exact (show Tryz.prog.wantsStandIn t = false by simpa using List.all_eq_true.1 hall t hm)⟩)
    (by kernel_rfl)
end lawWithin
end Go.Proofs.YtbdjccmcdifjcaaGreatDoor
