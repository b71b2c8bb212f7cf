/-
  The reference's powers: the walk, at this program (made by wip/tools/genNuL.py).
-/
import Derived.Test.YtaekjkihdecmcaaNuK
set_option linter.unusedVariables false
set_option linter.unusedSimpArgs false
namespace Go.Proofs.Ytaekjkihdecmcaa
open Go.RowKit

theorem small_val {x : Int} {la : List Nat} {s : Bool} (j : Nu.Says s la x) : (la = [] ∨ la = [1]) ↔ x.natAbs ≤ 1 := by
  rw [← j.abs]
  constructor
  · rintro (h | h) <;> subst h <;> decide
  · intro h
    cases la with
    | nil => exact Or.inl rfl
    | cons d r =>
      have h1 := Nu.val_pos (l := d :: r) (by simp) j.2.1
      cases r with
      | nil =>
        have hv : Nu.val [d] = d := by simp [Nu.val, Nu.valTo, Nu.dig]
        have hd : d ≠ 0 := by have := j.2.1 (by simp); simpa using this
        rw [hv] at h
        right
        rw [show d = 1 by omega]
      | cons d2 r =>
        have h2 : 65536 ^ 1 ≤ 65536 ^ ((d :: d2 :: r).length - 1) := Nat.pow_le_pow_right (by decide) (by simp)
        omega
set_option maxHeartbeats 16000000 in
theorem power_is (va : Value) (x : Int) (n : Nat) (w : World) (ha : NumV va x w) (hx : x.natAbs ≤ 9223372036854775808) (hn : n ≤ 9223372036854775807) :
    Calls Try.prog 29 #[va, .int .i64 (n : Int)] w fun e w' => PowTold x n w e w' := by
  obtain ⟨sa, pa, na, ca, la, rfl, da, hna, ja⟩ := ha.form
  have JA := Lib.hid ja
  have DA := Lib.hid da
  have HXB := Lib.hid hx
  have hsm := small_val ja
  unfold PowTold
  rcases da with ⟨e1, e2⟩ | ⟨g, o, cap, e1, hg, hcap, hcs⟩
  · injection e1 with e1 e2' e3
    subst e1
    subst e3
    have hna0 : na = 0 := by omega
    subst hna0
    have hx1 := hsm.1 (Or.inl e2)
    clear hsm e2 e2' hna ja ha hx
    by_cases hn2 : 2 < n
    · have hn2' : (2 : Int) < (n : Int) := by omega
      have hmod : ((n : Int)).tmod 2 = ((n % 2 : Nat) : Int) := rfl
      obtain ⟨m, hm⟩ : ∃ m, m = 2 + n % 2 := ⟨_, rfl⟩
      have hm2 : 2 + ((n % 2 : Nat) : Int) = (m : Int) := by omega
      have HEX : Hid (x ^ m = x ^ n) := (show _ = _ by rw [hm]; exact (Nu.pow_small hx1 hn2).symm)
      have hmb : m ≤ 3 := by omega
      have wm2 : IntKind.i64.wrap (m : Int) = (m : Int) := IntWalk.i64_in _ (by omega)
      clear hm hx1 hn2
      go_enter Try.func29, Try.ntmps29
      go_wp2_with (go_at_call 20; refine (Of_is (by omega) (by omega)).mono ?_; rintro e wo ⟨so, po, no, co, rfl, HOV, HOB⟩; have hps := pw_start (so := so) (po := po) (no := no) (co := co) DA.out HOB.out HOV.out; obtain ⟨ka0, ka1, _⟩ := cells_of hps.ha; have kd0 := True.intro; have HPS := Lib.hid hps; clear hps)
      go_loopw [8] (fun v8 wr => ∃ i : Nat, v8 = .int .i64 (i : Int) ∧ i ≤ m ∧ Hid (PW w sa (.slice none 0 0) la wo.heap.size (x ^ i) wr) ∧ Hid ((x ^ i).natAbs < 65536 ^ 5)) (fun v8 _ => m - (intOf v8).toNat)
      case atStart => exact ⟨0, rfl, Nat.zero_le _, (by show PW _ _ _ _ _ _ _; rw [Int.pow_zero]; exact HPS.out), (show _ < _ by simp)⟩
      case round =>
        clear HPS ka0 ka1 kd0
        obtain ⟨i, rfl, hi, HP, HB5⟩ := hrel
        by_cases hlt : i < m
        · obtain ⟨s1, p1, n1, c1, o0, o1, of0, of1, HVO⟩ := HP.out.ho.cells
          obtain ⟨kb0, kb1, _⟩ := cells_of HP.out.ha
          have hva : NumV (.agg #[.bool sa, .slice none 0 0]) x wr := ⟨sa, _, la, rfl, HP.out.da, JA.out⟩
          have hlt5 : (65536 : Nat) ^ 5 < 65536 ^ 400 := by decide +kernel
          have hlt63 : (9223372036854775808 : Nat) < 65536 ^ 400 := by decide +kernel
          have hmul := Mul_is (z := x ^ (i + 1)) HVO.out hva (Nat.lt_trans HB5.out hlt5) (Nat.lt_of_le_of_lt HXB.out hlt63) (Int.pow_succ x i).symm
          clear hva hlt5 hlt63
          have hin : (i : Int) < (m : Int) := by omega
          go_upto_region 9 with (go_at_call 27; refine hmul.mono ?_; clear hmul; rintro e wa ⟨s', pv, nv, cv, rfl, HVA, HBA⟩; have P2 := HP.out.below HBA.out; obtain ⟨u0, u1, t0, t1, tf0, tf1⟩ := P2.ho.store; have HP2 := Lib.hid P2; clear P2 o0 o1 of0 of1)
          generalize hwn : World.setCell (World.setCell wa _ _) _ _ = wm
          have HPF := Lib.hid (show PW w sa (.slice none 0 0) la wo.heap.size (x ^ (i + 1)) wm by rw [← hwn]; exact HP2.out.seto HVA.out)
          clear hwn t0 t1 tf0 tf1 HP2 HVA HBA HVO HP kb0 kb1
          obtain ⟨s2, p2, n2, c2, q0, q1, _, _, HVQ⟩ := HPF.out.ho.cells
          obtain ⟨l2, d2, hn2, j2⟩ := num_digits HVQ.out
          have h100 : Hid ((x ^ (i + 1)).natAbs < 65536 ^ 100) := (show _ < _ from pow_step_lt HXB.out HB5.out)
          have h5 := Nu.len_le_iff j2.1 j2.2.1 5
          rw [← hn2, j2.abs] at h5
          have H5 := Lib.hid h5
          clear d2 hn2 j2 h5
          by_cases hbig : n2 ≤ 5
          · have hb1 : ¬ (5 : Int) < (n2 : Int) := by omega
            have HB6 : Hid ((x ^ (i + 1)).natAbs < 65536 ^ 5) := (show _ < _ from H5.out.1 hbig)
            go_wp2_with fail
            go_roundw
            case rel => exact ⟨i + 1, by go_num, by omega, HPF.out, HB6.out⟩
            case measure => simp [intOf]; omega
          · have hb1 : (5 : Int) < (n2 : Int) := by omega
            have hge : 65536 ^ 5 ≤ (x ^ (i + 1)).natAbs := by
              rcases Nat.lt_or_ge (x ^ (i + 1)).natAbs (65536 ^ 5) with h | h
              · exact absurd (H5.out.2 h) hbig
              · exact h
            have HOV : Hid (Nu.fits (x ^ m) = false) := (show _ = _ from pow_over2 (by
              rcases Nat.eq_zero_or_pos x.natAbs with h | h
              · have : x = 0 := by omega
                subst this
                rw [Int.pow_succ, Int.mul_zero] at hge
                exact absurd hge (by decide)
              · exact h) (by omega) hge)
            clear hge
            obtain ⟨a0, a1, a2, a3⟩ := cells_of HPF.out.h1
            go_wp2_with fail
            obtain ⟨z1, z2, z3⟩ := one_laid HPF.out HVQ.out
            refine ret_num_ok rfl _ _ (w.heap.size + 1) _ _ _ _ rfl z1 rfl ?_
            exact ⟨_, _, _, _, false, x ^ (i + 1), rfl, z2, h100, (fun e => by cases e), (show false = false → _ from fun _ => by rw [← HEX.out]; exact HOV.out), z3⟩
        · obtain rfl : i = m := by omega
          have h100 : Hid ((x ^ i).natAbs < 65536 ^ 100) := (show _ < _ from Nat.lt_trans HB5.out (by decide +kernel))
          have HPF := HP
          clear HP
          obtain ⟨s8, p8, n8, c8, y0, y1, _, _, HVF⟩ := HPF.out.ho.cells
          obtain ⟨a0, a1, a2, a3⟩ := cells_of HPF.out.h1
          go_wp2_with fail
          obtain ⟨z1, z2, z3⟩ := one_laid HPF.out HVF.out
          refine ret_num_ok rfl _ _ (w.heap.size + 1) _ _ _ _ rfl z1 rfl ?_
          exact ⟨_, _, _, _, true, x ^ i, rfl, z2, h100, (show true = true → _ from fun _ => HEX.out), (fun e => by cases e), z3⟩
    · have hn2' : ¬ (2 : Int) < (n : Int) := by omega
      clear hx1 hn2
      go_enter Try.func29, Try.ntmps29
      go_wp2_with (go_at_call 20; refine (Of_is (by omega) (by omega)).mono ?_; rintro e wo ⟨so, po, no, co, rfl, HOV, HOB⟩; have hps := pw_start (so := so) (po := po) (no := no) (co := co) DA.out HOB.out HOV.out; obtain ⟨ka0, ka1, _⟩ := cells_of hps.ha; have kd0 := True.intro; have HPS := Lib.hid hps; clear hps)
      go_loopw [8] (fun v8 wr => ∃ i : Nat, v8 = .int .i64 (i : Int) ∧ i ≤ n ∧ Hid (PW w sa (.slice none 0 0) la wo.heap.size (x ^ i) wr) ∧ Hid ((x ^ i).natAbs < 65536 ^ 5)) (fun v8 _ => n - (intOf v8).toNat)
      case atStart => exact ⟨0, rfl, Nat.zero_le _, (by show PW _ _ _ _ _ _ _; rw [Int.pow_zero]; exact HPS.out), (show _ < _ by simp)⟩
      case round =>
        clear HPS ka0 ka1 kd0
        obtain ⟨i, rfl, hi, HP, HB5⟩ := hrel
        by_cases hlt : i < n
        · obtain ⟨s1, p1, n1, c1, o0, o1, of0, of1, HVO⟩ := HP.out.ho.cells
          obtain ⟨kb0, kb1, _⟩ := cells_of HP.out.ha
          have hva : NumV (.agg #[.bool sa, .slice none 0 0]) x wr := ⟨sa, _, la, rfl, HP.out.da, JA.out⟩
          have hlt5 : (65536 : Nat) ^ 5 < 65536 ^ 400 := by decide +kernel
          have hlt63 : (9223372036854775808 : Nat) < 65536 ^ 400 := by decide +kernel
          have hmul := Mul_is (z := x ^ (i + 1)) HVO.out hva (Nat.lt_trans HB5.out hlt5) (Nat.lt_of_le_of_lt HXB.out hlt63) (Int.pow_succ x i).symm
          clear hva hlt5 hlt63
          have hin : (i : Int) < (n : Int) := by omega
          go_upto_region 9 with (go_at_call 27; refine hmul.mono ?_; clear hmul; rintro e wa ⟨s', pv, nv, cv, rfl, HVA, HBA⟩; have P2 := HP.out.below HBA.out; obtain ⟨u0, u1, t0, t1, tf0, tf1⟩ := P2.ho.store; have HP2 := Lib.hid P2; clear P2 o0 o1 of0 of1)
          generalize hwn : World.setCell (World.setCell wa _ _) _ _ = wm
          have HPF := Lib.hid (show PW w sa (.slice none 0 0) la wo.heap.size (x ^ (i + 1)) wm by rw [← hwn]; exact HP2.out.seto HVA.out)
          clear hwn t0 t1 tf0 tf1 HP2 HVA HBA HVO HP kb0 kb1
          obtain ⟨s2, p2, n2, c2, q0, q1, _, _, HVQ⟩ := HPF.out.ho.cells
          obtain ⟨l2, d2, hn2, j2⟩ := num_digits HVQ.out
          have h100 : Hid ((x ^ (i + 1)).natAbs < 65536 ^ 100) := (show _ < _ from pow_step_lt HXB.out HB5.out)
          have h5 := Nu.len_le_iff j2.1 j2.2.1 5
          rw [← hn2, j2.abs] at h5
          have H5 := Lib.hid h5
          clear d2 hn2 j2 h5
          by_cases hbig : n2 ≤ 5
          · have hb1 : ¬ (5 : Int) < (n2 : Int) := by omega
            have HB6 : Hid ((x ^ (i + 1)).natAbs < 65536 ^ 5) := (show _ < _ from H5.out.1 hbig)
            go_wp2_with fail
            go_roundw
            case rel => exact ⟨i + 1, by go_num, by omega, HPF.out, HB6.out⟩
            case measure => simp [intOf]; omega
          · have hb1 : (5 : Int) < (n2 : Int) := by omega
            have hge : 65536 ^ 5 ≤ (x ^ (i + 1)).natAbs := by
              rcases Nat.lt_or_ge (x ^ (i + 1)).natAbs (65536 ^ 5) with h | h
              · exact absurd (H5.out.2 h) hbig
              · exact h
            have HOV : Hid (Nu.fits (x ^ n) = false) := (show _ = _ from pow_over2 (by
              rcases Nat.eq_zero_or_pos x.natAbs with h | h
              · have : x = 0 := by omega
                subst this
                rw [Int.pow_succ, Int.mul_zero] at hge
                exact absurd hge (by decide)
              · exact h) (by omega) hge)
            clear hge
            obtain ⟨a0, a1, a2, a3⟩ := cells_of HPF.out.h1
            go_wp2_with fail
            obtain ⟨z1, z2, z3⟩ := one_laid HPF.out HVQ.out
            refine ret_num_ok rfl _ _ (w.heap.size + 1) _ _ _ _ rfl z1 rfl ?_
            exact ⟨_, _, _, _, false, x ^ (i + 1), rfl, z2, h100, (fun e => by cases e), (show false = false → _ from fun _ => HOV.out), z3⟩
        · obtain rfl : i = n := by omega
          have h100 : Hid ((x ^ i).natAbs < 65536 ^ 100) := (show _ < _ from Nat.lt_trans HB5.out (by decide +kernel))
          have HPF := HP
          clear HP
          obtain ⟨s8, p8, n8, c8, y0, y1, _, _, HVF⟩ := HPF.out.ho.cells
          obtain ⟨a0, a1, a2, a3⟩ := cells_of HPF.out.h1
          go_wp2_with fail
          obtain ⟨z1, z2, z3⟩ := one_laid HPF.out HVF.out
          refine ret_num_ok rfl _ _ (w.heap.size + 1) _ _ _ _ rfl z1 rfl ?_
          exact ⟨_, _, _, _, true, x ^ i, rfl, z2, h100, (show true = true → _ from fun _ => rfl), (fun e => by cases e), z3⟩
  · injection e1 with e1 e2' e3
    subst e1
    subst e3
    rw [← hna] at hcap
    by_cases h1 : na = 1
    · obtain ⟨d, hd⟩ : ∃ d, la = [d] := by
        cases la with
        | nil => simp at hna; omega
        | cons d r =>
          cases r with
          | nil => exact ⟨d, rfl⟩
          | cons d2 r => simp at hna; omega
      subst h1
      have a0 := hcs 0 d (by rw [hd]; rfl)
      have A0 := Lib.hid a0
      by_cases hd1 : d = 1
      · subst hd1
        have hx1 := hsm.1 (Or.inr hd)
        clear hsm e2' hna ja ha hx hd hcs a0
        by_cases hn2 : 2 < n
        · have hn2' : (2 : Int) < (n : Int) := by omega
          have hmod : ((n : Int)).tmod 2 = ((n % 2 : Nat) : Int) := rfl
          obtain ⟨m, hm⟩ : ∃ m, m = 2 + n % 2 := ⟨_, rfl⟩
          have hm2 : 2 + ((n % 2 : Nat) : Int) = (m : Int) := by omega
          have HEX : Hid (x ^ m = x ^ n) := (show _ = _ by rw [hm]; exact (Nu.pow_small hx1 hn2).symm)
          have hmb : m ≤ 3 := by omega
          have wm2 : IntKind.i64.wrap (m : Int) = (m : Int) := IntWalk.i64_in _ (by omega)
          clear hm hx1 hn2
          go_enter Try.func29, Try.ntmps29
          go_wp2_with (go_at_call 20; refine (Of_is (by omega) (by omega)).mono ?_; rintro e wo ⟨so, po, no, co, rfl, HOV, HOB⟩; have hps := pw_start (so := so) (po := po) (no := no) (co := co) DA.out HOB.out HOV.out; obtain ⟨ka0, ka1, _⟩ := cells_of hps.ha; have kd0 := (hps.bel.cell (p := ⟨g, o, none⟩) hg).trans A0.out; have HPS := Lib.hid hps; clear hps)
          go_loopw [8] (fun v8 wr => ∃ i : Nat, v8 = .int .i64 (i : Int) ∧ i ≤ m ∧ Hid (PW w sa (.slice (some ⟨g, o, none⟩) 1 ca) la wo.heap.size (x ^ i) wr) ∧ Hid ((x ^ i).natAbs < 65536 ^ 5)) (fun v8 _ => m - (intOf v8).toNat)
          case atStart => exact ⟨0, rfl, Nat.zero_le _, (by show PW _ _ _ _ _ _ _; rw [Int.pow_zero]; exact HPS.out), (show _ < _ by simp)⟩
          case round =>
            clear HPS ka0 ka1 kd0
            obtain ⟨i, rfl, hi, HP, HB5⟩ := hrel
            by_cases hlt : i < m
            · obtain ⟨s1, p1, n1, c1, o0, o1, of0, of1, HVO⟩ := HP.out.ho.cells
              obtain ⟨kb0, kb1, _⟩ := cells_of HP.out.ha
              have hva : NumV (.agg #[.bool sa, .slice (some ⟨g, o, none⟩) 1 ca]) x wr := ⟨sa, _, la, rfl, HP.out.da, JA.out⟩
              have hlt5 : (65536 : Nat) ^ 5 < 65536 ^ 400 := by decide +kernel
              have hlt63 : (9223372036854775808 : Nat) < 65536 ^ 400 := by decide +kernel
              have hmul := Mul_is (z := x ^ (i + 1)) HVO.out hva (Nat.lt_trans HB5.out hlt5) (Nat.lt_of_le_of_lt HXB.out hlt63) (Int.pow_succ x i).symm
              clear hva hlt5 hlt63
              have hin : (i : Int) < (m : Int) := by omega
              go_upto_region 9 with (go_at_call 27; refine hmul.mono ?_; clear hmul; rintro e wa ⟨s', pv, nv, cv, rfl, HVA, HBA⟩; have P2 := HP.out.below HBA.out; obtain ⟨u0, u1, t0, t1, tf0, tf1⟩ := P2.ho.store; have HP2 := Lib.hid P2; clear P2 o0 o1 of0 of1)
              generalize hwn : World.setCell (World.setCell wa _ _) _ _ = wm
              have HPF := Lib.hid (show PW w sa (.slice (some ⟨g, o, none⟩) 1 ca) la wo.heap.size (x ^ (i + 1)) wm by rw [← hwn]; exact HP2.out.seto HVA.out)
              clear hwn t0 t1 tf0 tf1 HP2 HVA HBA HVO HP kb0 kb1
              obtain ⟨s2, p2, n2, c2, q0, q1, _, _, HVQ⟩ := HPF.out.ho.cells
              obtain ⟨l2, d2, hn2, j2⟩ := num_digits HVQ.out
              have h100 : Hid ((x ^ (i + 1)).natAbs < 65536 ^ 100) := (show _ < _ from pow_step_lt HXB.out HB5.out)
              have h5 := Nu.len_le_iff j2.1 j2.2.1 5
              rw [← hn2, j2.abs] at h5
              have H5 := Lib.hid h5
              clear d2 hn2 j2 h5
              by_cases hbig : n2 ≤ 5
              · have hb1 : ¬ (5 : Int) < (n2 : Int) := by omega
                have HB6 : Hid ((x ^ (i + 1)).natAbs < 65536 ^ 5) := (show _ < _ from H5.out.1 hbig)
                go_wp2_with fail
                go_roundw
                case rel => exact ⟨i + 1, by go_num, by omega, HPF.out, HB6.out⟩
                case measure => simp [intOf]; omega
              · have hb1 : (5 : Int) < (n2 : Int) := by omega
                have hge : 65536 ^ 5 ≤ (x ^ (i + 1)).natAbs := by
                  rcases Nat.lt_or_ge (x ^ (i + 1)).natAbs (65536 ^ 5) with h | h
                  · exact absurd (H5.out.2 h) hbig
                  · exact h
                have HOV : Hid (Nu.fits (x ^ m) = false) := (show _ = _ from pow_over2 (by
                  rcases Nat.eq_zero_or_pos x.natAbs with h | h
                  · have : x = 0 := by omega
                    subst this
                    rw [Int.pow_succ, Int.mul_zero] at hge
                    exact absurd hge (by decide)
                  · exact h) (by omega) hge)
                clear hge
                obtain ⟨a0, a1, a2, a3⟩ := cells_of HPF.out.h1
                go_wp2_with fail
                obtain ⟨z1, z2, z3⟩ := one_laid HPF.out HVQ.out
                refine ret_num_ok rfl _ _ (w.heap.size + 1) _ _ _ _ rfl z1 rfl ?_
                exact ⟨_, _, _, _, false, x ^ (i + 1), rfl, z2, h100, (fun e => by cases e), (show false = false → _ from fun _ => by rw [← HEX.out]; exact HOV.out), z3⟩
            · obtain rfl : i = m := by omega
              have h100 : Hid ((x ^ i).natAbs < 65536 ^ 100) := (show _ < _ from Nat.lt_trans HB5.out (by decide +kernel))
              have HPF := HP
              clear HP
              obtain ⟨s8, p8, n8, c8, y0, y1, _, _, HVF⟩ := HPF.out.ho.cells
              obtain ⟨a0, a1, a2, a3⟩ := cells_of HPF.out.h1
              go_wp2_with fail
              obtain ⟨z1, z2, z3⟩ := one_laid HPF.out HVF.out
              refine ret_num_ok rfl _ _ (w.heap.size + 1) _ _ _ _ rfl z1 rfl ?_
              exact ⟨_, _, _, _, true, x ^ i, rfl, z2, h100, (show true = true → _ from fun _ => HEX.out), (fun e => by cases e), z3⟩
        · have hn2' : ¬ (2 : Int) < (n : Int) := by omega
          clear hx1 hn2
          go_enter Try.func29, Try.ntmps29
          go_wp2_with (go_at_call 20; refine (Of_is (by omega) (by omega)).mono ?_; rintro e wo ⟨so, po, no, co, rfl, HOV, HOB⟩; have hps := pw_start (so := so) (po := po) (no := no) (co := co) DA.out HOB.out HOV.out; obtain ⟨ka0, ka1, _⟩ := cells_of hps.ha; have kd0 := (hps.bel.cell (p := ⟨g, o, none⟩) hg).trans A0.out; have HPS := Lib.hid hps; clear hps)
          go_loopw [8] (fun v8 wr => ∃ i : Nat, v8 = .int .i64 (i : Int) ∧ i ≤ n ∧ Hid (PW w sa (.slice (some ⟨g, o, none⟩) 1 ca) la wo.heap.size (x ^ i) wr) ∧ Hid ((x ^ i).natAbs < 65536 ^ 5)) (fun v8 _ => n - (intOf v8).toNat)
          case atStart => exact ⟨0, rfl, Nat.zero_le _, (by show PW _ _ _ _ _ _ _; rw [Int.pow_zero]; exact HPS.out), (show _ < _ by simp)⟩
          case round =>
            clear HPS ka0 ka1 kd0
            obtain ⟨i, rfl, hi, HP, HB5⟩ := hrel
            by_cases hlt : i < n
            · obtain ⟨s1, p1, n1, c1, o0, o1, of0, of1, HVO⟩ := HP.out.ho.cells
              obtain ⟨kb0, kb1, _⟩ := cells_of HP.out.ha
              have hva : NumV (.agg #[.bool sa, .slice (some ⟨g, o, none⟩) 1 ca]) x wr := ⟨sa, _, la, rfl, HP.out.da, JA.out⟩
              have hlt5 : (65536 : Nat) ^ 5 < 65536 ^ 400 := by decide +kernel
              have hlt63 : (9223372036854775808 : Nat) < 65536 ^ 400 := by decide +kernel
              have hmul := Mul_is (z := x ^ (i + 1)) HVO.out hva (Nat.lt_trans HB5.out hlt5) (Nat.lt_of_le_of_lt HXB.out hlt63) (Int.pow_succ x i).symm
              clear hva hlt5 hlt63
              have hin : (i : Int) < (n : Int) := by omega
              go_upto_region 9 with (go_at_call 27; refine hmul.mono ?_; clear hmul; rintro e wa ⟨s', pv, nv, cv, rfl, HVA, HBA⟩; have P2 := HP.out.below HBA.out; obtain ⟨u0, u1, t0, t1, tf0, tf1⟩ := P2.ho.store; have HP2 := Lib.hid P2; clear P2 o0 o1 of0 of1)
              generalize hwn : World.setCell (World.setCell wa _ _) _ _ = wm
              have HPF := Lib.hid (show PW w sa (.slice (some ⟨g, o, none⟩) 1 ca) la wo.heap.size (x ^ (i + 1)) wm by rw [← hwn]; exact HP2.out.seto HVA.out)
              clear hwn t0 t1 tf0 tf1 HP2 HVA HBA HVO HP kb0 kb1
              obtain ⟨s2, p2, n2, c2, q0, q1, _, _, HVQ⟩ := HPF.out.ho.cells
              obtain ⟨l2, d2, hn2, j2⟩ := num_digits HVQ.out
              have h100 : Hid ((x ^ (i + 1)).natAbs < 65536 ^ 100) := (show _ < _ from pow_step_lt HXB.out HB5.out)
              have h5 := Nu.len_le_iff j2.1 j2.2.1 5
              rw [← hn2, j2.abs] at h5
              have H5 := Lib.hid h5
              clear d2 hn2 j2 h5
              by_cases hbig : n2 ≤ 5
              · have hb1 : ¬ (5 : Int) < (n2 : Int) := by omega
                have HB6 : Hid ((x ^ (i + 1)).natAbs < 65536 ^ 5) := (show _ < _ from H5.out.1 hbig)
                go_wp2_with fail
                go_roundw
                case rel => exact ⟨i + 1, by go_num, by omega, HPF.out, HB6.out⟩
                case measure => simp [intOf]; omega
              · have hb1 : (5 : Int) < (n2 : Int) := by omega
                have hge : 65536 ^ 5 ≤ (x ^ (i + 1)).natAbs := by
                  rcases Nat.lt_or_ge (x ^ (i + 1)).natAbs (65536 ^ 5) with h | h
                  · exact absurd (H5.out.2 h) hbig
                  · exact h
                have HOV : Hid (Nu.fits (x ^ n) = false) := (show _ = _ from pow_over2 (by
                  rcases Nat.eq_zero_or_pos x.natAbs with h | h
                  · have : x = 0 := by omega
                    subst this
                    rw [Int.pow_succ, Int.mul_zero] at hge
                    exact absurd hge (by decide)
                  · exact h) (by omega) hge)
                clear hge
                obtain ⟨a0, a1, a2, a3⟩ := cells_of HPF.out.h1
                go_wp2_with fail
                obtain ⟨z1, z2, z3⟩ := one_laid HPF.out HVQ.out
                refine ret_num_ok rfl _ _ (w.heap.size + 1) _ _ _ _ rfl z1 rfl ?_
                exact ⟨_, _, _, _, false, x ^ (i + 1), rfl, z2, h100, (fun e => by cases e), (show false = false → _ from fun _ => HOV.out), z3⟩
            · obtain rfl : i = n := by omega
              have h100 : Hid ((x ^ i).natAbs < 65536 ^ 100) := (show _ < _ from Nat.lt_trans HB5.out (by decide +kernel))
              have HPF := HP
              clear HP
              obtain ⟨s8, p8, n8, c8, y0, y1, _, _, HVF⟩ := HPF.out.ho.cells
              obtain ⟨a0, a1, a2, a3⟩ := cells_of HPF.out.h1
              go_wp2_with fail
              obtain ⟨z1, z2, z3⟩ := one_laid HPF.out HVF.out
              refine ret_num_ok rfl _ _ (w.heap.size + 1) _ _ _ _ rfl z1 rfl ?_
              exact ⟨_, _, _, _, true, x ^ i, rfl, z2, h100, (show true = true → _ from fun _ => rfl), (fun e => by cases e), z3⟩
      · have hd1' : ¬ (d : Int) = 1 := by omega
        have hdb : ((d : Int) == 1) = false := by simpa using hd1'
        clear hsm e2' hna ja ha hx hd hcs a0 hd1
        go_enter Try.func29, Try.ntmps29
        go_wp2_with (go_at_call 20; refine (Of_is (by omega) (by omega)).mono ?_; rintro e wo ⟨so, po, no, co, rfl, HOV, HOB⟩; have hps := pw_start (so := so) (po := po) (no := no) (co := co) DA.out HOB.out HOV.out; obtain ⟨ka0, ka1, _⟩ := cells_of hps.ha; have kd0 := (hps.bel.cell (p := ⟨g, o, none⟩) hg).trans A0.out; have HPS := Lib.hid hps; clear hps)
        go_loopw [8] (fun v8 wr => ∃ i : Nat, v8 = .int .i64 (i : Int) ∧ i ≤ n ∧ Hid (PW w sa (.slice (some ⟨g, o, none⟩) 1 ca) la wo.heap.size (x ^ i) wr) ∧ Hid ((x ^ i).natAbs < 65536 ^ 5)) (fun v8 _ => n - (intOf v8).toNat)
        case atStart => exact ⟨0, rfl, Nat.zero_le _, (by show PW _ _ _ _ _ _ _; rw [Int.pow_zero]; exact HPS.out), (show _ < _ by simp)⟩
        case round =>
          clear HPS ka0 ka1 kd0
          obtain ⟨i, rfl, hi, HP, HB5⟩ := hrel
          by_cases hlt : i < n
          · obtain ⟨s1, p1, n1, c1, o0, o1, of0, of1, HVO⟩ := HP.out.ho.cells
            obtain ⟨kb0, kb1, _⟩ := cells_of HP.out.ha
            have hva : NumV (.agg #[.bool sa, .slice (some ⟨g, o, none⟩) 1 ca]) x wr := ⟨sa, _, la, rfl, HP.out.da, JA.out⟩
            have hlt5 : (65536 : Nat) ^ 5 < 65536 ^ 400 := by decide +kernel
            have hlt63 : (9223372036854775808 : Nat) < 65536 ^ 400 := by decide +kernel
            have hmul := Mul_is (z := x ^ (i + 1)) HVO.out hva (Nat.lt_trans HB5.out hlt5) (Nat.lt_of_le_of_lt HXB.out hlt63) (Int.pow_succ x i).symm
            clear hva hlt5 hlt63
            have hin : (i : Int) < (n : Int) := by omega
            go_upto_region 9 with (go_at_call 27; refine hmul.mono ?_; clear hmul; rintro e wa ⟨s', pv, nv, cv, rfl, HVA, HBA⟩; have P2 := HP.out.below HBA.out; obtain ⟨u0, u1, t0, t1, tf0, tf1⟩ := P2.ho.store; have HP2 := Lib.hid P2; clear P2 o0 o1 of0 of1)
            generalize hwn : World.setCell (World.setCell wa _ _) _ _ = wm
            have HPF := Lib.hid (show PW w sa (.slice (some ⟨g, o, none⟩) 1 ca) la wo.heap.size (x ^ (i + 1)) wm by rw [← hwn]; exact HP2.out.seto HVA.out)
            clear hwn t0 t1 tf0 tf1 HP2 HVA HBA HVO HP kb0 kb1
            obtain ⟨s2, p2, n2, c2, q0, q1, _, _, HVQ⟩ := HPF.out.ho.cells
            obtain ⟨l2, d2, hn2, j2⟩ := num_digits HVQ.out
            have h100 : Hid ((x ^ (i + 1)).natAbs < 65536 ^ 100) := (show _ < _ from pow_step_lt HXB.out HB5.out)
            have h5 := Nu.len_le_iff j2.1 j2.2.1 5
            rw [← hn2, j2.abs] at h5
            have H5 := Lib.hid h5
            clear d2 hn2 j2 h5
            by_cases hbig : n2 ≤ 5
            · have hb1 : ¬ (5 : Int) < (n2 : Int) := by omega
              have HB6 : Hid ((x ^ (i + 1)).natAbs < 65536 ^ 5) := (show _ < _ from H5.out.1 hbig)
              go_wp2_with fail
              go_roundw
              case rel => exact ⟨i + 1, by go_num, by omega, HPF.out, HB6.out⟩
              case measure => simp [intOf]; omega
            · have hb1 : (5 : Int) < (n2 : Int) := by omega
              have hge : 65536 ^ 5 ≤ (x ^ (i + 1)).natAbs := by
                rcases Nat.lt_or_ge (x ^ (i + 1)).natAbs (65536 ^ 5) with h | h
                · exact absurd (H5.out.2 h) hbig
                · exact h
              have HOV : Hid (Nu.fits (x ^ n) = false) := (show _ = _ from pow_over2 (by
                rcases Nat.eq_zero_or_pos x.natAbs with h | h
                · have : x = 0 := by omega
                  subst this
                  rw [Int.pow_succ, Int.mul_zero] at hge
                  exact absurd hge (by decide)
                · exact h) (by omega) hge)
              clear hge
              obtain ⟨a0, a1, a2, a3⟩ := cells_of HPF.out.h1
              go_wp2_with fail
              obtain ⟨z1, z2, z3⟩ := one_laid HPF.out HVQ.out
              refine ret_num_ok rfl _ _ (w.heap.size + 1) _ _ _ _ rfl z1 rfl ?_
              exact ⟨_, _, _, _, false, x ^ (i + 1), rfl, z2, h100, (fun e => by cases e), (show false = false → _ from fun _ => HOV.out), z3⟩
          · obtain rfl : i = n := by omega
            have h100 : Hid ((x ^ i).natAbs < 65536 ^ 100) := (show _ < _ from Nat.lt_trans HB5.out (by decide +kernel))
            have HPF := HP
            clear HP
            obtain ⟨s8, p8, n8, c8, y0, y1, _, _, HVF⟩ := HPF.out.ho.cells
            obtain ⟨a0, a1, a2, a3⟩ := cells_of HPF.out.h1
            go_wp2_with fail
            obtain ⟨z1, z2, z3⟩ := one_laid HPF.out HVF.out
            refine ret_num_ok rfl _ _ (w.heap.size + 1) _ _ _ _ rfl z1 rfl ?_
            exact ⟨_, _, _, _, true, x ^ i, rfl, z2, h100, (show true = true → _ from fun _ => rfl), (fun e => by cases e), z3⟩
    · have h1' : ¬ (na : Int) = 1 := by omega
      have h0' : na ≠ 0 ∨ na = 0 := by omega
      by_cases h0 : na = 0
      · have hx1 := hsm.1 (Or.inl (List.length_eq_zero_iff.1 (by omega)))
        subst h0
        clear hsm e2' hna ja ha hx hcs h1 h1' h0'
        by_cases hn2 : 2 < n
        · have hn2' : (2 : Int) < (n : Int) := by omega
          have hmod : ((n : Int)).tmod 2 = ((n % 2 : Nat) : Int) := rfl
          obtain ⟨m, hm⟩ : ∃ m, m = 2 + n % 2 := ⟨_, rfl⟩
          have hm2 : 2 + ((n % 2 : Nat) : Int) = (m : Int) := by omega
          have HEX : Hid (x ^ m = x ^ n) := (show _ = _ by rw [hm]; exact (Nu.pow_small hx1 hn2).symm)
          have hmb : m ≤ 3 := by omega
          have wm2 : IntKind.i64.wrap (m : Int) = (m : Int) := IntWalk.i64_in _ (by omega)
          clear hm hx1 hn2
          go_enter Try.func29, Try.ntmps29
          go_wp2_with (go_at_call 20; refine (Of_is (by omega) (by omega)).mono ?_; rintro e wo ⟨so, po, no, co, rfl, HOV, HOB⟩; have hps := pw_start (so := so) (po := po) (no := no) (co := co) DA.out HOB.out HOV.out; obtain ⟨ka0, ka1, _⟩ := cells_of hps.ha; have kd0 := True.intro; have HPS := Lib.hid hps; clear hps)
          go_loopw [8] (fun v8 wr => ∃ i : Nat, v8 = .int .i64 (i : Int) ∧ i ≤ m ∧ Hid (PW w sa (.slice (some ⟨g, o, none⟩) 0 ca) la wo.heap.size (x ^ i) wr) ∧ Hid ((x ^ i).natAbs < 65536 ^ 5)) (fun v8 _ => m - (intOf v8).toNat)
          case atStart => exact ⟨0, rfl, Nat.zero_le _, (by show PW _ _ _ _ _ _ _; rw [Int.pow_zero]; exact HPS.out), (show _ < _ by simp)⟩
          case round =>
            clear HPS ka0 ka1 kd0
            obtain ⟨i, rfl, hi, HP, HB5⟩ := hrel
            by_cases hlt : i < m
            · obtain ⟨s1, p1, n1, c1, o0, o1, of0, of1, HVO⟩ := HP.out.ho.cells
              obtain ⟨kb0, kb1, _⟩ := cells_of HP.out.ha
              have hva : NumV (.agg #[.bool sa, .slice (some ⟨g, o, none⟩) 0 ca]) x wr := ⟨sa, _, la, rfl, HP.out.da, JA.out⟩
              have hlt5 : (65536 : Nat) ^ 5 < 65536 ^ 400 := by decide +kernel
              have hlt63 : (9223372036854775808 : Nat) < 65536 ^ 400 := by decide +kernel
              have hmul := Mul_is (z := x ^ (i + 1)) HVO.out hva (Nat.lt_trans HB5.out hlt5) (Nat.lt_of_le_of_lt HXB.out hlt63) (Int.pow_succ x i).symm
              clear hva hlt5 hlt63
              have hin : (i : Int) < (m : Int) := by omega
              go_upto_region 9 with (go_at_call 27; refine hmul.mono ?_; clear hmul; rintro e wa ⟨s', pv, nv, cv, rfl, HVA, HBA⟩; have P2 := HP.out.below HBA.out; obtain ⟨u0, u1, t0, t1, tf0, tf1⟩ := P2.ho.store; have HP2 := Lib.hid P2; clear P2 o0 o1 of0 of1)
              generalize hwn : World.setCell (World.setCell wa _ _) _ _ = wm
              have HPF := Lib.hid (show PW w sa (.slice (some ⟨g, o, none⟩) 0 ca) la wo.heap.size (x ^ (i + 1)) wm by rw [← hwn]; exact HP2.out.seto HVA.out)
              clear hwn t0 t1 tf0 tf1 HP2 HVA HBA HVO HP kb0 kb1
              obtain ⟨s2, p2, n2, c2, q0, q1, _, _, HVQ⟩ := HPF.out.ho.cells
              obtain ⟨l2, d2, hn2, j2⟩ := num_digits HVQ.out
              have h100 : Hid ((x ^ (i + 1)).natAbs < 65536 ^ 100) := (show _ < _ from pow_step_lt HXB.out HB5.out)
              have h5 := Nu.len_le_iff j2.1 j2.2.1 5
              rw [← hn2, j2.abs] at h5
              have H5 := Lib.hid h5
              clear d2 hn2 j2 h5
              by_cases hbig : n2 ≤ 5
              · have hb1 : ¬ (5 : Int) < (n2 : Int) := by omega
                have HB6 : Hid ((x ^ (i + 1)).natAbs < 65536 ^ 5) := (show _ < _ from H5.out.1 hbig)
                go_wp2_with fail
                go_roundw
                case rel => exact ⟨i + 1, by go_num, by omega, HPF.out, HB6.out⟩
                case measure => simp [intOf]; omega
              · have hb1 : (5 : Int) < (n2 : Int) := by omega
                have hge : 65536 ^ 5 ≤ (x ^ (i + 1)).natAbs := by
                  rcases Nat.lt_or_ge (x ^ (i + 1)).natAbs (65536 ^ 5) with h | h
                  · exact absurd (H5.out.2 h) hbig
                  · exact h
                have HOV : Hid (Nu.fits (x ^ m) = false) := (show _ = _ from pow_over2 (by
                  rcases Nat.eq_zero_or_pos x.natAbs with h | h
                  · have : x = 0 := by omega
                    subst this
                    rw [Int.pow_succ, Int.mul_zero] at hge
                    exact absurd hge (by decide)
                  · exact h) (by omega) hge)
                clear hge
                obtain ⟨a0, a1, a2, a3⟩ := cells_of HPF.out.h1
                go_wp2_with fail
                obtain ⟨z1, z2, z3⟩ := one_laid HPF.out HVQ.out
                refine ret_num_ok rfl _ _ (w.heap.size + 1) _ _ _ _ rfl z1 rfl ?_
                exact ⟨_, _, _, _, false, x ^ (i + 1), rfl, z2, h100, (fun e => by cases e), (show false = false → _ from fun _ => by rw [← HEX.out]; exact HOV.out), z3⟩
            · obtain rfl : i = m := by omega
              have h100 : Hid ((x ^ i).natAbs < 65536 ^ 100) := (show _ < _ from Nat.lt_trans HB5.out (by decide +kernel))
              have HPF := HP
              clear HP
              obtain ⟨s8, p8, n8, c8, y0, y1, _, _, HVF⟩ := HPF.out.ho.cells
              obtain ⟨a0, a1, a2, a3⟩ := cells_of HPF.out.h1
              go_wp2_with fail
              obtain ⟨z1, z2, z3⟩ := one_laid HPF.out HVF.out
              refine ret_num_ok rfl _ _ (w.heap.size + 1) _ _ _ _ rfl z1 rfl ?_
              exact ⟨_, _, _, _, true, x ^ i, rfl, z2, h100, (show true = true → _ from fun _ => HEX.out), (fun e => by cases e), z3⟩
        · have hn2' : ¬ (2 : Int) < (n : Int) := by omega
          clear hx1 hn2
          go_enter Try.func29, Try.ntmps29
          go_wp2_with (go_at_call 20; refine (Of_is (by omega) (by omega)).mono ?_; rintro e wo ⟨so, po, no, co, rfl, HOV, HOB⟩; have hps := pw_start (so := so) (po := po) (no := no) (co := co) DA.out HOB.out HOV.out; obtain ⟨ka0, ka1, _⟩ := cells_of hps.ha; have kd0 := True.intro; have HPS := Lib.hid hps; clear hps)
          go_loopw [8] (fun v8 wr => ∃ i : Nat, v8 = .int .i64 (i : Int) ∧ i ≤ n ∧ Hid (PW w sa (.slice (some ⟨g, o, none⟩) 0 ca) la wo.heap.size (x ^ i) wr) ∧ Hid ((x ^ i).natAbs < 65536 ^ 5)) (fun v8 _ => n - (intOf v8).toNat)
          case atStart => exact ⟨0, rfl, Nat.zero_le _, (by show PW _ _ _ _ _ _ _; rw [Int.pow_zero]; exact HPS.out), (show _ < _ by simp)⟩
          case round =>
            clear HPS ka0 ka1 kd0
            obtain ⟨i, rfl, hi, HP, HB5⟩ := hrel
            by_cases hlt : i < n
            · obtain ⟨s1, p1, n1, c1, o0, o1, of0, of1, HVO⟩ := HP.out.ho.cells
              obtain ⟨kb0, kb1, _⟩ := cells_of HP.out.ha
              have hva : NumV (.agg #[.bool sa, .slice (some ⟨g, o, none⟩) 0 ca]) x wr := ⟨sa, _, la, rfl, HP.out.da, JA.out⟩
              have hlt5 : (65536 : Nat) ^ 5 < 65536 ^ 400 := by decide +kernel
              have hlt63 : (9223372036854775808 : Nat) < 65536 ^ 400 := by decide +kernel
              have hmul := Mul_is (z := x ^ (i + 1)) HVO.out hva (Nat.lt_trans HB5.out hlt5) (Nat.lt_of_le_of_lt HXB.out hlt63) (Int.pow_succ x i).symm
              clear hva hlt5 hlt63
              have hin : (i : Int) < (n : Int) := by omega
              go_upto_region 9 with (go_at_call 27; refine hmul.mono ?_; clear hmul; rintro e wa ⟨s', pv, nv, cv, rfl, HVA, HBA⟩; have P2 := HP.out.below HBA.out; obtain ⟨u0, u1, t0, t1, tf0, tf1⟩ := P2.ho.store; have HP2 := Lib.hid P2; clear P2 o0 o1 of0 of1)
              generalize hwn : World.setCell (World.setCell wa _ _) _ _ = wm
              have HPF := Lib.hid (show PW w sa (.slice (some ⟨g, o, none⟩) 0 ca) la wo.heap.size (x ^ (i + 1)) wm by rw [← hwn]; exact HP2.out.seto HVA.out)
              clear hwn t0 t1 tf0 tf1 HP2 HVA HBA HVO HP kb0 kb1
              obtain ⟨s2, p2, n2, c2, q0, q1, _, _, HVQ⟩ := HPF.out.ho.cells
              obtain ⟨l2, d2, hn2, j2⟩ := num_digits HVQ.out
              have h100 : Hid ((x ^ (i + 1)).natAbs < 65536 ^ 100) := (show _ < _ from pow_step_lt HXB.out HB5.out)
              have h5 := Nu.len_le_iff j2.1 j2.2.1 5
              rw [← hn2, j2.abs] at h5
              have H5 := Lib.hid h5
              clear d2 hn2 j2 h5
              by_cases hbig : n2 ≤ 5
              · have hb1 : ¬ (5 : Int) < (n2 : Int) := by omega
                have HB6 : Hid ((x ^ (i + 1)).natAbs < 65536 ^ 5) := (show _ < _ from H5.out.1 hbig)
                go_wp2_with fail
                go_roundw
                case rel => exact ⟨i + 1, by go_num, by omega, HPF.out, HB6.out⟩
                case measure => simp [intOf]; omega
              · have hb1 : (5 : Int) < (n2 : Int) := by omega
                have hge : 65536 ^ 5 ≤ (x ^ (i + 1)).natAbs := by
                  rcases Nat.lt_or_ge (x ^ (i + 1)).natAbs (65536 ^ 5) with h | h
                  · exact absurd (H5.out.2 h) hbig
                  · exact h
                have HOV : Hid (Nu.fits (x ^ n) = false) := (show _ = _ from pow_over2 (by
                  rcases Nat.eq_zero_or_pos x.natAbs with h | h
                  · have : x = 0 := by omega
                    subst this
                    rw [Int.pow_succ, Int.mul_zero] at hge
                    exact absurd hge (by decide)
                  · exact h) (by omega) hge)
                clear hge
                obtain ⟨a0, a1, a2, a3⟩ := cells_of HPF.out.h1
                go_wp2_with fail
                obtain ⟨z1, z2, z3⟩ := one_laid HPF.out HVQ.out
                refine ret_num_ok rfl _ _ (w.heap.size + 1) _ _ _ _ rfl z1 rfl ?_
                exact ⟨_, _, _, _, false, x ^ (i + 1), rfl, z2, h100, (fun e => by cases e), (show false = false → _ from fun _ => HOV.out), z3⟩
            · obtain rfl : i = n := by omega
              have h100 : Hid ((x ^ i).natAbs < 65536 ^ 100) := (show _ < _ from Nat.lt_trans HB5.out (by decide +kernel))
              have HPF := HP
              clear HP
              obtain ⟨s8, p8, n8, c8, y0, y1, _, _, HVF⟩ := HPF.out.ho.cells
              obtain ⟨a0, a1, a2, a3⟩ := cells_of HPF.out.h1
              go_wp2_with fail
              obtain ⟨z1, z2, z3⟩ := one_laid HPF.out HVF.out
              refine ret_num_ok rfl _ _ (w.heap.size + 1) _ _ _ _ rfl z1 rfl ?_
              exact ⟨_, _, _, _, true, x ^ i, rfl, z2, h100, (show true = true → _ from fun _ => rfl), (fun e => by cases e), z3⟩
      · have h0'' : ¬ (na : Int) = 0 := by omega
        have hnb0 : ((na : Int) == 0) = false := by simpa using h0''
        have hnb1 : ((na : Int) == 1) = false := by simpa using h1'
        clear hsm e2' hna ja ha hx hcs h1 h0 h0'
        go_enter Try.func29, Try.ntmps29
        go_wp2_with (go_at_call 20; refine (Of_is (by omega) (by omega)).mono ?_; rintro e wo ⟨so, po, no, co, rfl, HOV, HOB⟩; have hps := pw_start (so := so) (po := po) (no := no) (co := co) DA.out HOB.out HOV.out; obtain ⟨ka0, ka1, _⟩ := cells_of hps.ha; have kd0 := True.intro; have HPS := Lib.hid hps; clear hps)
        go_loopw [8] (fun v8 wr => ∃ i : Nat, v8 = .int .i64 (i : Int) ∧ i ≤ n ∧ Hid (PW w sa (.slice (some ⟨g, o, none⟩) na ca) la wo.heap.size (x ^ i) wr) ∧ Hid ((x ^ i).natAbs < 65536 ^ 5)) (fun v8 _ => n - (intOf v8).toNat)
        case atStart => exact ⟨0, rfl, Nat.zero_le _, (by show PW _ _ _ _ _ _ _; rw [Int.pow_zero]; exact HPS.out), (show _ < _ by simp)⟩
        case round =>
          clear HPS ka0 ka1 kd0
          obtain ⟨i, rfl, hi, HP, HB5⟩ := hrel
          by_cases hlt : i < n
          · obtain ⟨s1, p1, n1, c1, o0, o1, of0, of1, HVO⟩ := HP.out.ho.cells
            obtain ⟨kb0, kb1, _⟩ := cells_of HP.out.ha
            have hva : NumV (.agg #[.bool sa, .slice (some ⟨g, o, none⟩) na ca]) x wr := ⟨sa, _, la, rfl, HP.out.da, JA.out⟩
            have hlt5 : (65536 : Nat) ^ 5 < 65536 ^ 400 := by decide +kernel
            have hlt63 : (9223372036854775808 : Nat) < 65536 ^ 400 := by decide +kernel
            have hmul := Mul_is (z := x ^ (i + 1)) HVO.out hva (Nat.lt_trans HB5.out hlt5) (Nat.lt_of_le_of_lt HXB.out hlt63) (Int.pow_succ x i).symm
            clear hva hlt5 hlt63
            have hin : (i : Int) < (n : Int) := by omega
            go_upto_region 9 with (go_at_call 27; refine hmul.mono ?_; clear hmul; rintro e wa ⟨s', pv, nv, cv, rfl, HVA, HBA⟩; have P2 := HP.out.below HBA.out; obtain ⟨u0, u1, t0, t1, tf0, tf1⟩ := P2.ho.store; have HP2 := Lib.hid P2; clear P2 o0 o1 of0 of1)
            generalize hwn : World.setCell (World.setCell wa _ _) _ _ = wm
            have HPF := Lib.hid (show PW w sa (.slice (some ⟨g, o, none⟩) na ca) la wo.heap.size (x ^ (i + 1)) wm by rw [← hwn]; exact HP2.out.seto HVA.out)
            clear hwn t0 t1 tf0 tf1 HP2 HVA HBA HVO HP kb0 kb1
            obtain ⟨s2, p2, n2, c2, q0, q1, _, _, HVQ⟩ := HPF.out.ho.cells
            obtain ⟨l2, d2, hn2, j2⟩ := num_digits HVQ.out
            have h100 : Hid ((x ^ (i + 1)).natAbs < 65536 ^ 100) := (show _ < _ from pow_step_lt HXB.out HB5.out)
            have h5 := Nu.len_le_iff j2.1 j2.2.1 5
            rw [← hn2, j2.abs] at h5
            have H5 := Lib.hid h5
            clear d2 hn2 j2 h5
            by_cases hbig : n2 ≤ 5
            · have hb1 : ¬ (5 : Int) < (n2 : Int) := by omega
              have HB6 : Hid ((x ^ (i + 1)).natAbs < 65536 ^ 5) := (show _ < _ from H5.out.1 hbig)
              go_wp2_with fail
              go_roundw
              case rel => exact ⟨i + 1, by go_num, by omega, HPF.out, HB6.out⟩
              case measure => simp [intOf]; omega
            · have hb1 : (5 : Int) < (n2 : Int) := by omega
              have hge : 65536 ^ 5 ≤ (x ^ (i + 1)).natAbs := by
                rcases Nat.lt_or_ge (x ^ (i + 1)).natAbs (65536 ^ 5) with h | h
                · exact absurd (H5.out.2 h) hbig
                · exact h
              have HOV : Hid (Nu.fits (x ^ n) = false) := (show _ = _ from pow_over2 (by
                rcases Nat.eq_zero_or_pos x.natAbs with h | h
                · have : x = 0 := by omega
                  subst this
                  rw [Int.pow_succ, Int.mul_zero] at hge
                  exact absurd hge (by decide)
                · exact h) (by omega) hge)
              clear hge
              obtain ⟨a0, a1, a2, a3⟩ := cells_of HPF.out.h1
              go_wp2_with fail
              obtain ⟨z1, z2, z3⟩ := one_laid HPF.out HVQ.out
              refine ret_num_ok rfl _ _ (w.heap.size + 1) _ _ _ _ rfl z1 rfl ?_
              exact ⟨_, _, _, _, false, x ^ (i + 1), rfl, z2, h100, (fun e => by cases e), (show false = false → _ from fun _ => HOV.out), z3⟩
          · obtain rfl : i = n := by omega
            have h100 : Hid ((x ^ i).natAbs < 65536 ^ 100) := (show _ < _ from Nat.lt_trans HB5.out (by decide +kernel))
            have HPF := HP
            clear HP
            obtain ⟨s8, p8, n8, c8, y0, y1, _, _, HVF⟩ := HPF.out.ho.cells
            obtain ⟨a0, a1, a2, a3⟩ := cells_of HPF.out.h1
            go_wp2_with fail
            obtain ⟨z1, z2, z3⟩ := one_laid HPF.out HVF.out
            refine ret_num_ok rfl _ _ (w.heap.size + 1) _ _ _ _ rfl z1 rfl ?_
            exact ⟨_, _, _, _, true, x ^ i, rfl, z2, h100, (show true = true → _ from fun _ => rfl), (fun e => by cases e), z3⟩
end Go.Proofs.Ytaekjkihdecmcaa
