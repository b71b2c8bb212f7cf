/-
  The reference's quotients, at this program.
-/
import Derived.Test.YtaekjkihdecmcaaNuI
import Derived.Deep.RegionLaw
set_option linter.unusedVariables false
set_option linter.unusedSimpArgs false
namespace Go.Proofs.Ytaekjkihdecmcaa
open Go.RowKit

theorem bit_int {d j bit : Nat} (h : d / 2 ^ j % 2 = bit) : ((d : Int) / 2 ^ j).tmod 2 = (bit : Int) := by
  have e : (d : Int) / 2 ^ j = ((d / 2 ^ j : Nat) : Int) := by simp
  rw [e, ← h]
  rfl
theorem less_sgn {o b r r2 : Nat} (h : o + b = r) (e : r = r2) : Nu.sgn false o = ((r2 - b : Nat) : Int) := by
  subst e
  show (o : Int) = _
  omega
theorem big100 : 4 * 65536 ^ 100 ≤ 65536 ^ 900 := by decide +kernel

set_option maxHeartbeats 16000000 in
theorem Parts_num (va vb : Value) (x y : Int) (w : World) (ha : NumV va x w) (hb : NumV vb y w) (hx : x.natAbs < 65536 ^ 100) (hy : y.natAbs < 65536 ^ 100) (hy0 : y ≠ 0) :
    Calls Try.prog 28 #[va, vb] w fun e w' => ∃ v1 v2, e = .returned (.tuple #[v1, v2]) ∧ NumV v1 (x.fdiv y) w' ∧ NumV v2 (x.fmod y) w' ∧ Below w.heap.size w w' := by
  obtain ⟨sa, pa, na, ca, la, rfl, da, hna, ja⟩ := ha.form
  obtain ⟨sb, pb, nb, cb, lb, rfl, db, hnb, jb⟩ := hb.form
  have lla := says_len ja hx
  have llb := says_len jb hy
  rw [← hna] at lla
  rw [← hnb] at llb
  have JA := Lib.hid ja
  have JB := Lib.hid jb
  have HNA := Lib.hid hna
  have HNB := Lib.hid hnb
  have HX := Lib.hid hx
  have HY := Lib.hid hy
  have HY0 := Lib.hid hy0
  have DA := Lib.hid da
  have DB := Lib.hid db
  clear ha hb hx hy hy0 da db hna hnb ja jb
  go_enter Try.func28, Try.ntmps28
  go_wp2_with (go_at_call 20; refine (Of_is (by omega) (by omega)).mono ?_; rintro e wo ⟨so, po, no, co, rfl, HOV, HOB⟩; have hps := ps_start (so := so) (po := po) (no := no) (co := co) DA.out DB.out HOB.out HOV.out; obtain ⟨ka0, ka1, _⟩ := cells_of hps.ha; have HPS := Lib.hid hps; clear hps)
  go_loopw [9] (fun v9 wr => ∃ (i Q R : Nat), v9 = .int .i64 ((i : Int) - 1) ∧ i ≤ 16 * na ∧ Hid (Q * Nu.val lb + R = Nu.val la / 2 ^ i) ∧ Hid (R < Nu.val lb) ∧ Hid (PS w sa (.slice pa na ca) la sb (.slice pb nb cb) lb wo.heap.size (Q : Int) (R : Int) wr)) (fun v9 _ => (intOf v9 + 1).toNat)
  case atStart =>
    refine ⟨16 * na, 0, 0, by go_num, Nat.le_refl _, ?_, ?_, HPS.out⟩
    · show _ = _
      have := Nu.val_lt JA.out.1
      rw [← HNA.out] at this
      rw [Nat.div_eq_of_lt (by rw [Nat.pow_mul]; exact this)]
      simp
    · show _ < _
      have h1 := JB.out.abs
      have h2 := HY0.out
      omega
  case round =>
    obtain ⟨i, Q, R, rfl, hi, HV, HR, HP⟩ := hrel
    clear HPS ka0 ka1
    have HQX : Hid (((Q : Int) + (Q : Int)).natAbs < 65536 ^ 900 ∧ (Q : Int).natAbs < 65536 ^ 900 ∧ ((R : Int) + (R : Int)).natAbs < 65536 ^ 900 ∧ (R : Int).natAbs < 65536 ^ 900) := (show _ ∧ _ from by
      have h1 : Nu.val la < 65536 ^ 100 := by rw [JA.out.abs]; exact HX.out
      have h2 : Nu.val lb < 65536 ^ 100 := by rw [JB.out.abs]; exact HY.out
      have h3 := Nat.div_le_self (Nu.val la) (2 ^ i)
      have h4 := HV.out
      have h5 := HR.out
      have h6 : Q * 1 ≤ Q * Nu.val lb := Nat.mul_le_mul_left _ (by omega)
      have h7 := big100
      generalize 65536 ^ 100 = A at *
      generalize 65536 ^ 900 = B at *
      omega)
    cases i with
    | zero =>
      have HV0 : Hid (Q * Nu.val lb + R = Nu.val la) := (show _ = _ by have := HV.out; rwa [Nat.pow_zero, Nat.div_one] at this)
      have hfl := Nu.floor_signs (s := sa) (t := sb) (n := Nu.val la) (m := Nu.val lb) (Q := Q) (R := R) (by have := HR.out; omega) HV0.out HR.out
      rw [← JA.out.2.2.1, ← JB.out.2.2.1] at hfl
      have HFL := Lib.hid hfl
      have hneg1 : (-1 : Int) < 0 := by decide
      have hQB : Q < 65536 ^ 100 ∧ R < 65536 ^ 100 := by
        have h1 : Nu.val la < 65536 ^ 100 := by rw [JA.out.abs]; exact HX.out
        have h4 := HV0.out
        have h5 := HR.out
        have h6 : Q * 1 ≤ Q * Nu.val lb := Nat.mul_le_mul_left _ (by omega)
        omega
      have HQB := Lib.hid hQB
      clear hfl HV hQB hi
      by_cases hR0 : R = 0
      · have HR0 := Lib.hid hR0
        clear hR0
        cases sa
        · cases sb
          · skip
            obtain ⟨s3, p3, n3, c3, r0, r1, _, _, HVR⟩ := HP.out.hr.cells
            obtain ⟨ka0, ka1, _⟩ := cells_of HP.out.ha
            obtain ⟨kb0, kb1, _⟩ := cells_of HP.out.hb
            obtain ⟨lr, dr, hnr, jr⟩ := num_digits HVR.out
            have hs3 := jr.sign
            have hv3 := jr.abs
            have hl0 : lr = [] := (Nu.val_eq_zero jr.2.1).1 (by rw [hv3, HR0.out]; rfl)
            rw [hl0] at hnr
            have hn3 : n3 = 0 := hnr
            subst hn3
            clear hnr jr dr hs3 hv3 hl0
            go_upto_region 21 with fail
            clear ka0 ka1 kb0 kb1 r0 r1
            obtain ⟨s8, p8, n8, c8, y0, y1, _, _, HVQ⟩ := HP.out.hq.cells
            obtain ⟨s9, p9, n9, c9, x0, x1, _, _, HVR2⟩ := HP.out.hr.cells
            obtain ⟨a0, a1, a2, a3⟩ := cells_of HP.out.h1
            obtain ⟨b0, b1, b2, b3⟩ := cells_of HP.out.h2
            go_region_held3 (fun w' => w'.cell? ⟨w.heap.size + 4, 0, none⟩ = some (.bool s8) ∧ w'.cell? ⟨w.heap.size + 4, 1, none⟩ = some (.slice p8 n8 c8) ∧ w'.cell? ⟨w.heap.size + 5, 0, none⟩ = some (.bool s9) ∧ w'.cell? ⟨w.heap.size + 5, 1, none⟩ = some (.slice p9 n9 c9))
              (first
                | (with_reducible exact ⟨dr1 y0, dr1 y1, dr1 x0, dr1 x1⟩)
                | (refine ⟨dr1 (far2 y0 ?_), dr1 (far2 y1 ?_), dr1 (far2 x0 ?_), dr1 (far2 x1 ?_)⟩ <;> omega)
                | (refine ⟨dr1 (far2 (far2 y0 ?_) ?_), dr1 (far2 (far2 y1 ?_) ?_), dr1 (far2 (far2 x0 ?_) ?_), dr1 (far2 (far2 x1 ?_) ?_)⟩ <;> omega)
                | fail)
              ((first | fail))
            go_wp2_with fail
            obtain ⟨z1, z2, z3, z4, z5⟩ := two_laid (b := w.heap.size + 2) (b2 := w.heap.size + 3) (B := w.heap.size) (a := w) HP.out.h1 HP.out.h2 (by omega) HVQ.out HVR2.out HP.out.bel (by omega) (by omega)
            refine ret_num2 rfl _ _ (w.heap.size + 2) (w.heap.size + 3) _ _ _ _ _ _ rfl z1 rfl z2 ?_
            refine ⟨_, _, rfl, ?_, ?_, z5.drew⟩
            · rw [show x.fdiv y = (Q : Int) by have := HFL.out.1; have hR := HR0.out; simp [Nu.sgn, hR] at this; omega]
              exact z3.drew
            · rw [show x.fmod y = (R : Int) by have := HFL.out.2; have hR := HR0.out; simp [Nu.sgn, hR] at this; omega]
              exact z4.drew
          · skip
            obtain ⟨s1, p1, n1, c1, q0, q1, qf0, qf1, HVQ⟩ := HP.out.hq.cells
            obtain ⟨ka0, ka1, _⟩ := cells_of HP.out.ha
            obtain ⟨kb0, kb1, _⟩ := cells_of HP.out.hb
            have hng := Neg_is (z := -(Q : Int)) HVQ.out (by have := HQB.out.1; omega) rfl
            go_upto_region 16 with (go_at_call 19; refine hng.mono ?_; clear hng; rintro e wa ⟨s', pv, nv, cv, rfl, HVA, HBA⟩; have P2 := HP.out.below HBA.out; obtain ⟨u0, u1, t0, t1, tf0, tf1⟩ := P2.hq.store; have HP2 := Lib.hid P2; clear P2 q0 q1 qf0 qf1)
            generalize hwn : World.setCell (World.setCell wa _ _) _ _ = w1
            have HP1x := Lib.hid (show PS w false (.slice pa na ca) la true (.slice pb nb cb) lb wo.heap.size (-(Q : Int)) (R : Int) w1 by rw [← hwn]; exact HP2.out.setq HVA.out)
            clear hwn t0 t1 tf0 tf1 HP2 HVA HBA HVQ HP ka0 ka1 kb0 kb1
            obtain ⟨s3, p3, n3, c3, r0, r1, _, _, HVR⟩ := HP1x.out.hr.cells
            obtain ⟨ka0, ka1, _⟩ := cells_of HP1x.out.ha
            obtain ⟨kb0, kb1, _⟩ := cells_of HP1x.out.hb
            obtain ⟨lr, dr, hnr, jr⟩ := num_digits HVR.out
            have hs3 := jr.sign
            have hv3 := jr.abs
            have hl0 : lr = [] := (Nu.val_eq_zero jr.2.1).1 (by rw [hv3, HR0.out]; rfl)
            rw [hl0] at hnr
            have hn3 : n3 = 0 := hnr
            subst hn3
            clear hnr jr dr hs3 hv3 hl0
            go_upto_region 21 with fail
            clear ka0 ka1 kb0 kb1 r0 r1
            obtain ⟨s8, p8, n8, c8, y0, y1, _, _, HVQ⟩ := HP1x.out.hq.cells
            obtain ⟨s9, p9, n9, c9, x0, x1, _, _, HVR2⟩ := HP1x.out.hr.cells
            obtain ⟨a0, a1, a2, a3⟩ := cells_of HP1x.out.h1
            obtain ⟨b0, b1, b2, b3⟩ := cells_of HP1x.out.h2
            go_region_held3 (fun w' => w'.cell? ⟨w.heap.size + 4, 0, none⟩ = some (.bool s8) ∧ w'.cell? ⟨w.heap.size + 4, 1, none⟩ = some (.slice p8 n8 c8) ∧ w'.cell? ⟨w.heap.size + 5, 0, none⟩ = some (.bool s9) ∧ w'.cell? ⟨w.heap.size + 5, 1, none⟩ = some (.slice p9 n9 c9))
              (first
                | (with_reducible exact ⟨dr1 y0, dr1 y1, dr1 x0, dr1 x1⟩)
                | (refine ⟨dr1 (far2 y0 ?_), dr1 (far2 y1 ?_), dr1 (far2 x0 ?_), dr1 (far2 x1 ?_)⟩ <;> omega)
                | (refine ⟨dr1 (far2 (far2 y0 ?_) ?_), dr1 (far2 (far2 y1 ?_) ?_), dr1 (far2 (far2 x0 ?_) ?_), dr1 (far2 (far2 x1 ?_) ?_)⟩ <;> omega)
                | fail)
              ((first | fail))
            go_wp2_with fail
            obtain ⟨z1, z2, z3, z4, z5⟩ := two_laid (b := w.heap.size + 2) (b2 := w.heap.size + 3) (B := w.heap.size) (a := w) HP1x.out.h1 HP1x.out.h2 (by omega) HVQ.out HVR2.out HP1x.out.bel (by omega) (by omega)
            refine ret_num2 rfl _ _ (w.heap.size + 2) (w.heap.size + 3) _ _ _ _ _ _ rfl z1 rfl z2 ?_
            refine ⟨_, _, rfl, ?_, ?_, z5.drew⟩
            · rw [show x.fdiv y = (-(Q : Int)) by have := HFL.out.1; have hR := HR0.out; simp [Nu.sgn, hR] at this; omega]
              exact z3.drew
            · rw [show x.fmod y = (R : Int) by have := HFL.out.2; have hR := HR0.out; simp [Nu.sgn, hR] at this; omega]
              exact z4.drew
        · cases sb
          · skip
            obtain ⟨s1, p1, n1, c1, q0, q1, qf0, qf1, HVQ⟩ := HP.out.hq.cells
            obtain ⟨ka0, ka1, _⟩ := cells_of HP.out.ha
            obtain ⟨kb0, kb1, _⟩ := cells_of HP.out.hb
            have hng := Neg_is (z := -(Q : Int)) HVQ.out (by have := HQB.out.1; omega) rfl
            go_upto_region 16 with (go_at_call 19; refine hng.mono ?_; clear hng; rintro e wa ⟨s', pv, nv, cv, rfl, HVA, HBA⟩; have P2 := HP.out.below HBA.out; obtain ⟨u0, u1, t0, t1, tf0, tf1⟩ := P2.hq.store; have HP2 := Lib.hid P2; clear P2 q0 q1 qf0 qf1)
            generalize hwn : World.setCell (World.setCell wa _ _) _ _ = w1
            have HP1x := Lib.hid (show PS w true (.slice pa na ca) la false (.slice pb nb cb) lb wo.heap.size (-(Q : Int)) (R : Int) w1 by rw [← hwn]; exact HP2.out.setq HVA.out)
            clear hwn t0 t1 tf0 tf1 HP2 HVA HBA HVQ HP ka0 ka1 kb0 kb1
            obtain ⟨s2, p2, n2, c2, q0, q1, qf0, qf1, HVQ⟩ := HP1x.out.hr.cells
            obtain ⟨ka0, ka1, _⟩ := cells_of HP1x.out.ha
            obtain ⟨kb0, kb1, _⟩ := cells_of HP1x.out.hb
            have hng := Neg_is (z := -(R : Int)) HVQ.out (by have := HQB.out.2; omega) rfl
            go_upto_region 18 with (go_at_call 19; refine hng.mono ?_; clear hng; rintro e wb ⟨s', pv, nv, cv, rfl, HVA, HBA⟩; have P2 := HP1x.out.below HBA.out; obtain ⟨u0, u1, t0, t1, tf0, tf1⟩ := P2.hr.store; have HP2 := Lib.hid P2; clear P2 q0 q1 qf0 qf1)
            generalize hwn : World.setCell (World.setCell wb _ _) _ _ = w2
            have HP2x := Lib.hid (show PS w true (.slice pa na ca) la false (.slice pb nb cb) lb wo.heap.size (-(Q : Int)) (-(R : Int)) w2 by rw [← hwn]; exact HP2.out.setr HVA.out)
            clear hwn t0 t1 tf0 tf1 HP2 HVA HBA HVQ HP1x ka0 ka1 kb0 kb1
            obtain ⟨s3, p3, n3, c3, r0, r1, _, _, HVR⟩ := HP2x.out.hr.cells
            obtain ⟨ka0, ka1, _⟩ := cells_of HP2x.out.ha
            obtain ⟨kb0, kb1, _⟩ := cells_of HP2x.out.hb
            obtain ⟨lr, dr, hnr, jr⟩ := num_digits HVR.out
            have hs3 := jr.sign
            have hv3 := jr.abs
            have hl0 : lr = [] := (Nu.val_eq_zero jr.2.1).1 (by rw [hv3, HR0.out]; rfl)
            rw [hl0] at hnr
            have hn3 : n3 = 0 := hnr
            subst hn3
            clear hnr jr dr hs3 hv3 hl0
            go_upto_region 21 with fail
            clear ka0 ka1 kb0 kb1 r0 r1
            obtain ⟨s8, p8, n8, c8, y0, y1, _, _, HVQ⟩ := HP2x.out.hq.cells
            obtain ⟨s9, p9, n9, c9, x0, x1, _, _, HVR2⟩ := HP2x.out.hr.cells
            obtain ⟨a0, a1, a2, a3⟩ := cells_of HP2x.out.h1
            obtain ⟨b0, b1, b2, b3⟩ := cells_of HP2x.out.h2
            go_region_held3 (fun w' => w'.cell? ⟨w.heap.size + 4, 0, none⟩ = some (.bool s8) ∧ w'.cell? ⟨w.heap.size + 4, 1, none⟩ = some (.slice p8 n8 c8) ∧ w'.cell? ⟨w.heap.size + 5, 0, none⟩ = some (.bool s9) ∧ w'.cell? ⟨w.heap.size + 5, 1, none⟩ = some (.slice p9 n9 c9))
              (first
                | (with_reducible exact ⟨dr1 y0, dr1 y1, dr1 x0, dr1 x1⟩)
                | (refine ⟨dr1 (far2 y0 ?_), dr1 (far2 y1 ?_), dr1 (far2 x0 ?_), dr1 (far2 x1 ?_)⟩ <;> omega)
                | (refine ⟨dr1 (far2 (far2 y0 ?_) ?_), dr1 (far2 (far2 y1 ?_) ?_), dr1 (far2 (far2 x0 ?_) ?_), dr1 (far2 (far2 x1 ?_) ?_)⟩ <;> omega)
                | fail)
              ((first | fail))
            go_wp2_with fail
            obtain ⟨z1, z2, z3, z4, z5⟩ := two_laid (b := w.heap.size + 2) (b2 := w.heap.size + 3) (B := w.heap.size) (a := w) HP2x.out.h1 HP2x.out.h2 (by omega) HVQ.out HVR2.out HP2x.out.bel (by omega) (by omega)
            refine ret_num2 rfl _ _ (w.heap.size + 2) (w.heap.size + 3) _ _ _ _ _ _ rfl z1 rfl z2 ?_
            refine ⟨_, _, rfl, ?_, ?_, z5.drew⟩
            · rw [show x.fdiv y = (-(Q : Int)) by have := HFL.out.1; have hR := HR0.out; simp [Nu.sgn, hR] at this; omega]
              exact z3.drew
            · rw [show x.fmod y = (-(R : Int)) by have := HFL.out.2; have hR := HR0.out; simp [Nu.sgn, hR] at this; omega]
              exact z4.drew
          · skip
            obtain ⟨s2, p2, n2, c2, q0, q1, qf0, qf1, HVQ⟩ := HP.out.hr.cells
            obtain ⟨ka0, ka1, _⟩ := cells_of HP.out.ha
            obtain ⟨kb0, kb1, _⟩ := cells_of HP.out.hb
            have hng := Neg_is (z := -(R : Int)) HVQ.out (by have := HQB.out.2; omega) rfl
            go_upto_region 18 with (go_at_call 19; refine hng.mono ?_; clear hng; rintro e wb ⟨s', pv, nv, cv, rfl, HVA, HBA⟩; have P2 := HP.out.below HBA.out; obtain ⟨u0, u1, t0, t1, tf0, tf1⟩ := P2.hr.store; have HP2 := Lib.hid P2; clear P2 q0 q1 qf0 qf1)
            generalize hwn : World.setCell (World.setCell wb _ _) _ _ = w1
            have HP1x := Lib.hid (show PS w true (.slice pa na ca) la true (.slice pb nb cb) lb wo.heap.size (Q : Int) (-(R : Int)) w1 by rw [← hwn]; exact HP2.out.setr HVA.out)
            clear hwn t0 t1 tf0 tf1 HP2 HVA HBA HVQ HP ka0 ka1 kb0 kb1
            obtain ⟨s3, p3, n3, c3, r0, r1, _, _, HVR⟩ := HP1x.out.hr.cells
            obtain ⟨ka0, ka1, _⟩ := cells_of HP1x.out.ha
            obtain ⟨kb0, kb1, _⟩ := cells_of HP1x.out.hb
            obtain ⟨lr, dr, hnr, jr⟩ := num_digits HVR.out
            have hs3 := jr.sign
            have hv3 := jr.abs
            have hl0 : lr = [] := (Nu.val_eq_zero jr.2.1).1 (by rw [hv3, HR0.out]; rfl)
            rw [hl0] at hnr
            have hn3 : n3 = 0 := hnr
            subst hn3
            clear hnr jr dr hs3 hv3 hl0
            go_upto_region 21 with fail
            clear ka0 ka1 kb0 kb1 r0 r1
            obtain ⟨s8, p8, n8, c8, y0, y1, _, _, HVQ⟩ := HP1x.out.hq.cells
            obtain ⟨s9, p9, n9, c9, x0, x1, _, _, HVR2⟩ := HP1x.out.hr.cells
            obtain ⟨a0, a1, a2, a3⟩ := cells_of HP1x.out.h1
            obtain ⟨b0, b1, b2, b3⟩ := cells_of HP1x.out.h2
            go_region_held3 (fun w' => w'.cell? ⟨w.heap.size + 4, 0, none⟩ = some (.bool s8) ∧ w'.cell? ⟨w.heap.size + 4, 1, none⟩ = some (.slice p8 n8 c8) ∧ w'.cell? ⟨w.heap.size + 5, 0, none⟩ = some (.bool s9) ∧ w'.cell? ⟨w.heap.size + 5, 1, none⟩ = some (.slice p9 n9 c9))
              (first
                | (with_reducible exact ⟨dr1 y0, dr1 y1, dr1 x0, dr1 x1⟩)
                | (refine ⟨dr1 (far2 y0 ?_), dr1 (far2 y1 ?_), dr1 (far2 x0 ?_), dr1 (far2 x1 ?_)⟩ <;> omega)
                | (refine ⟨dr1 (far2 (far2 y0 ?_) ?_), dr1 (far2 (far2 y1 ?_) ?_), dr1 (far2 (far2 x0 ?_) ?_), dr1 (far2 (far2 x1 ?_) ?_)⟩ <;> omega)
                | fail)
              ((first | fail))
            go_wp2_with fail
            obtain ⟨z1, z2, z3, z4, z5⟩ := two_laid (b := w.heap.size + 2) (b2 := w.heap.size + 3) (B := w.heap.size) (a := w) HP1x.out.h1 HP1x.out.h2 (by omega) HVQ.out HVR2.out HP1x.out.bel (by omega) (by omega)
            refine ret_num2 rfl _ _ (w.heap.size + 2) (w.heap.size + 3) _ _ _ _ _ _ rfl z1 rfl z2 ?_
            refine ⟨_, _, rfl, ?_, ?_, z5.drew⟩
            · rw [show x.fdiv y = (Q : Int) by have := HFL.out.1; have hR := HR0.out; simp [Nu.sgn, hR] at this; omega]
              exact z3.drew
            · rw [show x.fmod y = (-(R : Int)) by have := HFL.out.2; have hR := HR0.out; simp [Nu.sgn, hR] at this; omega]
              exact z4.drew
      · have HR0 := Lib.hid hR0
        cases sa
        · cases sb
          · skip
            obtain ⟨s3, p3, n3, c3, r0, r1, _, _, HVR⟩ := HP.out.hr.cells
            obtain ⟨ka0, ka1, _⟩ := cells_of HP.out.ha
            obtain ⟨kb0, kb1, _⟩ := cells_of HP.out.hb
            obtain ⟨lr, dr, hnr, jr⟩ := num_digits HVR.out
            have hs3 := jr.sign
            have hv3 := jr.abs
            have hs3b : s3 = false := by rw [hs3]; first | (apply decide_eq_true; omega) | (apply decide_eq_false; omega)
            subst hs3b
            have hl0 : 0 < n3 := by
              rw [hnr]
              refine Nat.pos_of_ne_zero fun e => ?_
              have := List.length_eq_zero_iff.1 e
              rw [this] at hv3
              have h0 : Nu.val [] = 0 := rfl
              omega
            have hl1 : (0 : Int) < (n3 : Int) := by omega
            clear hnr jr dr hs3 hv3 hl0
            go_upto_region 21 with fail
            clear ka0 ka1 kb0 kb1 r0 r1
            obtain ⟨s8, p8, n8, c8, y0, y1, _, _, HVQ⟩ := HP.out.hq.cells
            obtain ⟨s9, p9, n9, c9, x0, x1, _, _, HVR2⟩ := HP.out.hr.cells
            obtain ⟨a0, a1, a2, a3⟩ := cells_of HP.out.h1
            obtain ⟨b0, b1, b2, b3⟩ := cells_of HP.out.h2
            go_region_held3 (fun w' => w'.cell? ⟨w.heap.size + 4, 0, none⟩ = some (.bool s8) ∧ w'.cell? ⟨w.heap.size + 4, 1, none⟩ = some (.slice p8 n8 c8) ∧ w'.cell? ⟨w.heap.size + 5, 0, none⟩ = some (.bool s9) ∧ w'.cell? ⟨w.heap.size + 5, 1, none⟩ = some (.slice p9 n9 c9))
              (first
                | (with_reducible exact ⟨dr1 y0, dr1 y1, dr1 x0, dr1 x1⟩)
                | (refine ⟨dr1 (far2 y0 ?_), dr1 (far2 y1 ?_), dr1 (far2 x0 ?_), dr1 (far2 x1 ?_)⟩ <;> omega)
                | (refine ⟨dr1 (far2 (far2 y0 ?_) ?_), dr1 (far2 (far2 y1 ?_) ?_), dr1 (far2 (far2 x0 ?_) ?_), dr1 (far2 (far2 x1 ?_) ?_)⟩ <;> omega)
                | fail)
              ((first | fail))
            go_wp2_with fail
            obtain ⟨z1, z2, z3, z4, z5⟩ := two_laid (b := w.heap.size + 2) (b2 := w.heap.size + 3) (B := w.heap.size) (a := w) HP.out.h1 HP.out.h2 (by omega) HVQ.out HVR2.out HP.out.bel (by omega) (by omega)
            refine ret_num2 rfl _ _ (w.heap.size + 2) (w.heap.size + 3) _ _ _ _ _ _ rfl z1 rfl z2 ?_
            refine ⟨_, _, rfl, ?_, ?_, z5.drew⟩
            · rw [show x.fdiv y = (Q : Int) by have := HFL.out.1; have hR := HR0.out; simp [Nu.sgn, hR] at this; omega]
              exact z3.drew
            · rw [show x.fmod y = (R : Int) by have := HFL.out.2; have hR := HR0.out; simp [Nu.sgn, hR] at this; omega]
              exact z4.drew
          · skip
            obtain ⟨s1, p1, n1, c1, q0, q1, qf0, qf1, HVQ⟩ := HP.out.hq.cells
            obtain ⟨ka0, ka1, _⟩ := cells_of HP.out.ha
            obtain ⟨kb0, kb1, _⟩ := cells_of HP.out.hb
            have hng := Neg_is (z := -(Q : Int)) HVQ.out (by have := HQB.out.1; omega) rfl
            go_upto_region 16 with (go_at_call 19; refine hng.mono ?_; clear hng; rintro e wa ⟨s', pv, nv, cv, rfl, HVA, HBA⟩; have P2 := HP.out.below HBA.out; obtain ⟨u0, u1, t0, t1, tf0, tf1⟩ := P2.hq.store; have HP2 := Lib.hid P2; clear P2 q0 q1 qf0 qf1)
            generalize hwn : World.setCell (World.setCell wa _ _) _ _ = w1
            have HP1x := Lib.hid (show PS w false (.slice pa na ca) la true (.slice pb nb cb) lb wo.heap.size (-(Q : Int)) (R : Int) w1 by rw [← hwn]; exact HP2.out.setq HVA.out)
            clear hwn t0 t1 tf0 tf1 HP2 HVA HBA HVQ HP ka0 ka1 kb0 kb1
            obtain ⟨s3, p3, n3, c3, r0, r1, _, _, HVR⟩ := HP1x.out.hr.cells
            obtain ⟨ka0, ka1, _⟩ := cells_of HP1x.out.ha
            obtain ⟨kb0, kb1, _⟩ := cells_of HP1x.out.hb
            obtain ⟨lr, dr, hnr, jr⟩ := num_digits HVR.out
            have hs3 := jr.sign
            have hv3 := jr.abs
            have hs3b : s3 = false := by rw [hs3]; first | (apply decide_eq_true; omega) | (apply decide_eq_false; omega)
            subst hs3b
            have hl0 : 0 < n3 := by
              rw [hnr]
              refine Nat.pos_of_ne_zero fun e => ?_
              have := List.length_eq_zero_iff.1 e
              rw [this] at hv3
              have h0 : Nu.val [] = 0 := rfl
              omega
            have hl1 : (0 : Int) < (n3 : Int) := by omega
            clear hnr jr dr hs3 hv3 hl0
            obtain ⟨s6, p6, n6, c6, o0, o1, of0, of1, HVQ⟩ := HP1x.out.hq.cells
            go_upto_region 19 with fail
            have HPD := Lib.hid HP1x.out.drew
            go_region_law (first
              | (go_simp; go_at_call 26; (refine (Add_is (z := -(Q : Int) + -1) (HVQ.out.drew.below HBO.out) HVO.out (by have := HQB.out.1; have h9 := big100; omega) (by decide +kernel) rfl).mono ?_; rintro e wa ⟨s', pv, nv, cv, rfl, HVA, HBA⟩; have P2 := (HPD.out.below HBO.out).below HBA.out; obtain ⟨u0, u1, t0, t1, tf0, tf1⟩ := P2.hq.store; have HP2 := Lib.hid P2; clear P2))
              | (go_simp; go_at_call 20; (refine (Of_is (by omega) (by omega)).mono ?_; rintro e wv ⟨sv, pv0, nv0, cv0, rfl, HVO, HBO⟩; have v0 := (HBO.out.cell (p := ⟨w.heap.size + 4, 0, none⟩) HPD.out.hq.lt).trans (dr1 o0); have v1 := (HBO.out.cell (p := ⟨w.heap.size + 4, 1, none⟩) HPD.out.hq.lt).trans (dr1 o1))))
            all_goals
              generalize hwn : World.setCell (World.setCell wa _ _) _ _ = wx
              have HPX := Lib.hid (show PS w false (.slice pa na ca) la true (.slice pb nb cb) lb wo.heap.size (-(Q : Int) + -1) (R : Int) wx by rw [← hwn]; exact HP2.out.setq HVA.out)
              clear hwn t0 t1 tf0 tf1 HP2 HVA HBA HVQ HVO HBO HPD o0 o1 of0 of1 v0 v1 HP1x
              obtain ⟨s11, p11, n11, c11, q0, q1, _, _, HVR1⟩ := HPX.out.hr.cells
              obtain ⟨kb0, kb1, _⟩ := cells_of HPX.out.hb
              have hvb : NumV (.agg #[.bool true, .slice pb nb cb]) y wx := ⟨true, _, lb, rfl, HPX.out.db, JB.out⟩
              have hadd := Add_is (z := (R : Int) + y) HVR1.out hvb (by have := HQB.out.2; have h9 := big100; omega) (by have h8 := HY.out; have h9 := big100; omega) rfl
              go_upto_region 21 with (go_at_call 26; refine hadd.mono ?_; clear hadd; rintro e wa2 ⟨s', pv, nv, cv, rfl, HVA, HBA⟩; have P2 := HPX.out.below HBA.out; obtain ⟨u0, u1, t0, t1, tf0, tf1⟩ := P2.hr.store; have HP2 := Lib.hid P2; clear P2 q0 q1)
              generalize hwn : World.setCell (World.setCell wa2 _ _) _ _ = wy
              have HPY := Lib.hid (show PS w false (.slice pa na ca) la true (.slice pb nb cb) lb wo.heap.size (-(Q : Int) + -1) ((R : Int) + y) wy by rw [← hwn]; exact HP2.out.setr HVA.out)
              clear hwn t0 t1 tf0 tf1 HP2 HVA HBA HVR1 HPX kb0 kb1
              obtain ⟨s8, p8, n8, c8, y0, y1, _, _, HVQ⟩ := HPY.out.hq.cells
              obtain ⟨s9, p9, n9, c9, x0, x1, _, _, HVR2⟩ := HPY.out.hr.cells
              obtain ⟨a0, a1, a2, a3⟩ := cells_of HPY.out.h1
              obtain ⟨b0, b1, b2, b3⟩ := cells_of HPY.out.h2
              go_region_held3 (fun w' => w'.cell? ⟨w.heap.size + 4, 0, none⟩ = some (.bool s8) ∧ w'.cell? ⟨w.heap.size + 4, 1, none⟩ = some (.slice p8 n8 c8) ∧ w'.cell? ⟨w.heap.size + 5, 0, none⟩ = some (.bool s9) ∧ w'.cell? ⟨w.heap.size + 5, 1, none⟩ = some (.slice p9 n9 c9))
                (first
                  | (with_reducible exact ⟨dr1 y0, dr1 y1, dr1 x0, dr1 x1⟩)
                  | (refine ⟨dr1 (far2 y0 ?_), dr1 (far2 y1 ?_), dr1 (far2 x0 ?_), dr1 (far2 x1 ?_)⟩ <;> omega)
                  | (refine ⟨dr1 (far2 (far2 y0 ?_) ?_), dr1 (far2 (far2 y1 ?_) ?_), dr1 (far2 (far2 x0 ?_) ?_), dr1 (far2 (far2 x1 ?_) ?_)⟩ <;> omega)
                  | fail)
                ((first | fail))
              go_wp2_with fail
              obtain ⟨z1, z2, z3, z4, z5⟩ := two_laid (b := w.heap.size + 2) (b2 := w.heap.size + 3) (B := w.heap.size) (a := w) HPY.out.h1 HPY.out.h2 (by omega) HVQ.out HVR2.out HPY.out.bel (by omega) (by omega)
              refine ret_num2 rfl _ _ (w.heap.size + 2) (w.heap.size + 3) _ _ _ _ _ _ rfl z1 rfl z2 ?_
              refine ⟨_, _, rfl, ?_, ?_, z5.drew⟩
              · rw [show x.fdiv y = -(Q : Int) + -1 by have := HFL.out.1; have hR := HR0.out; simp [Nu.sgn, hR] at this; omega]
                exact z3.drew
              · rw [show x.fmod y = (R : Int) + y by have := HFL.out.2; have hR := HR0.out; simp [Nu.sgn, hR] at this; omega]
                exact z4.drew
        · cases sb
          · skip
            obtain ⟨s1, p1, n1, c1, q0, q1, qf0, qf1, HVQ⟩ := HP.out.hq.cells
            obtain ⟨ka0, ka1, _⟩ := cells_of HP.out.ha
            obtain ⟨kb0, kb1, _⟩ := cells_of HP.out.hb
            have hng := Neg_is (z := -(Q : Int)) HVQ.out (by have := HQB.out.1; omega) rfl
            go_upto_region 16 with (go_at_call 19; refine hng.mono ?_; clear hng; rintro e wa ⟨s', pv, nv, cv, rfl, HVA, HBA⟩; have P2 := HP.out.below HBA.out; obtain ⟨u0, u1, t0, t1, tf0, tf1⟩ := P2.hq.store; have HP2 := Lib.hid P2; clear P2 q0 q1 qf0 qf1)
            generalize hwn : World.setCell (World.setCell wa _ _) _ _ = w1
            have HP1x := Lib.hid (show PS w true (.slice pa na ca) la false (.slice pb nb cb) lb wo.heap.size (-(Q : Int)) (R : Int) w1 by rw [← hwn]; exact HP2.out.setq HVA.out)
            clear hwn t0 t1 tf0 tf1 HP2 HVA HBA HVQ HP ka0 ka1 kb0 kb1
            obtain ⟨s2, p2, n2, c2, q0, q1, qf0, qf1, HVQ⟩ := HP1x.out.hr.cells
            obtain ⟨ka0, ka1, _⟩ := cells_of HP1x.out.ha
            obtain ⟨kb0, kb1, _⟩ := cells_of HP1x.out.hb
            have hng := Neg_is (z := -(R : Int)) HVQ.out (by have := HQB.out.2; omega) rfl
            go_upto_region 18 with (go_at_call 19; refine hng.mono ?_; clear hng; rintro e wb ⟨s', pv, nv, cv, rfl, HVA, HBA⟩; have P2 := HP1x.out.below HBA.out; obtain ⟨u0, u1, t0, t1, tf0, tf1⟩ := P2.hr.store; have HP2 := Lib.hid P2; clear P2 q0 q1 qf0 qf1)
            generalize hwn : World.setCell (World.setCell wb _ _) _ _ = w2
            have HP2x := Lib.hid (show PS w true (.slice pa na ca) la false (.slice pb nb cb) lb wo.heap.size (-(Q : Int)) (-(R : Int)) w2 by rw [← hwn]; exact HP2.out.setr HVA.out)
            clear hwn t0 t1 tf0 tf1 HP2 HVA HBA HVQ HP1x ka0 ka1 kb0 kb1
            obtain ⟨s3, p3, n3, c3, r0, r1, _, _, HVR⟩ := HP2x.out.hr.cells
            obtain ⟨ka0, ka1, _⟩ := cells_of HP2x.out.ha
            obtain ⟨kb0, kb1, _⟩ := cells_of HP2x.out.hb
            obtain ⟨lr, dr, hnr, jr⟩ := num_digits HVR.out
            have hs3 := jr.sign
            have hv3 := jr.abs
            have hs3b : s3 = true := by rw [hs3]; first | (apply decide_eq_true; omega) | (apply decide_eq_false; omega)
            subst hs3b
            have hl0 : 0 < n3 := by
              rw [hnr]
              refine Nat.pos_of_ne_zero fun e => ?_
              have := List.length_eq_zero_iff.1 e
              rw [this] at hv3
              have h0 : Nu.val [] = 0 := rfl
              omega
            have hl1 : (0 : Int) < (n3 : Int) := by omega
            clear hnr jr dr hs3 hv3 hl0
            obtain ⟨s6, p6, n6, c6, o0, o1, of0, of1, HVQ⟩ := HP2x.out.hq.cells
            go_upto_region 19 with fail
            have HPD := Lib.hid HP2x.out.drew
            go_region_law (first
              | (go_simp; go_at_call 26; (refine (Add_is (z := -(Q : Int) + -1) (HVQ.out.drew.below HBO.out) HVO.out (by have := HQB.out.1; have h9 := big100; omega) (by decide +kernel) rfl).mono ?_; rintro e wa ⟨s', pv, nv, cv, rfl, HVA, HBA⟩; have P2 := (HPD.out.below HBO.out).below HBA.out; obtain ⟨u0, u1, t0, t1, tf0, tf1⟩ := P2.hq.store; have HP2 := Lib.hid P2; clear P2))
              | (go_simp; go_at_call 20; (refine (Of_is (by omega) (by omega)).mono ?_; rintro e wv ⟨sv, pv0, nv0, cv0, rfl, HVO, HBO⟩; have v0 := (HBO.out.cell (p := ⟨w.heap.size + 4, 0, none⟩) HPD.out.hq.lt).trans (dr1 o0); have v1 := (HBO.out.cell (p := ⟨w.heap.size + 4, 1, none⟩) HPD.out.hq.lt).trans (dr1 o1))))
            all_goals
              generalize hwn : World.setCell (World.setCell wa _ _) _ _ = wx
              have HPX := Lib.hid (show PS w true (.slice pa na ca) la false (.slice pb nb cb) lb wo.heap.size (-(Q : Int) + -1) (-(R : Int)) wx by rw [← hwn]; exact HP2.out.setq HVA.out)
              clear hwn t0 t1 tf0 tf1 HP2 HVA HBA HVQ HVO HBO HPD o0 o1 of0 of1 v0 v1 HP2x
              obtain ⟨s11, p11, n11, c11, q0, q1, _, _, HVR1⟩ := HPX.out.hr.cells
              obtain ⟨kb0, kb1, _⟩ := cells_of HPX.out.hb
              have hvb : NumV (.agg #[.bool false, .slice pb nb cb]) y wx := ⟨false, _, lb, rfl, HPX.out.db, JB.out⟩
              have hadd := Add_is (z := (-(R : Int)) + y) HVR1.out hvb (by have := HQB.out.2; have h9 := big100; omega) (by have h8 := HY.out; have h9 := big100; omega) rfl
              go_upto_region 21 with (go_at_call 26; refine hadd.mono ?_; clear hadd; rintro e wa2 ⟨s', pv, nv, cv, rfl, HVA, HBA⟩; have P2 := HPX.out.below HBA.out; obtain ⟨u0, u1, t0, t1, tf0, tf1⟩ := P2.hr.store; have HP2 := Lib.hid P2; clear P2 q0 q1)
              generalize hwn : World.setCell (World.setCell wa2 _ _) _ _ = wy
              have HPY := Lib.hid (show PS w true (.slice pa na ca) la false (.slice pb nb cb) lb wo.heap.size (-(Q : Int) + -1) ((-(R : Int)) + y) wy by rw [← hwn]; exact HP2.out.setr HVA.out)
              clear hwn t0 t1 tf0 tf1 HP2 HVA HBA HVR1 HPX kb0 kb1
              obtain ⟨s8, p8, n8, c8, y0, y1, _, _, HVQ⟩ := HPY.out.hq.cells
              obtain ⟨s9, p9, n9, c9, x0, x1, _, _, HVR2⟩ := HPY.out.hr.cells
              obtain ⟨a0, a1, a2, a3⟩ := cells_of HPY.out.h1
              obtain ⟨b0, b1, b2, b3⟩ := cells_of HPY.out.h2
              go_region_held3 (fun w' => w'.cell? ⟨w.heap.size + 4, 0, none⟩ = some (.bool s8) ∧ w'.cell? ⟨w.heap.size + 4, 1, none⟩ = some (.slice p8 n8 c8) ∧ w'.cell? ⟨w.heap.size + 5, 0, none⟩ = some (.bool s9) ∧ w'.cell? ⟨w.heap.size + 5, 1, none⟩ = some (.slice p9 n9 c9))
                (first
                  | (with_reducible exact ⟨dr1 y0, dr1 y1, dr1 x0, dr1 x1⟩)
                  | (refine ⟨dr1 (far2 y0 ?_), dr1 (far2 y1 ?_), dr1 (far2 x0 ?_), dr1 (far2 x1 ?_)⟩ <;> omega)
                  | (refine ⟨dr1 (far2 (far2 y0 ?_) ?_), dr1 (far2 (far2 y1 ?_) ?_), dr1 (far2 (far2 x0 ?_) ?_), dr1 (far2 (far2 x1 ?_) ?_)⟩ <;> omega)
                  | fail)
                ((first | fail))
              go_wp2_with fail
              obtain ⟨z1, z2, z3, z4, z5⟩ := two_laid (b := w.heap.size + 2) (b2 := w.heap.size + 3) (B := w.heap.size) (a := w) HPY.out.h1 HPY.out.h2 (by omega) HVQ.out HVR2.out HPY.out.bel (by omega) (by omega)
              refine ret_num2 rfl _ _ (w.heap.size + 2) (w.heap.size + 3) _ _ _ _ _ _ rfl z1 rfl z2 ?_
              refine ⟨_, _, rfl, ?_, ?_, z5.drew⟩
              · rw [show x.fdiv y = -(Q : Int) + -1 by have := HFL.out.1; have hR := HR0.out; simp [Nu.sgn, hR] at this; omega]
                exact z3.drew
              · rw [show x.fmod y = (-(R : Int)) + y by have := HFL.out.2; have hR := HR0.out; simp [Nu.sgn, hR] at this; omega]
                exact z4.drew
          · skip
            obtain ⟨s2, p2, n2, c2, q0, q1, qf0, qf1, HVQ⟩ := HP.out.hr.cells
            obtain ⟨ka0, ka1, _⟩ := cells_of HP.out.ha
            obtain ⟨kb0, kb1, _⟩ := cells_of HP.out.hb
            have hng := Neg_is (z := -(R : Int)) HVQ.out (by have := HQB.out.2; omega) rfl
            go_upto_region 18 with (go_at_call 19; refine hng.mono ?_; clear hng; rintro e wb ⟨s', pv, nv, cv, rfl, HVA, HBA⟩; have P2 := HP.out.below HBA.out; obtain ⟨u0, u1, t0, t1, tf0, tf1⟩ := P2.hr.store; have HP2 := Lib.hid P2; clear P2 q0 q1 qf0 qf1)
            generalize hwn : World.setCell (World.setCell wb _ _) _ _ = w1
            have HP1x := Lib.hid (show PS w true (.slice pa na ca) la true (.slice pb nb cb) lb wo.heap.size (Q : Int) (-(R : Int)) w1 by rw [← hwn]; exact HP2.out.setr HVA.out)
            clear hwn t0 t1 tf0 tf1 HP2 HVA HBA HVQ HP ka0 ka1 kb0 kb1
            obtain ⟨s3, p3, n3, c3, r0, r1, _, _, HVR⟩ := HP1x.out.hr.cells
            obtain ⟨ka0, ka1, _⟩ := cells_of HP1x.out.ha
            obtain ⟨kb0, kb1, _⟩ := cells_of HP1x.out.hb
            obtain ⟨lr, dr, hnr, jr⟩ := num_digits HVR.out
            have hs3 := jr.sign
            have hv3 := jr.abs
            have hs3b : s3 = true := by rw [hs3]; first | (apply decide_eq_true; omega) | (apply decide_eq_false; omega)
            subst hs3b
            have hl0 : 0 < n3 := by
              rw [hnr]
              refine Nat.pos_of_ne_zero fun e => ?_
              have := List.length_eq_zero_iff.1 e
              rw [this] at hv3
              have h0 : Nu.val [] = 0 := rfl
              omega
            have hl1 : (0 : Int) < (n3 : Int) := by omega
            clear hnr jr dr hs3 hv3 hl0
            go_upto_region 21 with fail
            clear ka0 ka1 kb0 kb1 r0 r1
            obtain ⟨s8, p8, n8, c8, y0, y1, _, _, HVQ⟩ := HP1x.out.hq.cells
            obtain ⟨s9, p9, n9, c9, x0, x1, _, _, HVR2⟩ := HP1x.out.hr.cells
            obtain ⟨a0, a1, a2, a3⟩ := cells_of HP1x.out.h1
            obtain ⟨b0, b1, b2, b3⟩ := cells_of HP1x.out.h2
            go_region_held3 (fun w' => w'.cell? ⟨w.heap.size + 4, 0, none⟩ = some (.bool s8) ∧ w'.cell? ⟨w.heap.size + 4, 1, none⟩ = some (.slice p8 n8 c8) ∧ w'.cell? ⟨w.heap.size + 5, 0, none⟩ = some (.bool s9) ∧ w'.cell? ⟨w.heap.size + 5, 1, none⟩ = some (.slice p9 n9 c9))
              (first
                | (with_reducible exact ⟨dr1 y0, dr1 y1, dr1 x0, dr1 x1⟩)
                | (refine ⟨dr1 (far2 y0 ?_), dr1 (far2 y1 ?_), dr1 (far2 x0 ?_), dr1 (far2 x1 ?_)⟩ <;> omega)
                | (refine ⟨dr1 (far2 (far2 y0 ?_) ?_), dr1 (far2 (far2 y1 ?_) ?_), dr1 (far2 (far2 x0 ?_) ?_), dr1 (far2 (far2 x1 ?_) ?_)⟩ <;> omega)
                | fail)
              ((first | fail))
            go_wp2_with fail
            obtain ⟨z1, z2, z3, z4, z5⟩ := two_laid (b := w.heap.size + 2) (b2 := w.heap.size + 3) (B := w.heap.size) (a := w) HP1x.out.h1 HP1x.out.h2 (by omega) HVQ.out HVR2.out HP1x.out.bel (by omega) (by omega)
            refine ret_num2 rfl _ _ (w.heap.size + 2) (w.heap.size + 3) _ _ _ _ _ _ rfl z1 rfl z2 ?_
            refine ⟨_, _, rfl, ?_, ?_, z5.drew⟩
            · rw [show x.fdiv y = (Q : Int) by have := HFL.out.1; have hR := HR0.out; simp [Nu.sgn, hR] at this; omega]
              exact z3.drew
            · rw [show x.fmod y = (-(R : Int)) by have := HFL.out.2; have hR := HR0.out; simp [Nu.sgn, hR] at this; omega]
              exact z4.drew
    | succ i =>
      have e1 : ((i + 1 : Nat) : Int) - 1 = (i : Int) := by omega
      rw [e1]
      have h0 : (0 : Int) ≤ (i : Int) := by omega
      clear e1
      obtain ⟨s1, p1, n1, c1, q0, q1, qf0, qf1, HVQ⟩ := HP.out.hq.cells
      have hadd := Add_is (z := ((Q + Q : Nat) : Int)) HVQ.out HVQ.out HQX.out.2.1 HQX.out.2.1 (by omega)
      go_upto_region 8 with (go_at_call 26; refine hadd.mono ?_; clear hadd; rintro e wa ⟨s', pv, nv, cv, rfl, HVA, HBA⟩; have P2 := HP.out.below HBA.out; obtain ⟨u0, u1, t0, t1, tf0, tf1⟩ := P2.hq.store; have HP2 := Lib.hid P2; clear P2 q0 q1 qf0 qf1)
      generalize hwn : World.setCell (World.setCell wa _ _) _ _ = wb
      have HP3 := Lib.hid (show PS w sa (.slice pa na ca) la sb (.slice pb nb cb) lb wo.heap.size ((Q + Q : Nat) : Int) (R : Int) wb by rw [← hwn]; exact HP2.out.setq HVA.out)
      clear hwn t0 t1 tf0 tf1 HP2 HVA HBA HVQ HP
      obtain ⟨s2, p2, n2, c2, q0, q1, qf0, qf1, HVR⟩ := HP3.out.hr.cells
      have hadd := Add_is (z := ((R + R : Nat) : Int)) HVR.out HVR.out HQX.out.2.2.2 HQX.out.2.2.2 (by omega)
      go_upto_region 9 with (go_at_call 26; refine hadd.mono ?_; clear hadd; rintro e wa2 ⟨s3, pv2, nv2, cv2, rfl, HVA, HBA⟩; have P2 := HP3.out.below HBA.out; obtain ⟨u0, u1, t0, t1, tf0, tf1⟩ := P2.hr.store; have HP2 := Lib.hid P2; clear P2 q0 q1 qf0 qf1)
      generalize hwn : World.setCell (World.setCell wa2 _ _) _ _ = wc
      have HP4 := Lib.hid (show PS w sa (.slice pa na ca) la sb (.slice pb nb cb) lb wo.heap.size ((Q + Q : Nat) : Int) ((R + R : Nat) : Int) wc by rw [← hwn]; exact HP2.out.setr HVA.out)
      clear hwn t0 t1 tf0 tf1 HP2 HVA HBA HVR HP3
      obtain ⟨bit, hbit⟩ : ∃ bit, bit = Nu.val la / 2 ^ i % 2 := ⟨_, rfl⟩
      have HBIT := Lib.hid hbit
      have hb2 : bit < 2 := by omega
      obtain ⟨d, HD⟩ := hid_ex (Nu.dig la (i / 16))
      have hdb : d < 65536 := by have := Nu.dig_lt JA.out.1 (i / 16); rw [HD.out] at this; exact this
      have hdg := digit_is (i := i / 16) HP4.out.da (by rw [← HNA.out]; omega) (by omega) HD
      have hsh : d / 2 ^ (i % 16) % 2 = bit := by rw [hbit, ← HD.out]; exact Nu.bit_val JA.out.1 (by rw [← HNA.out]; omega)
      have HSH := Lib.hid hsh
      obtain ⟨ka0, ka1, _⟩ := cells_of HP4.out.ha
      clear hbit hsh
      have ei : (((i / 16 : Nat)) : Int) = (i : Int) / 16 := by omega
      rw [ei] at hdg
      clear ei
      by_cases hb1 : bit = 1
      · subst hb1
        have eT := bit_int HSH.out
        obtain ⟨s4, p4, n4, c4, q0, q1, qf0, qf1, HVR⟩ := HP4.out.hr.cells
        obtain ⟨s5, p5, n5, c5, o0, o1, of0, of1, HVO⟩ := HP4.out.ho.cells
        have hadd := Add_is (z := ((R + R + 1 : Nat) : Int)) HVR.out HVO.out (by have := HQX.out.2.2.1; omega) (by decide +kernel) (by omega)
        go_upto_region 10 with (go_at_call 33; refine hdg.mono ?_; clear hdg; rintro e w' ⟨rfl, rfl⟩)
        go_upto_region 11 with (go_at_call 26; refine hadd.mono ?_; clear hadd; rintro e wa3 ⟨s6, pv3, nv3, cv3, rfl, HVA, HBA⟩; have P2 := HP4.out.below HBA.out; obtain ⟨u0, u1, t0, t1, tf0, tf1⟩ := P2.hr.store; have HP2 := Lib.hid P2; clear P2 q0 q1 qf0 qf1 o0 o1 of0 of1)
        generalize hwn : World.setCell (World.setCell wa3 _ _) _ _ = wd
        have HP5 := Lib.hid (show PS w sa (.slice pa na ca) la sb (.slice pb nb cb) lb wo.heap.size ((Q + Q : Nat) : Int) ((R + R + 1 : Nat) : Int) wd by rw [← hwn]; exact HP2.out.setr HVA.out)
        clear hwn t0 t1 tf0 tf1 HP2 HVA HBA HVR HP4 HVO ka0 ka1 eT
        obtain ⟨R2, hR2⟩ : ∃ R2, R2 = R + R + 1 := ⟨_, rfl⟩
        rw [← hR2] at HP5
        have HRR := Lib.hid hR2
        have hV2 : Hid ((Q + Q) * Nu.val lb + R2 = Nu.val la / 2 ^ i) := (show _ = _ by rw [hR2]; exact Nu.parts_step HV.out HBIT.out.symm)
        have hRb : Hid (R2 < 2 * Nu.val lb ∧ R2 ≤ Nu.val la) := (show _ ∧ _ from by
          have h1 := HR.out
          have h2 := hV2.out
          have h3 := Nat.div_le_self (Nu.val la) (2 ^ i)
          rw [hR2]
          rw [hR2] at h2
          omega)
        clear hR2
        obtain ⟨s7, p7, n7, c7, q0, q1, qf0, qf1, HVR⟩ := HP5.out.hr.cells
        obtain ⟨kb0, kb1, _⟩ := cells_of HP5.out.hb
        obtain ⟨lr, dr, hnr, jr⟩ := num_digits HVR.out
        have hvr : Nu.val lr = R2 := by rw [jr.abs]; omega
        have hlr : lr.length ≤ 100 := Nu.len_of_lt jr.2.1 (by rw [hvr]; have := hRb.out.2; have h2 : Nu.val la < 65536 ^ 100 := (by rw [JA.out.abs]; exact HX.out); omega)
        have hcmp := compare_any _ _ lr lb wd dr HP5.out.db jr.1 JB.out.1 (by omega) (by rw [← HNB.out]; omega)
        have JR := Lib.hid jr
        have DR := Lib.hid dr
        have HVLR := Lib.hid hvr
        have HLR := Lib.hid hlr
        clear jr dr hnr hlr
        by_cases hge : Nu.val lb ≤ R2
        · have hcm2 : Calls Try.prog 42 #[.slice p7 n7 c7, .slice pb nb cb] wd fun e w' => ∃ c : Int, e = .returned (.int .i64 c) ∧ 0 ≤ c ∧ w' = wd := hcmp.mono (fun e w' ⟨c, h1, h2, h3⟩ => ⟨c, h1, h2.2 (by rw [hvr]; exact hge), h3⟩)
          have HGE := Lib.hid hge
          have hls := less_is DR.out HP5.out.db JR.out.1 JB.out.1 JB.out.2.1 (by rw [hvr]; exact hge) (by have := HLR.out; omega) (by rw [← HNB.out]; omega)
          clear hcmp hvr hge
          go_upto_region 12 with (go_at_call 42; refine hcm2.mono ?_; clear hcm2; rintro e w' ⟨cc, rfl, hcc, rfl⟩)
          go_upto_region 13 with (first
            | (go_at_call 30; refine (whole_is (z := ((R2 - Nu.val lb : Nat) : Int)) HLD.out HLO.out.1 (by have := HLO.out.2.2; omega) (less_sgn HLO.out.2.1 HVLR.out)).mono ?_; rintro e wf ⟨s8, p8, n8, c8, rfl, HVA, HBA⟩; have P2 := (HP5.out.below HLB.out).below HBA.out; obtain ⟨u0, u1, t0, t1, tf0, tf1⟩ := P2.hr.store; have HP2 := Lib.hid P2; clear P2)
            | (go_at_call 43; refine hls.mono ?_; clear hls; rintro e we ⟨pl, nl, cl, ol, rfl, HLD, HLO, HLB⟩))
          generalize hwn : World.setCell (World.setCell wf _ _) _ _ = wg
          have HP6 := Lib.hid (show PS w sa (.slice pa na ca) la sb (.slice pb nb cb) lb wo.heap.size ((Q + Q : Nat) : Int) ((R2 - Nu.val lb : Nat) : Int) wg by rw [← hwn]; exact HP2.out.setr HVA.out)
          clear hwn t0 t1 tf0 tf1 HP2 HVA HBA HVR HP5 q0 q1 qf0 qf1 kb0 kb1 DR JR HLD HLB
          obtain ⟨s9, p9, n9, c9, y0, y1, yf0, yf1, HVQ⟩ := HP6.out.hq.cells
          obtain ⟨s5, p5, n5, c5, o0, o1, of0, of1, HVO⟩ := HP6.out.ho.cells
          have hadd := Add_is (z := ((Q + Q + 1 : Nat) : Int)) HVQ.out HVO.out (by have := HQX.out.1; omega) (by decide +kernel) (by omega)
          go_wp2_with (go_at_call 26; refine hadd.mono ?_; clear hadd; rintro e wh ⟨s6, pv3, nv3, cv3, rfl, HVA, HBA⟩; have P2 := HP6.out.below HBA.out; obtain ⟨u0, u1, t0, t1, tf0, tf1⟩ := P2.hq.store; have HP2 := Lib.hid P2; clear P2 y0 y1 yf0 yf1 o0 o1 of0 of1)
          refine ⟨⟨i, Q + Q + 1, R2 - Nu.val lb, by go_num, by omega, ?_, ?_, ?_⟩, by simp [intOf]⟩
          · show _ = _
            have h1 := hV2.out
            have h2 := HGE.out
            rw [← h1, Nat.add_mul, Nat.one_mul]
            omega
          · show _ < _
            have h1 := hRb.out.1
            have h2 := HGE.out
            omega
          · exact HP2.out.setq HVA.out
        · have hcm2 : Calls Try.prog 42 #[.slice p7 n7 c7, .slice pb nb cb] wd fun e w' => ∃ c : Int, e = .returned (.int .i64 c) ∧ ¬ 0 ≤ c ∧ w' = wd := hcmp.mono (fun e w' ⟨c, h1, h2, h3⟩ => ⟨c, h1, fun h => hge (by rw [← hvr]; exact h2.1 h), h3⟩)
          have HGE := Lib.hid hge
          clear hcmp hvr hge
          go_wp2_with (go_at_call 42; refine hcm2.mono ?_; clear hcm2; rintro e w' ⟨cc, rfl, hcc, rfl⟩)
          refine ⟨⟨i, Q + Q, R2, by go_num, by omega, hV2, ?_, HP5⟩, by simp [intOf]⟩
          show _ < _
          have h2 := HGE.out
          omega
      · obtain rfl : bit = 0 := by omega
        have eT := bit_int HSH.out
        go_upto_region 11 with (go_at_call 33; refine hdg.mono ?_; clear hdg; rintro e wd ⟨rfl, rfl⟩)
        have HP5 : Hid (PS w sa (.slice pa na ca) la sb (.slice pb nb cb) lb wo.heap.size ((Q + Q : Nat) : Int) ((R + R + 0 : Nat) : Int) wd) := HP4
        clear HP4 ka0 ka1 eT hb1
        obtain ⟨R2, hR2⟩ : ∃ R2, R2 = R + R + 0 := ⟨_, rfl⟩
        rw [← hR2] at HP5
        have HRR := Lib.hid hR2
        have hV2 : Hid ((Q + Q) * Nu.val lb + R2 = Nu.val la / 2 ^ i) := (show _ = _ by rw [hR2]; exact Nu.parts_step HV.out HBIT.out.symm)
        have hRb : Hid (R2 < 2 * Nu.val lb ∧ R2 ≤ Nu.val la) := (show _ ∧ _ from by
          have h1 := HR.out
          have h2 := hV2.out
          have h3 := Nat.div_le_self (Nu.val la) (2 ^ i)
          rw [hR2]
          rw [hR2] at h2
          omega)
        clear hR2
        obtain ⟨s7, p7, n7, c7, q0, q1, qf0, qf1, HVR⟩ := HP5.out.hr.cells
        obtain ⟨kb0, kb1, _⟩ := cells_of HP5.out.hb
        obtain ⟨lr, dr, hnr, jr⟩ := num_digits HVR.out
        have hvr : Nu.val lr = R2 := by rw [jr.abs]; omega
        have hlr : lr.length ≤ 100 := Nu.len_of_lt jr.2.1 (by rw [hvr]; have := hRb.out.2; have h2 : Nu.val la < 65536 ^ 100 := (by rw [JA.out.abs]; exact HX.out); omega)
        have hcmp := compare_any _ _ lr lb wd dr HP5.out.db jr.1 JB.out.1 (by omega) (by rw [← HNB.out]; omega)
        have JR := Lib.hid jr
        have DR := Lib.hid dr
        have HVLR := Lib.hid hvr
        have HLR := Lib.hid hlr
        clear jr dr hnr hlr
        by_cases hge : Nu.val lb ≤ R2
        · have hcm2 : Calls Try.prog 42 #[.slice p7 n7 c7, .slice pb nb cb] wd fun e w' => ∃ c : Int, e = .returned (.int .i64 c) ∧ 0 ≤ c ∧ w' = wd := hcmp.mono (fun e w' ⟨c, h1, h2, h3⟩ => ⟨c, h1, h2.2 (by rw [hvr]; exact hge), h3⟩)
          have HGE := Lib.hid hge
          have hls := less_is DR.out HP5.out.db JR.out.1 JB.out.1 JB.out.2.1 (by rw [hvr]; exact hge) (by have := HLR.out; omega) (by rw [← HNB.out]; omega)
          clear hcmp hvr hge
          go_upto_region 12 with (go_at_call 42; refine hcm2.mono ?_; clear hcm2; rintro e w' ⟨cc, rfl, hcc, rfl⟩)
          go_upto_region 13 with (first
            | (go_at_call 30; refine (whole_is (z := ((R2 - Nu.val lb : Nat) : Int)) HLD.out HLO.out.1 (by have := HLO.out.2.2; omega) (less_sgn HLO.out.2.1 HVLR.out)).mono ?_; rintro e wf ⟨s8, p8, n8, c8, rfl, HVA, HBA⟩; have P2 := (HP5.out.below HLB.out).below HBA.out; obtain ⟨u0, u1, t0, t1, tf0, tf1⟩ := P2.hr.store; have HP2 := Lib.hid P2; clear P2)
            | (go_at_call 43; refine hls.mono ?_; clear hls; rintro e we ⟨pl, nl, cl, ol, rfl, HLD, HLO, HLB⟩))
          generalize hwn : World.setCell (World.setCell wf _ _) _ _ = wg
          have HP6 := Lib.hid (show PS w sa (.slice pa na ca) la sb (.slice pb nb cb) lb wo.heap.size ((Q + Q : Nat) : Int) ((R2 - Nu.val lb : Nat) : Int) wg by rw [← hwn]; exact HP2.out.setr HVA.out)
          clear hwn t0 t1 tf0 tf1 HP2 HVA HBA HVR HP5 q0 q1 qf0 qf1 kb0 kb1 DR JR HLD HLB
          obtain ⟨s9, p9, n9, c9, y0, y1, yf0, yf1, HVQ⟩ := HP6.out.hq.cells
          obtain ⟨s5, p5, n5, c5, o0, o1, of0, of1, HVO⟩ := HP6.out.ho.cells
          have hadd := Add_is (z := ((Q + Q + 1 : Nat) : Int)) HVQ.out HVO.out (by have := HQX.out.1; omega) (by decide +kernel) (by omega)
          go_wp2_with (go_at_call 26; refine hadd.mono ?_; clear hadd; rintro e wh ⟨s6, pv3, nv3, cv3, rfl, HVA, HBA⟩; have P2 := HP6.out.below HBA.out; obtain ⟨u0, u1, t0, t1, tf0, tf1⟩ := P2.hq.store; have HP2 := Lib.hid P2; clear P2 y0 y1 yf0 yf1 o0 o1 of0 of1)
          refine ⟨⟨i, Q + Q + 1, R2 - Nu.val lb, by go_num, by omega, ?_, ?_, ?_⟩, by simp [intOf]⟩
          · show _ = _
            have h1 := hV2.out
            have h2 := HGE.out
            rw [← h1, Nat.add_mul, Nat.one_mul]
            omega
          · show _ < _
            have h1 := hRb.out.1
            have h2 := HGE.out
            omega
          · exact HP2.out.setq HVA.out
        · have hcm2 : Calls Try.prog 42 #[.slice p7 n7 c7, .slice pb nb cb] wd fun e w' => ∃ c : Int, e = .returned (.int .i64 c) ∧ ¬ 0 ≤ c ∧ w' = wd := hcmp.mono (fun e w' ⟨c, h1, h2, h3⟩ => ⟨c, h1, fun h => hge (by rw [← hvr]; exact h2.1 h), h3⟩)
          have HGE := Lib.hid hge
          clear hcmp hvr hge
          go_wp2_with (go_at_call 42; refine hcm2.mono ?_; clear hcm2; rintro e w' ⟨cc, rfl, hcc, rfl⟩)
          refine ⟨⟨i, Q + Q, R2, by go_num, by omega, hV2, ?_, HP5⟩, by simp [intOf]⟩
          show _ < _
          have h2 := HGE.out
          omega
end Go.Proofs.Ytaekjkihdecmcaa
