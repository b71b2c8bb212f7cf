/-
  What the reference makes of two ints, at this program (made by wip/tools/genNuM.py).
-/
import Derived.Test.YtaekjkihdecmcaaNuMa
set_option linter.unusedVariables false
set_option linter.unusedSimpArgs false
namespace Go.Proofs.Ytaekjkihdecmcaa
open Go.RowKit

set_option maxHeartbeats 16000000 in
theorem rDo_is {s : ByteArray} {a b n : Int} {t : Nu.Bs} (hd : Hid (Nu.doN s.data.toList a b = (n, t))) (w : World) (ha1 : -9223372036854775808 ≤ a) (ha2 : a ≤ 9223372036854775807) (hb1 : -9223372036854775808 ≤ b) (hb2 : b ≤ 9223372036854775807) :
    Calls Try.prog 16 #[.string s, .int .i64 a, .int .i64 b] w fun e w' => e = .returned (.tuple #[.int .i64 n, .string ⟨t.toArray⟩]) ∧ Below w.heap.size w w' := by
  by_cases h0 : s.data.toList = [43]
  · have hop := h0
    clear h0
    have HL : Hid (s.data.toList = [43]) := hop
    clear hop
    have g0 : (s.toList == [43]) = true := by rw [Lib.toList_data, HL.out]; rfl
    have g1 : (s.toList == [45]) = false := by rw [Lib.toList_data, HL.out]; rfl
    have g2 : (s.toList == [42]) = false := by rw [Lib.toList_data, HL.out]; rfl
    have g3 : (s.toList == [47, 47]) = false := by rw [Lib.toList_data, HL.out]; rfl
    have g4 : (s.toList == [37]) = false := by rw [Lib.toList_data, HL.out]; rfl
    have g5 : (s.toList == [42, 42]) = false := by rw [Lib.toList_data, HL.out]; rfl
    have HD : Hid (Nu.fit (a + b) = (n, t)) := (show _ = _ by have := hd.out; rw [HL.out] at this; exact this)
    clear hd
    have HZB : Hid ((a + b).natAbs < 65536 ^ 900) := (show _ < _ from sum_lt ha1 ha2 hb1 hb2)
    go_enter Try.func16, Try.ntmps16
    go_upto_region 3 with (first
      | (go_at_call 20; with_reducible (show Calls _ _ #[Value.int _ a] _ _); refine (Of_is ha1 ha2).mono ?_; rintro e wo ⟨so, po, no, co, rfl, HOV, HOB⟩)
      | (go_at_call 20; with_reducible (show Calls _ _ #[Value.int _ b] _ _); refine (Of_is hb1 hb2).mono ?_; rintro e wp ⟨sp, pp, np, cp, rfl, HPV, HPB⟩))
    have HDS := Lib.hid (ds_start HOB.out HOV.out HPB.out HPV.out)
    generalize hW : World.alloc wp _ = W
    have HDSW : Hid (DS w wo.heap.size wp.heap.size a b W) := (show DS _ _ _ _ _ _ from by rw [← hW]; exact HDS.out)
    clear hW HDS HOV HPV HOB HPB
    obtain ⟨s1, p1, n1, c1, u0, u1, uf0, uf1, HVA⟩ := HDSW.out.ox.cells
    obtain ⟨s2, p2, n2, c2, v0, v1, _, _, HVB⟩ := HDSW.out.oy.cells
    have hcl := Add_is (z := a + b) HVA.out HVB.out (int_lt9 ha1 ha2) (int_lt9 hb1 hb2) rfl
    go_upto_region 24 with (go_at_call 26; refine hcl.mono ?_; clear hcl; rintro e wr ⟨s3, p3, n3, c3, rfl, HVR, HBR⟩; have P2 := HDSW.out.below HBR.out; obtain ⟨_, _, t0, t1, tf0, tf1⟩ := P2.ox.store; have HP2 := Lib.hid P2; clear P2 u0 u1 uf0 uf1 v0 v1)
    generalize hwn : World.setCell (World.setCell wr _ _) _ _ = wf
    have HDE := Lib.hid (show DS w wo.heap.size wp.heap.size (a + b) b wf by rw [← hwn]; exact HP2.out.setx HVR.out)
    clear hwn t0 t1 tf0 tf1 HP2 HVR HBR HVA HVB HDSW
    obtain ⟨sx, px, nx, cx, x0, x1, _, _, HVX⟩ := HDE.out.ox.cells
    cases hf : Nu.fits (a + b) with
    | true =>
      have hint := Int_yes HVX.out hf HZB.out
      rw [Nu.fit_fits hf] at HD
      obtain ⟨e1, e2⟩ := Prod.mk.inj HD.out
      subst e1 e2
      clear HD hf
      go_wp2_with (go_at_call 18; refine hint.mono ?_; clear hint; rintro e wz ⟨rfl, HZ⟩)
      refine bodyPost_ret (results_tmp2 rfl _ _ _) rfl ?_
      exact ⟨rfl, HDE.out.bel.trans (HZ.out.mono HDE.out.bel.size)⟩
    | false =>
      have hint := Int_no HVX.out hf HZB.out
      rw [Nu.fit_not hf] at HD
      obtain ⟨e1, e2⟩ := Prod.mk.inj HD.out
      subst e1 e2
      clear HD hf
      go_wp2_with (go_at_call 18; refine hint.mono ?_; clear hint; rintro e wz ⟨r, rfl, HZ⟩)
      refine bodyPost_ret (results_tmp2 rfl _ _ _) rfl ?_
      exact ⟨rfl, HDE.out.bel.trans (HZ.out.mono HDE.out.bel.size)⟩
  · skip
    by_cases h1 : s.data.toList = [45]
    · have hop := h1
      clear h1 h0
      have HL : Hid (s.data.toList = [45]) := hop
      clear hop
      have g0 : (s.toList == [43]) = false := by rw [Lib.toList_data, HL.out]; rfl
      have g1 : (s.toList == [45]) = true := by rw [Lib.toList_data, HL.out]; rfl
      have g2 : (s.toList == [42]) = false := by rw [Lib.toList_data, HL.out]; rfl
      have g3 : (s.toList == [47, 47]) = false := by rw [Lib.toList_data, HL.out]; rfl
      have g4 : (s.toList == [37]) = false := by rw [Lib.toList_data, HL.out]; rfl
      have g5 : (s.toList == [42, 42]) = false := by rw [Lib.toList_data, HL.out]; rfl
      have HD : Hid (Nu.fit (a + -b) = (n, t)) := (show _ = _ by have := hd.out; rw [HL.out] at this; rw [← Int.sub_eq_add_neg]; exact this)
      clear hd
      have HZB : Hid ((a + -b).natAbs < 65536 ^ 900) := (show _ < _ from sub_lt ha1 ha2 hb1 hb2)
      go_enter Try.func16, Try.ntmps16
      go_upto_region 3 with (first
        | (go_at_call 20; with_reducible (show Calls _ _ #[Value.int _ a] _ _); refine (Of_is ha1 ha2).mono ?_; rintro e wo ⟨so, po, no, co, rfl, HOV, HOB⟩)
        | (go_at_call 20; with_reducible (show Calls _ _ #[Value.int _ b] _ _); refine (Of_is hb1 hb2).mono ?_; rintro e wp ⟨sp, pp, np, cp, rfl, HPV, HPB⟩))
      have HDS := Lib.hid (ds_start HOB.out HOV.out HPB.out HPV.out)
      generalize hW : World.alloc wp _ = W
      have HDSW : Hid (DS w wo.heap.size wp.heap.size a b W) := (show DS _ _ _ _ _ _ from by rw [← hW]; exact HDS.out)
      clear hW HDS HOV HPV HOB HPB
      obtain ⟨s1, p1, n1, c1, u0, u1, uf0, uf1, HVA⟩ := HDSW.out.ox.cells
      obtain ⟨s2, p2, n2, c2, v0, v1, _, _, HVB⟩ := HDSW.out.oy.cells
      have HDD := Lib.hid (HDSW.out.below (Below.refl _ _).drew)
      have hneg := Neg_is (z := -b) (w := W.drew) (HVB.out.drew) (int_lt1 hb1 hb2) rfl
      go_upto_region 9 with fail
      go_region_law (first
        | (go_simp; go_at_call 26; (refine (Add_is (z := a + -b) (HVA.out.drew.below HNB.out) HVN.out (int_lt9 ha1 ha2) (by have := int_lt9 hb1 hb2; omega) rfl).mono ?_; rintro e wr ⟨s3, p3, n3, c3, rfl, HVR, HBR⟩; have P2 := (HDD.out.below HNB.out).below HBR.out; obtain ⟨_, _, t0, t1, tf0, tf1⟩ := P2.ox.store; have HP2 := Lib.hid P2; clear P2))
        | (go_simp; go_at_call 19; (refine hneg.mono ?_; rintro e wn ⟨s4, p4, n4, c4, rfl, HVN, HNB⟩; have q0 := (HNB.out.cell (p := ⟨wo.heap.size, 0, none⟩) HDD.out.ox.lt).trans (dr1 u0); have q1 := (HNB.out.cell (p := ⟨wo.heap.size, 1, none⟩) HDD.out.ox.lt).trans (dr1 u1))))
      all_goals
        generalize hwn : World.setCell (World.setCell wr _ _) _ _ = wf
        have HDE := Lib.hid (show DS w wo.heap.size wp.heap.size (a + -b) b wf by rw [← hwn]; exact HP2.out.setx HVR.out)
        clear hwn t0 t1 tf0 tf1 HP2 HVR HBR HVA HVB HDSW HDD HVN HNB q0 q1 u0 u1 uf0 uf1 v0 v1 hneg
        obtain ⟨sx, px, nx, cx, x0, x1, _, _, HVX⟩ := HDE.out.ox.cells
        cases hf : Nu.fits (a + -b) with
        | true =>
          have hint := Int_yes HVX.out hf HZB.out
          rw [Nu.fit_fits hf] at HD
          obtain ⟨e1, e2⟩ := Prod.mk.inj HD.out
          subst e1 e2
          clear HD hf
          go_wp2_with (go_at_call 18; refine hint.mono ?_; clear hint; rintro e wz ⟨rfl, HZ⟩)
          refine bodyPost_ret (results_tmp2 rfl _ _ _) rfl ?_
          exact ⟨rfl, HDE.out.bel.trans (HZ.out.mono HDE.out.bel.size)⟩
        | false =>
          have hint := Int_no HVX.out hf HZB.out
          rw [Nu.fit_not hf] at HD
          obtain ⟨e1, e2⟩ := Prod.mk.inj HD.out
          subst e1 e2
          clear HD hf
          go_wp2_with (go_at_call 18; refine hint.mono ?_; clear hint; rintro e wz ⟨r, rfl, HZ⟩)
          refine bodyPost_ret (results_tmp2 rfl _ _ _) rfl ?_
          exact ⟨rfl, HDE.out.bel.trans (HZ.out.mono HDE.out.bel.size)⟩
    · skip
      by_cases h2 : s.data.toList = [42]
      · have hop := h2
        clear h2 h0 h1
        have HL : Hid (s.data.toList = [42]) := hop
        clear hop
        have g0 : (s.toList == [43]) = false := by rw [Lib.toList_data, HL.out]; rfl
        have g1 : (s.toList == [45]) = false := by rw [Lib.toList_data, HL.out]; rfl
        have g2 : (s.toList == [42]) = true := by rw [Lib.toList_data, HL.out]; rfl
        have g3 : (s.toList == [47, 47]) = false := by rw [Lib.toList_data, HL.out]; rfl
        have g4 : (s.toList == [37]) = false := by rw [Lib.toList_data, HL.out]; rfl
        have g5 : (s.toList == [42, 42]) = false := by rw [Lib.toList_data, HL.out]; rfl
        have HD : Hid (Nu.fit (a * b) = (n, t)) := (show _ = _ by have := hd.out; rw [HL.out] at this; exact this)
        clear hd
        have HZB : Hid ((a * b).natAbs < 65536 ^ 900) := (show _ < _ from mul_lt ha1 ha2 hb1 hb2)
        go_enter Try.func16, Try.ntmps16
        go_upto_region 3 with (first
          | (go_at_call 20; with_reducible (show Calls _ _ #[Value.int _ a] _ _); refine (Of_is ha1 ha2).mono ?_; rintro e wo ⟨so, po, no, co, rfl, HOV, HOB⟩)
          | (go_at_call 20; with_reducible (show Calls _ _ #[Value.int _ b] _ _); refine (Of_is hb1 hb2).mono ?_; rintro e wp ⟨sp, pp, np, cp, rfl, HPV, HPB⟩))
        have HDS := Lib.hid (ds_start HOB.out HOV.out HPB.out HPV.out)
        generalize hW : World.alloc wp _ = W
        have HDSW : Hid (DS w wo.heap.size wp.heap.size a b W) := (show DS _ _ _ _ _ _ from by rw [← hW]; exact HDS.out)
        clear hW HDS HOV HPV HOB HPB
        obtain ⟨s1, p1, n1, c1, u0, u1, uf0, uf1, HVA⟩ := HDSW.out.ox.cells
        obtain ⟨s2, p2, n2, c2, v0, v1, _, _, HVB⟩ := HDSW.out.oy.cells
        have hcl := Mul_is (z := a * b) HVA.out HVB.out (int_lt4 ha1 ha2) (int_lt4 hb1 hb2) rfl
        go_upto_region 24 with (go_at_call 27; refine hcl.mono ?_; clear hcl; rintro e wr ⟨s3, p3, n3, c3, rfl, HVR, HBR⟩; have P2 := HDSW.out.below HBR.out; obtain ⟨_, _, t0, t1, tf0, tf1⟩ := P2.ox.store; have HP2 := Lib.hid P2; clear P2 u0 u1 uf0 uf1 v0 v1)
        generalize hwn : World.setCell (World.setCell wr _ _) _ _ = wf
        have HDE := Lib.hid (show DS w wo.heap.size wp.heap.size (a * b) b wf by rw [← hwn]; exact HP2.out.setx HVR.out)
        clear hwn t0 t1 tf0 tf1 HP2 HVR HBR HVA HVB HDSW
        obtain ⟨sx, px, nx, cx, x0, x1, _, _, HVX⟩ := HDE.out.ox.cells
        cases hf : Nu.fits (a * b) with
        | true =>
          have hint := Int_yes HVX.out hf HZB.out
          rw [Nu.fit_fits hf] at HD
          obtain ⟨e1, e2⟩ := Prod.mk.inj HD.out
          subst e1 e2
          clear HD hf
          go_wp2_with (go_at_call 18; refine hint.mono ?_; clear hint; rintro e wz ⟨rfl, HZ⟩)
          refine bodyPost_ret (results_tmp2 rfl _ _ _) rfl ?_
          exact ⟨rfl, HDE.out.bel.trans (HZ.out.mono HDE.out.bel.size)⟩
        | false =>
          have hint := Int_no HVX.out hf HZB.out
          rw [Nu.fit_not hf] at HD
          obtain ⟨e1, e2⟩ := Prod.mk.inj HD.out
          subst e1 e2
          clear HD hf
          go_wp2_with (go_at_call 18; refine hint.mono ?_; clear hint; rintro e wz ⟨r, rfl, HZ⟩)
          refine bodyPost_ret (results_tmp2 rfl _ _ _) rfl ?_
          exact ⟨rfl, HDE.out.bel.trans (HZ.out.mono HDE.out.bel.size)⟩
      · skip
        by_cases h3 : s.data.toList = [47, 47]
        · have hop := h3
          clear h3 h0 h1 h2
          have HL : Hid (s.data.toList = [47, 47]) := hop
          clear hop
          have g0 : (s.toList == [43]) = false := by rw [Lib.toList_data, HL.out]; rfl
          have g1 : (s.toList == [45]) = false := by rw [Lib.toList_data, HL.out]; rfl
          have g2 : (s.toList == [42]) = false := by rw [Lib.toList_data, HL.out]; rfl
          have g3 : (s.toList == [47, 47]) = true := by rw [Lib.toList_data, HL.out]; rfl
          have g4 : (s.toList == [37]) = false := by rw [Lib.toList_data, HL.out]; rfl
          have g5 : (s.toList == [42, 42]) = false := by rw [Lib.toList_data, HL.out]; rfl
          by_cases hb0 : b = 0
          · have HD : Hid ((0, Nu.nZero) = (n, t)) := (show _ = _ by have := hd.out; rw [HL.out] at this; unfold Nu.doN at this; simp [hb0] at this; simpa using this)
            have hbb : (b == 0) = true := by simpa using hb0
            obtain ⟨e1, e2⟩ := Prod.mk.inj HD.out
            subst e1 e2
            clear hd HD hb0
            go_enter Try.func16, Try.ntmps16
            go_upto_region 3 with (first
              | (go_at_call 20; with_reducible (show Calls _ _ #[Value.int _ a] _ _); refine (Of_is ha1 ha2).mono ?_; rintro e wo ⟨so, po, no, co, rfl, HOV, HOB⟩)
              | (go_at_call 20; with_reducible (show Calls _ _ #[Value.int _ b] _ _); refine (Of_is hb1 hb2).mono ?_; rintro e wp ⟨sp, pp, np, cp, rfl, HPV, HPB⟩))
            have HDS := Lib.hid (ds_start HOB.out HOV.out HPB.out HPV.out)
            generalize hW : World.alloc wp _ = W
            have HDSW : Hid (DS w wo.heap.size wp.heap.size a b W) := (show DS _ _ _ _ _ _ from by rw [← hW]; exact HDS.out)
            clear hW HDS HOV HPV HOB HPB
            go_wp2_with fail
            refine bodyPost_ret (results_tmp2 rfl _ _ _) rfl ?_
            exact ⟨rfl, HDSW.out.bel⟩
          · have hbb : (b == 0) = false := by simpa using hb0
            have HD : Hid (Nu.fit (a.fdiv b) = (n, t)) := (show _ = _ by have := hd.out; rw [HL.out] at this; unfold Nu.doN at this; simp [hb0] at this; exact this)
            clear hd
            have HZB : Hid ((a.fdiv b).natAbs < 65536 ^ 900) := (show _ < _ from div_lt ha1 ha2 hb1 hb2 hb0)
            go_enter Try.func16, Try.ntmps16
            go_upto_region 3 with (first
              | (go_at_call 20; with_reducible (show Calls _ _ #[Value.int _ a] _ _); refine (Of_is ha1 ha2).mono ?_; rintro e wo ⟨so, po, no, co, rfl, HOV, HOB⟩)
              | (go_at_call 20; with_reducible (show Calls _ _ #[Value.int _ b] _ _); refine (Of_is hb1 hb2).mono ?_; rintro e wp ⟨sp, pp, np, cp, rfl, HPV, HPB⟩))
            have HDS := Lib.hid (ds_start HOB.out HOV.out HPB.out HPV.out)
            generalize hW : World.alloc wp _ = W
            have HDSW : Hid (DS w wo.heap.size wp.heap.size a b W) := (show DS _ _ _ _ _ _ from by rw [← hW]; exact HDS.out)
            clear hW HDS HOV HPV HOB HPB
            obtain ⟨s1, p1, n1, c1, u0, u1, uf0, uf1, HVA⟩ := HDSW.out.ox.cells
            obtain ⟨s2, p2, n2, c2, v0, v1, _, _, HVB⟩ := HDSW.out.oy.cells
            have hcl := Parts_is HVA.out HVB.out (int_lt1 ha1 ha2) (int_lt1 hb1 hb2) hb0
            clear hb0
            go_upto_region 17 with (go_at_call 28; refine hcl.mono ?_; clear hcl; rintro e wr ⟨s3, p3, n3, c3, s4, p4, n4, c4, rfl, HV1, HV2, HBR⟩)
            have H2N := Lib.hid (two_new (HDSW.out.below HBR.out) HV1.out HV2.out)
            generalize hwq : World.alloc (World.alloc wr _) _ = wq
            have HQ : Hid (DS w wo.heap.size wp.heap.size a b wq ∧ VarN wq wr.heap.size (a.fdiv b) ∧ VarN wq (wr.heap.size + 1) (a.fmod b) ∧ wp.heap.size < wr.heap.size) := (show _ ∧ _ from by rw [← hwq]; exact H2N.out)
            clear hwq H2N HBR HV1 HV2 HVA HVB HDSW u0 u1 uf0 uf1 v0 v1
            obtain ⟨s5, p5, n5, c5, y0, y1, _, _, HVQ⟩ := HQ.out.2.1.cells
            obtain ⟨_, _, t0, t1, tf0, tf1⟩ := HQ.out.1.ox.store
            go_upto_region 18 with fail
            generalize hwn : World.setCell (World.setCell wq _ _) _ _ = wf
            have HDE := Lib.hid (show DS w wo.heap.size wp.heap.size (a.fdiv b) b wf by rw [← hwn]; exact HQ.out.1.setx HVQ.out)
            have HRM := Lib.hid (show VarN wf (wr.heap.size + 1) (a.fmod b) by rw [← hwn]; exact HQ.out.2.2.1.other HQ.out.1.ox (by have := HQ.out.2.2.2; have := HQ.out.1.hxy; omega) _ _)
            clear hwn t0 t1 tf0 tf1 y0 y1 HVQ HQ
            obtain ⟨sx, px, nx, cx, x0, x1, _, _, HVX⟩ := HDE.out.ox.cells
            cases hf : Nu.fits (a.fdiv b) with
            | true =>
              have hint := Int_yes HVX.out hf HZB.out
              rw [Nu.fit_fits hf] at HD
              obtain ⟨e1, e2⟩ := Prod.mk.inj HD.out
              subst e1 e2
              clear HD hf
              go_wp2_with (go_at_call 18; refine hint.mono ?_; clear hint; rintro e wz ⟨rfl, HZ⟩)
              refine bodyPost_ret (results_tmp2 rfl _ _ _) rfl ?_
              exact ⟨rfl, HDE.out.bel.trans (HZ.out.mono HDE.out.bel.size)⟩
            | false =>
              have hint := Int_no HVX.out hf HZB.out
              rw [Nu.fit_not hf] at HD
              obtain ⟨e1, e2⟩ := Prod.mk.inj HD.out
              subst e1 e2
              clear HD hf
              go_wp2_with (go_at_call 18; refine hint.mono ?_; clear hint; rintro e wz ⟨r, rfl, HZ⟩)
              refine bodyPost_ret (results_tmp2 rfl _ _ _) rfl ?_
              exact ⟨rfl, HDE.out.bel.trans (HZ.out.mono HDE.out.bel.size)⟩
        · skip
          by_cases h4 : s.data.toList = [37]
          · have hop := h4
            clear h4 h0 h1 h2 h3
            have HL : Hid (s.data.toList = [37]) := hop
            clear hop
            have g0 : (s.toList == [43]) = false := by rw [Lib.toList_data, HL.out]; rfl
            have g1 : (s.toList == [45]) = false := by rw [Lib.toList_data, HL.out]; rfl
            have g2 : (s.toList == [42]) = false := by rw [Lib.toList_data, HL.out]; rfl
            have g3 : (s.toList == [47, 47]) = false := by rw [Lib.toList_data, HL.out]; rfl
            have g4 : (s.toList == [37]) = true := by rw [Lib.toList_data, HL.out]; rfl
            have g5 : (s.toList == [42, 42]) = false := by rw [Lib.toList_data, HL.out]; rfl
            by_cases hb0 : b = 0
            · have HD : Hid ((0, Nu.nZero) = (n, t)) := (show _ = _ by have := hd.out; rw [HL.out] at this; unfold Nu.doN at this; simp [hb0] at this; simpa using this)
              have hbb : (b == 0) = true := by simpa using hb0
              obtain ⟨e1, e2⟩ := Prod.mk.inj HD.out
              subst e1 e2
              clear hd HD hb0
              go_enter Try.func16, Try.ntmps16
              go_upto_region 3 with (first
                | (go_at_call 20; with_reducible (show Calls _ _ #[Value.int _ a] _ _); refine (Of_is ha1 ha2).mono ?_; rintro e wo ⟨so, po, no, co, rfl, HOV, HOB⟩)
                | (go_at_call 20; with_reducible (show Calls _ _ #[Value.int _ b] _ _); refine (Of_is hb1 hb2).mono ?_; rintro e wp ⟨sp, pp, np, cp, rfl, HPV, HPB⟩))
              have HDS := Lib.hid (ds_start HOB.out HOV.out HPB.out HPV.out)
              generalize hW : World.alloc wp _ = W
              have HDSW : Hid (DS w wo.heap.size wp.heap.size a b W) := (show DS _ _ _ _ _ _ from by rw [← hW]; exact HDS.out)
              clear hW HDS HOV HPV HOB HPB
              go_wp2_with fail
              refine bodyPost_ret (results_tmp2 rfl _ _ _) rfl ?_
              exact ⟨rfl, HDSW.out.bel⟩
            · have hbb : (b == 0) = false := by simpa using hb0
              have HD : Hid (Nu.fit (a.fmod b) = (n, t)) := (show _ = _ by have := hd.out; rw [HL.out] at this; unfold Nu.doN at this; simp [hb0] at this; exact this)
              clear hd
              have HZB : Hid ((a.fmod b).natAbs < 65536 ^ 900) := (show _ < _ from mod_lt ha1 ha2 hb1 hb2 hb0)
              go_enter Try.func16, Try.ntmps16
              go_upto_region 3 with (first
                | (go_at_call 20; with_reducible (show Calls _ _ #[Value.int _ a] _ _); refine (Of_is ha1 ha2).mono ?_; rintro e wo ⟨so, po, no, co, rfl, HOV, HOB⟩)
                | (go_at_call 20; with_reducible (show Calls _ _ #[Value.int _ b] _ _); refine (Of_is hb1 hb2).mono ?_; rintro e wp ⟨sp, pp, np, cp, rfl, HPV, HPB⟩))
              have HDS := Lib.hid (ds_start HOB.out HOV.out HPB.out HPV.out)
              generalize hW : World.alloc wp _ = W
              have HDSW : Hid (DS w wo.heap.size wp.heap.size a b W) := (show DS _ _ _ _ _ _ from by rw [← hW]; exact HDS.out)
              clear hW HDS HOV HPV HOB HPB
              obtain ⟨s1, p1, n1, c1, u0, u1, uf0, uf1, HVA⟩ := HDSW.out.ox.cells
              obtain ⟨s2, p2, n2, c2, v0, v1, _, _, HVB⟩ := HDSW.out.oy.cells
              have hcl := Parts_is HVA.out HVB.out (int_lt1 ha1 ha2) (int_lt1 hb1 hb2) hb0
              clear hb0
              go_upto_region 17 with (go_at_call 28; refine hcl.mono ?_; clear hcl; rintro e wr ⟨s3, p3, n3, c3, s4, p4, n4, c4, rfl, HV1, HV2, HBR⟩)
              have H2N := Lib.hid (two_new (HDSW.out.below HBR.out) HV1.out HV2.out)
              generalize hwq : World.alloc (World.alloc wr _) _ = wq
              have HQ : Hid (DS w wo.heap.size wp.heap.size a b wq ∧ VarN wq wr.heap.size (a.fdiv b) ∧ VarN wq (wr.heap.size + 1) (a.fmod b) ∧ wp.heap.size < wr.heap.size) := (show _ ∧ _ from by rw [← hwq]; exact H2N.out)
              clear hwq H2N HBR HV1 HV2 HVA HVB HDSW u0 u1 uf0 uf1 v0 v1
              obtain ⟨s5, p5, n5, c5, y0, y1, _, _, HVQ⟩ := HQ.out.2.1.cells
              obtain ⟨_, _, t0, t1, tf0, tf1⟩ := HQ.out.1.ox.store
              go_upto_region 18 with fail
              generalize hwn : World.setCell (World.setCell wq _ _) _ _ = wf
              have HDE := Lib.hid (show DS w wo.heap.size wp.heap.size (a.fdiv b) b wf by rw [← hwn]; exact HQ.out.1.setx HVQ.out)
              have HRM := Lib.hid (show VarN wf (wr.heap.size + 1) (a.fmod b) by rw [← hwn]; exact HQ.out.2.2.1.other HQ.out.1.ox (by have := HQ.out.2.2.2; have := HQ.out.1.hxy; omega) _ _)
              clear hwn t0 t1 tf0 tf1 y0 y1 HVQ HQ
              obtain ⟨s6, p6, n6, c6, z0, z1, _, _, HVM⟩ := HRM.out.cells
              obtain ⟨_, _, t0, t1, tf0, tf1⟩ := HDE.out.ox.store
              have HDF := HDE
              clear HDE
              go_upto_region 24 with fail
              generalize hwn : World.setCell (World.setCell wf _ _) _ _ = wg
              have HDE := Lib.hid (show DS w wo.heap.size wp.heap.size (a.fmod b) b wg by rw [← hwn]; exact HDF.out.setx HVM.out)
              clear hwn t0 t1 tf0 tf1 z0 z1 HVM HRM HDF
              obtain ⟨sx, px, nx, cx, x0, x1, _, _, HVX⟩ := HDE.out.ox.cells
              cases hf : Nu.fits (a.fmod b) with
              | true =>
                have hint := Int_yes HVX.out hf HZB.out
                rw [Nu.fit_fits hf] at HD
                obtain ⟨e1, e2⟩ := Prod.mk.inj HD.out
                subst e1 e2
                clear HD hf
                go_wp2_with (go_at_call 18; refine hint.mono ?_; clear hint; rintro e wz ⟨rfl, HZ⟩)
                refine bodyPost_ret (results_tmp2 rfl _ _ _) rfl ?_
                exact ⟨rfl, HDE.out.bel.trans (HZ.out.mono HDE.out.bel.size)⟩
              | false =>
                have hint := Int_no HVX.out hf HZB.out
                rw [Nu.fit_not hf] at HD
                obtain ⟨e1, e2⟩ := Prod.mk.inj HD.out
                subst e1 e2
                clear HD hf
                go_wp2_with (go_at_call 18; refine hint.mono ?_; clear hint; rintro e wz ⟨r, rfl, HZ⟩)
                refine bodyPost_ret (results_tmp2 rfl _ _ _) rfl ?_
                exact ⟨rfl, HDE.out.bel.trans (HZ.out.mono HDE.out.bel.size)⟩
          · skip
            by_cases h5 : s.data.toList = [42, 42]
            · have hop := h5
              clear h5 h0 h1 h2 h3 h4
              have HL : Hid (s.data.toList = [42, 42]) := hop
              clear hop
              have g0 : (s.toList == [43]) = false := by rw [Lib.toList_data, HL.out]; rfl
              have g1 : (s.toList == [45]) = false := by rw [Lib.toList_data, HL.out]; rfl
              have g2 : (s.toList == [42]) = false := by rw [Lib.toList_data, HL.out]; rfl
              have g3 : (s.toList == [47, 47]) = false := by rw [Lib.toList_data, HL.out]; rfl
              have g4 : (s.toList == [37]) = false := by rw [Lib.toList_data, HL.out]; rfl
              have g5 : (s.toList == [42, 42]) = true := by rw [Lib.toList_data, HL.out]; rfl
              by_cases hb0 : b < 0
              · have HD : Hid ((0, Nu.nVal) = (n, t)) := (show _ = _ by have := hd.out; rw [HL.out] at this; unfold Nu.doN at this; simp [hb0] at this; simpa using this)
                obtain ⟨e1, e2⟩ := Prod.mk.inj HD.out
                subst e1 e2
                clear hd HD
                go_enter Try.func16, Try.ntmps16
                go_upto_region 3 with (first
                  | (go_at_call 20; with_reducible (show Calls _ _ #[Value.int _ a] _ _); refine (Of_is ha1 ha2).mono ?_; rintro e wo ⟨so, po, no, co, rfl, HOV, HOB⟩)
                  | (go_at_call 20; with_reducible (show Calls _ _ #[Value.int _ b] _ _); refine (Of_is hb1 hb2).mono ?_; rintro e wp ⟨sp, pp, np, cp, rfl, HPV, HPB⟩))
                have HDS := Lib.hid (ds_start HOB.out HOV.out HPB.out HPV.out)
                generalize hW : World.alloc wp _ = W
                have HDSW : Hid (DS w wo.heap.size wp.heap.size a b W) := (show DS _ _ _ _ _ _ from by rw [← hW]; exact HDS.out)
                clear hW HDS HOV HPV HOB HPB
                go_wp2_with fail
                refine bodyPost_ret (results_tmp2 rfl _ _ _) rfl ?_
                exact ⟨rfl, HDSW.out.bel⟩
              · obtain ⟨m, rfl⟩ : ∃ m : Nat, b = (m : Int) := ⟨b.toNat, by omega⟩
                have hbb : ¬ ((m : Int) < 0) := by omega
                have HD : Hid (Nu.fit (a ^ m) = (n, t)) := (show _ = _ by have := hd.out; rw [HL.out] at this; unfold Nu.doN at this; simp [hb0] at this; exact this)
                clear hd hb0
                go_enter Try.func16, Try.ntmps16
                go_upto_region 3 with (first
                  | (go_at_call 20; with_reducible (show Calls _ _ #[Value.int _ a] _ _); refine (Of_is ha1 ha2).mono ?_; rintro e wo ⟨so, po, no, co, rfl, HOV, HOB⟩)
                  | (go_at_call 20; with_reducible (show Calls _ _ #[Value.int _ (m : Int)] _ _); refine (Of_is hb1 hb2).mono ?_; rintro e wp ⟨sp, pp, np, cp, rfl, HPV, HPB⟩))
                have HDS := Lib.hid (ds_start HOB.out HOV.out HPB.out HPV.out)
                generalize hW : World.alloc wp _ = W
                have HDSW : Hid (DS w wo.heap.size wp.heap.size a (m : Int) W) := (show DS _ _ _ _ _ _ from by rw [← hW]; exact HDS.out)
                clear hW HDS HOV HPV HOB HPB
                obtain ⟨s1, p1, n1, c1, u0, u1, uf0, uf1, HVA⟩ := HDSW.out.ox.cells
                have hcl := power_is _ a m W HVA.out (by omega) (by omega)
                unfold PowTold at hcl
                go_upto_region 24 with (go_at_call 29; refine hcl.mono ?_; clear hcl; rintro e wr ⟨s3, p3, n3, c3, ok, z', rfl, HVR, HZ1, HZ2, HZ3, HBR⟩; have P2 := HDSW.out.below HBR.out; obtain ⟨_, _, t0, t1, tf0, tf1⟩ := P2.ox.store; have HP2 := Lib.hid P2; clear P2 u0 u1 uf0 uf1)
                generalize hwn : World.setCell (World.setCell wr _ _) _ _ = wf
                have HDE := Lib.hid (show DS w wo.heap.size wp.heap.size z' (m : Int) wf by rw [← hwn]; exact HP2.out.setx HVR.out)
                clear hwn t0 t1 tf0 tf1 HP2 HVR HBR HVA HDSW
                have HZB : Hid (z'.natAbs < 65536 ^ 900) := (show _ < _ from Nat.lt_of_lt_of_le HZ1.out e19)
                cases ok with
                | true =>
                  have hz : z' = a ^ m := HZ2.out rfl
                  rw [← hz] at HD
                  clear hz HZ2 HZ3 HZ1
                  obtain ⟨sx, px, nx, cx, x0, x1, _, _, HVX⟩ := HDE.out.ox.cells
                  cases hf : Nu.fits (z') with
                  | true =>
                    have hint := Int_yes HVX.out hf HZB.out
                    rw [Nu.fit_fits hf] at HD
                    obtain ⟨e1, e2⟩ := Prod.mk.inj HD.out
                    subst e1 e2
                    clear HD hf
                    go_wp2_with (go_at_call 18; refine hint.mono ?_; clear hint; rintro e wz ⟨rfl, HZ⟩)
                    refine bodyPost_ret (results_tmp2 rfl _ _ _) rfl ?_
                    exact ⟨rfl, HDE.out.bel.trans (HZ.out.mono HDE.out.bel.size)⟩
                  | false =>
                    have hint := Int_no HVX.out hf HZB.out
                    rw [Nu.fit_not hf] at HD
                    obtain ⟨e1, e2⟩ := Prod.mk.inj HD.out
                    subst e1 e2
                    clear HD hf
                    go_wp2_with (go_at_call 18; refine hint.mono ?_; clear hint; rintro e wz ⟨r, rfl, HZ⟩)
                    refine bodyPost_ret (results_tmp2 rfl _ _ _) rfl ?_
                    exact ⟨rfl, HDE.out.bel.trans (HZ.out.mono HDE.out.bel.size)⟩
                | false =>
                  rw [Nu.fit_not (HZ3.out rfl)] at HD
                  obtain ⟨e1, e2⟩ := Prod.mk.inj HD.out
                  subst e1 e2
                  clear HD HZ2 HZ3 HZ1
                  obtain ⟨sx, px, nx, cx, x0, x1, _, _, HVX⟩ := HDE.out.ox.cells
                  cases hf : Nu.fits z' with
                  | true =>
                    have hint := Int_yes HVX.out hf HZB.out
                    clear hf
                    go_wp2_with (go_at_call 18; refine hint.mono ?_; clear hint; rintro e wz ⟨rfl, HZ⟩)
                    refine bodyPost_ret (results_tmp2 rfl _ _ _) rfl ?_
                    exact ⟨rfl, HDE.out.bel.trans (HZ.out.mono HDE.out.bel.size)⟩
                  | false =>
                    have hint := Int_no HVX.out hf HZB.out
                    clear hf
                    go_wp2_with (go_at_call 18; refine hint.mono ?_; clear hint; rintro e wz ⟨r, rfl, HZ⟩)
                    refine bodyPost_ret (results_tmp2 rfl _ _ _) rfl ?_
                    exact ⟨rfl, HDE.out.bel.trans (HZ.out.mono HDE.out.bel.size)⟩
            · skip
              have HD : Hid ((0, Nu.nType) = (n, t)) := (show _ = _ by have := hd.out; unfold Nu.doN at this; rw [if_neg h0, if_neg h1, if_neg h2, if_neg h3, if_neg h4, if_neg h5] at this; exact this)
              obtain ⟨e1, e2⟩ := Prod.mk.inj HD.out
              subst e1 e2
              have g0 : (s.toList == [43]) = false := by rw [Lib.toList_data]; simpa using h0
              have g1 : (s.toList == [45]) = false := by rw [Lib.toList_data]; simpa using h1
              have g2 : (s.toList == [42]) = false := by rw [Lib.toList_data]; simpa using h2
              have g3 : (s.toList == [47, 47]) = false := by rw [Lib.toList_data]; simpa using h3
              have g4 : (s.toList == [37]) = false := by rw [Lib.toList_data]; simpa using h4
              have g5 : (s.toList == [42, 42]) = false := by rw [Lib.toList_data]; simpa using h5
              clear hd HD h0 h1 h2 h3 h4 h5
              go_enter Try.func16, Try.ntmps16
              go_upto_region 3 with (first
                | (go_at_call 20; with_reducible (show Calls _ _ #[Value.int _ a] _ _); refine (Of_is ha1 ha2).mono ?_; rintro e wo ⟨so, po, no, co, rfl, HOV, HOB⟩)
                | (go_at_call 20; with_reducible (show Calls _ _ #[Value.int _ b] _ _); refine (Of_is hb1 hb2).mono ?_; rintro e wp ⟨sp, pp, np, cp, rfl, HPV, HPB⟩))
              have HDS := Lib.hid (ds_start HOB.out HOV.out HPB.out HPV.out)
              generalize hW : World.alloc wp _ = W
              have HDSW : Hid (DS w wo.heap.size wp.heap.size a b W) := (show DS _ _ _ _ _ _ from by rw [← hW]; exact HDS.out)
              clear hW HDS HOV HPV HOB HPB
              go_wp2_with fail
              refine bodyPost_ret (results_tmp2 rfl _ _ _) rfl ?_
              exact ⟨rfl, HDSW.out.bel⟩
end Go.Proofs.Ytaekjkihdecmcaa
