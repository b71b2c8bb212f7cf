/-
  The law's told, at this program.
-/
import Derived.Test.YtkmmcphiijolkaaDoorTreeJJ
import Derived.BigQuiet
set_option linter.unusedVariables false
set_option linter.unusedSimpArgs false
namespace Go.Proofs.YtkmmcphiijolkaaDoor
open Go.RowKit Go.Shelf
open Tr

theorem own_below {base n sz : Nat} {T : TypeId} {v : Value} {xs : List Value} {w w' : World} (h : w.ownsRow base T sz v n xs) (hb : Below w.heap.size w w') : w'.ownsRow base T sz v n xs := by
  refine ⟨h.1, ?_⟩
  rcases h.2 with e | ⟨g, cap, cur, e, hg, hgb, r⟩
  · exact Or.inl e
  · exact Or.inr ⟨g, cap, cur, e, hg, (hb.block g (Array.getElem?_eq_some_iff.1 hgb).1).trans hgb, r⟩
set_option maxHeartbeats 16000000 in
set_option maxRecDepth 100000 in
theorem told_any (tv av : Value) (t : List NodeD) (w : World) (htv : ArgT tv (treeT t) w) (hav : ArgT av t w) (hl : t.length ≤ 1000000 - 1) (hks : ∀ x ∈ t, x.2.2.2.2.length ≤ 900000) (hkid : KidsAt 0 t) :
    Calls Tryd.prog 22 #[tv, av] w fun e w' => e = .returned (.bool true) ∧ Below w.heap.size w w' := by
  have hall := refAll_any av t w hav hl hks ((t.length : Int) - 1)
  have HT := Lib.hid htv
  have HA := Lib.hid hav
  have HKS := Lib.hid hks
  have HKID := Lib.hid hkid
  obtain ⟨pt, ct, rfl, _⟩ := htv
  obtain ⟨pa, ca, rfl, _⟩ := hav
  obtain ⟨r, hr⟩ : ∃ r, r = (treeT t).length := ⟨_, rfl⟩
  obtain ⟨m, hm⟩ : ∃ m, m = t.length := ⟨_, rfl⟩
  have hrc : r = cntB t m := by rw [hr, hm]; exact treeT_length t
  have hrm : r ≤ m := by rw [hrc]; exact cntB_le t m
  rw [← hm] at hall hl ⊢
  rw [← hr]
  have HR := Lib.hid hr
  have HM := Lib.hid hm
  have HRC := Lib.hid hrc
  by_cases hm0 : m = 0
  · obtain rfl : r = 0 := by omega
    subst hm0
    clear hall hks hkid hr hm hrc
    go_enter Tryd.func22, Tryd.ntmps22
    go_wp2_with fail
    go_ret
    exact ⟨rfl, Below.refl _ _⟩
  · have hm1 : ¬ (m : Int) = 0 := by omega
    have hall2 := hall.mono (R' := fun e WA => ∃ (pl : Option Addr) (q cl : Nat), e = .returned (.slice pl q cl) ∧ Hid (WA.ownsRow w.heap.size 3 1 (.slice pl q cl) q ((castL (belowT t ((m : Int) - 1))).map (Value.int .i64))) ∧ Hid (q = (belowT t ((m : Int) - 1)).length) ∧ q ≤ 1000000 ∧ Hid (Below w.heap.size w WA)) (by
      rintro e WA ⟨v, rfl, ho, hb⟩
      obtain ⟨pl, cl, rfl⟩ := own_formI ho
      exact ⟨pl, _, cl, rfl, ho, rfl, by have := few_length (below_few t ((m : Int) - 1)); omega, hb⟩)
    have hmw : IntKind.i64.wrap ((m : Int) - 1) = (m : Int) - 1 := IntWalk.i64_in _ (by omega)
    clear hall hks hkid hr hm hrc
    go_enter Tryd.func22, Tryd.ntmps22
    go_wp2_with (go_at_call 40; refine hall2.mono ?_; clear hall2; rintro e WA ⟨pl, q, cl, rfl, HL, HQ, hq, HBA⟩)
    go_loopw [6, 7, 8] (fun v6 v7 v8 wr => ∃ (i n : Nat) (p6 : Option Addr) (c6 : Nat), v8 = .int .i64 (i : Int) ∧ v7 = .int .i64 (n : Int) ∧ v6 = .slice p6 i c6 ∧ i ≤ m ∧ n ≤ i ∧ Hid (n = cntB t i) ∧ Hid (wr.ownsRow WA.heap.size 3 1 (.slice p6 i c6) i ((numR t i).map (Value.int .i64))) ∧ Hid (Below WA.heap.size WA wr)) (fun _ _ v8 _ => m - (intOf v8).toNat)
    case atStart => exact ⟨0, 0, none, 0, rfl, rfl, rfl, Nat.zero_le _, Nat.le_refl _, rfl, World.ownsRow_nil _ _ _ _, Below.refl _ _⟩
    case round =>
      obtain ⟨i, n, p6, c6, rfl, rfl, rfl, hi, hni, HN, HO, HB⟩ := hrel
      by_cases him : i < m
      · obtain ⟨x, hx⟩ : ∃ x, t[i]? = some x := ⟨_, List.getElem?_eq_getElem (by rw [← HM.out]; exact him)⟩
        have HX := Lib.hid hx
        clear hx
        go_wp2_with fail
        obtain ⟨wo, hwo⟩ : ∃ wo, wo = wr := ⟨_, rfl⟩
        subst hwo
        go_loopw [9, 10] (fun v9 v10 wr => ∃ (k : Nat) (b : Bool), v10 = .int .i64 (k : Int) ∧ v9 = .bool b ∧ k ≤ q ∧ Hid (b = decide (i ∈ (belowT t ((m : Int) - 1)).take k)) ∧ wr = wo) (fun _ v10 _ => q - (intOf v10).toNat)
        case atStart => exact ⟨0, false, rfl, rfl, Nat.zero_le _, (show _ = _ by simp), rfl⟩
        case round =>
          obtain ⟨k, b, rfl, rfl, hk, HBK, rfl⟩ := hrel
          by_cases hkq : k < q
          · obtain ⟨y, hy⟩ : ∃ y, (belowT t ((m : Int) - 1))[k]? = some y := ⟨_, List.getElem?_eq_getElem (by rw [← HQ.out]; exact hkq)⟩
            obtain ⟨gl, rfl, hgl1, hgl2, yc, _⟩ := own_cellI HL.out (i := k) (k := (y : Int)) (by rw [castL, List.getElem?_map, hy]; rfl)
            have yc2 := (HB.out.cell (p := ⟨gl, k, none⟩) hgl2).trans yc
            have hts := take_snoc _ _ _ hy
            have HTS : Hid (decide (i ∈ (belowT t ((m : Int) - 1)).take (k + 1)) = (decide (i ∈ (belowT t ((m : Int) - 1)).take k) || decide ((y : Int) = (i : Int)))) := (show _ = _ by
              rw [hts]
              by_cases h : i ∈ (belowT t ((m : Int) - 1)).take k
              · simp [h]
              · by_cases h2 : y = i
                · subst h2; simp
                · have h3 : ¬ i = y := fun e => h2 e.symm
                  have h4 : ¬ (y : Int) = (i : Int) := by omega
                  simp [h, h2, h3, h4])
            clear yc hts hy
            cases b with
            | true =>
              go_wp2_with fail
              exact ⟨⟨k + 1, true, rfl, rfl, by omega, (show _ = _ by rw [HTS.out, ← HBK.out]; simp), trivial⟩, by simp [intOf]; omega⟩
            | false =>
              go_wp2_with fail
              exact ⟨⟨k + 1, decide ((y : Int) = (i : Int)), rfl, rfl, by omega, (show _ = _ by rw [HTS.out, ← HBK.out]; simp), trivial⟩, by simp [intOf]; omega⟩
          · obtain rfl : k = q := by omega
            have HBB : Hid (b = decide (i ∈ belowT t ((t.length : Int) - 1))) := (show _ = _ by
              have := HBK.out
              rw [HQ.out, List.take_length, HM.out] at this
              exact this)
            clear HBK
            have hbs := HB.out.size
            cases b with
            | false =>
              have HN2 : Hid (n = cntB t (i + 1)) := (show _ = _ by
                rw [cntB_succ, if_neg (by simpa using HBB.out), HN.out]; rfl)
              go_wp2_with (at_builtin; refine wpList_iapp rfl _ _ rfl WA.heap.size _ _ _ _ HO.out hbs (n : Int) rfl (by rfl) (by omega) ?_; intro g5 c5 w5 HO5 HB5 HG5)
              exact ⟨⟨i + 1, n, _, c5, rfl, rfl, rfl, by omega, by omega, HN2, (show World.ownsRow _ _ _ _ _ _ _ by rw [numR_succ, ← HN.out]; exact HO5.out), (show Below _ _ _ from HB.out.trans (HB5.out.below hbs (fun z hz e => by have := (HO.out.lt z e).1; omega)))⟩, by simp [intOf]; omega⟩
            | true =>
              have hin : i ∈ belowT t ((t.length : Int) - 1) := by simpa using HBB.out.symm
              have HN2 : Hid (n + 1 = cntB t (i + 1)) := (show _ = _ by
                rw [cntB_succ, if_pos hin, HN.out])
              have htn := treeT_at t HX.out hin
              rw [← HN.out] at htn
              have hnr : n < r := by rw [HR.out]; exact (List.getElem?_eq_some_iff.1 htn).1
              have HTN := Lib.hid htn
              have HKN := Lib.hid (kid_number t HKID.out HX.out hin)
              clear hin htn
              go_upto_region 15 with (at_builtin; refine wpList_iapp rfl _ _ rfl WA.heap.size _ _ _ _ HO.out hbs (n : Int) rfl (by rfl) (by omega) ?_; intro g5 c5 w5 HO5 HB5 HG5)
              have hb5 : Below WA.heap.size WA w5 := HB.out.trans (HB5.out.below hbs (fun z hz e => by have := (HO.out.lt z e).1; omega))
              have hw5 : Below w.heap.size w w5 := HBA.out.trans (hb5.mono HBA.out.size)
              have HBE := Lib.hid hb5
              have HW5 := Lib.hid hw5
              obtain ⟨_, _, et, hct⟩ := HT.out
              injection et with et1 et2 et3
              subst et1
              obtain ⟨gt, ot, vt, rfl, hgt, t0, t1, t2, t3, t4, htk⟩ := hct n _ HTN.out
              obtain ⟨_, _, ea, hca⟩ := HA.out
              injection ea with ea1 ea2 ea3
              subst ea1
              obtain ⟨ga, oa, va, rfl, hga, a0, a1, a2, a3, a4, hak⟩ := hca i _ HX.out
              have hkl := HKS.out x (List.mem_of_getElem? HX.out)
              obtain ⟨x0, x1, x2, x3, ks⟩ := x
              simp only [renN] at t0 t1 t2 t3 htk a0 a1 a2 a3 hak hkl
              obtain ⟨pk, ck, rfl, fk⟩ := htk
              obtain ⟨pj, cj, rfl, fj⟩ := hak
              rw [List.length_map] at t4
              obtain ⟨z, hz⟩ : ∃ z, z = ks.length := ⟨_, rfl⟩
              rw [← hz] at t4 a4 hkl
              have b0 := (hw5.cell (p := ⟨gt, ot + n * 5, none⟩) hgt).trans t0
              have b1 := (hw5.cell (p := ⟨gt, ot + n * 5 + 1, none⟩) hgt).trans t1
              have b2 := (hw5.cell (p := ⟨gt, ot + n * 5 + 2, none⟩) hgt).trans t2
              have b3 := (hw5.cell (p := ⟨gt, ot + n * 5 + 3, none⟩) hgt).trans t3
              have b4 := (hw5.cell (p := ⟨gt, ot + n * 5 + 4, none⟩) hgt).trans t4
              have d0 := (hw5.cell (p := ⟨ga, oa + i * 5, none⟩) hga).trans a0
              have d1 := (hw5.cell (p := ⟨ga, oa + i * 5 + 1, none⟩) hga).trans a1
              have d2 := (hw5.cell (p := ⟨ga, oa + i * 5 + 2, none⟩) hga).trans a2
              have d3 := (hw5.cell (p := ⟨ga, oa + i * 5 + 3, none⟩) hga).trans a3
              have d4 := (hw5.cell (p := ⟨ga, oa + i * 5 + 4, none⟩) hga).trans a4
              have hnri : (n : Int) < (r : Int) := by omega
              have himi : (i : Int) < (m : Int) := by omega
              have HFK := Lib.hid fk.1
              have HFJ := Lib.hid fj.1
              have HZ := Lib.hid hz
              clear hb5 hw5 hct hca et2 et3 ea2 ea3 t0 t1 t2 t3 t4 a0 a1 a2 a3 a4 fk fj hz
              go_wp2_with fail
              go_quiet (fail)
              clear b0 b1 b2 b3 d0 d1 d2 d3
              go_wp2_with fail
              have e1 : decide (r ≤ n) = false := decide_eq_false (by omega)
              simp only [e1]
              obtain ⟨wo, hwo⟩ : ∃ wo, wo = w5 := ⟨_, rfl⟩
              go_loopw [11] (fun v11 wk => ∃ j : Nat, v11 = .int .i64 (j : Int) ∧ j ≤ z ∧ Hid (Below w5.heap.size w5 wk)) (fun v11 _ => z - (intOf v11).toNat)
              case atStart => exact ⟨0, rfl, Nat.zero_le _, (show Below _ _ _ from below_drewN (Below.refl _ _) _)⟩
              case round =>
                obtain ⟨j, rfl, hj, HBW⟩ := hrel
                have e4 := (HBW.out.cell (p := ⟨gt, ot + n * 5 + 4, none⟩) (Nat.lt_of_lt_of_le hgt HW5.out.size)).trans b4
                have f4 := (HBW.out.cell (p := ⟨ga, oa + i * 5 + 4, none⟩) (Nat.lt_of_lt_of_le hga HW5.out.size)).trans d4
                by_cases hjz : j < z
                · obtain ⟨kk, hkk⟩ : ∃ kk, ks[j]? = some kk := ⟨_, List.getElem?_eq_getElem (by rw [← HZ.out]; exact hjz)⟩
                  have hkn := HKN.out j kk hkk
                  obtain ⟨kn, rfl⟩ : ∃ kn : Nat, kk = (kn : Int) := ⟨kk.toNat, by omega⟩
                  rw [Int.toNat_natCast] at hkn
                  have hki : kn < i := by omega
                  obtain ⟨gj, oj, rfl, hgj, kc⟩ := HFJ.out j _ hkk
                  obtain ⟨gk, ok, rfl, hgk, kd⟩ := HFK.out j _ hkn.2.2
                  obtain ⟨_, eg, _, hg5, ke, _⟩ := own_cellI HO5.out (i := kn) (k := ((cntB t kn : Nat) : Int)) (by rw [List.getElem?_append_left (by rw [numR_length]; exact hki)]; exact numR_get t hki)
                  injection eg with eg
                  injection eg with eg
                  subst eg
                  obtain ⟨cn, hcn⟩ := hid_ex (cntB t kn)
                  rw [hcn.out] at kd ke
                  have hw5k := HW5.out.trans (HBW.out.mono HW5.out.size)
                  have kc2 := (hw5k.cell (p := ⟨gj, oj + j, none⟩) hgj).trans kc
                  have kd2 := (hw5k.cell (p := ⟨gk, ok + j, none⟩) hgk).trans kd
                  have ke2 := (HBW.out.cell (p := ⟨g5, kn, none⟩) hg5).trans ke
                  have hki2 : (kn : Int) < (i : Int) + 1 := by omega
                  clear kc kd ke hkk hkn b4 d4 hw5k
                  go_wp2_with fail
                  go_quiet (fail)
                  go_wp2_with fail
                  go_roundw
                  case rel => exact ⟨j + 1, by go_num, by omega, (show Below _ _ _ from below_drewN HBW.out _)⟩
                  case measure => simp [intOf]; omega
                · obtain rfl : j = z := by omega
                  go_wp2_with fail
                  exact ⟨⟨i + 1, n + 1, _, c5, rfl, rfl, rfl, by omega, by omega, HN2, (show World.ownsRow _ _ _ _ _ _ _ by rw [numR_succ, ← HN.out]; exact own_below HO5.out HBW.out), (show Below _ _ _ from HBE.out.trans (HBW.out.mono HBE.out.size))⟩, by simp [intOf]; omega⟩
      · obtain rfl : i = m := by omega
        obtain rfl : n = r := by rw [HN.out, HRC.out]
        go_wp2_with fail
        go_ret
        exact ⟨rfl, HBA.out.trans (HB.out.mono HBA.out.size)⟩
end Go.Proofs.YtkmmcphiijolkaaDoor
