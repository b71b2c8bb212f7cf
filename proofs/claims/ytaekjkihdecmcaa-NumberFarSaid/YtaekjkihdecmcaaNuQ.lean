/-
  The reference's int of a text, at this program (made by wip/tools/genNuQ.py).
-/
import Derived.Test.YtaekjkihdecmcaaNuT
set_option linter.unusedVariables false
set_option linter.unusedSimpArgs false
namespace Go.Proofs.Ytaekjkihdecmcaa
open Go.RowKit

theorem big400_900 : 65536 ^ 400 ≤ 65536 ^ 900 := by decide +kernel
/-- What is told of a text's int. -/
def toldP (r : Option Int) : Value := match r with
  | some v => .tuple #[.int .i64 v, .bool true]
  | none => .tuple #[.int .i64 0, .bool false]

set_option maxHeartbeats 16000000 in
theorem rParse_is {s : ByteArray} {r : Option Int} (hr : Hid (Nu.parse s.data.toList = r)) (hs : s.size ≤ 1000000) (w : World) :
    Calls Try.prog 24 #[.string s] w fun e w' => e = .returned (toldP r) ∧ Below w.heap.size w w' := by
  by_cases h0 : s.size = 0
  · have hl : s.data.toList = [] := List.length_eq_zero_iff.1 (by rw [size_list]; exact h0)
    have HR : Hid (r = none) := (show _ = _ from by rw [← hr.out, hl]; rfl)
    rw [HR.out]
    clear hl hr
    go_enter Try.func24, Try.ntmps24
    go_wp2_with fail
    refine bodyPost_ret (results_tmp2 rfl _ _ _) rfl ?_
    exact ⟨rfl, Below.refl _ _⟩
  · have hp : 0 < s.size := by omega
    have hhead : s.data.toList = s[0] :: s.data.toList.drop 1 := by
      have := get_drop s 0 hp
      simpa using this
    obtain ⟨tl, htl⟩ : ∃ tl, tl = s.data.toList.drop 1 := ⟨_, rfl⟩
    by_cases h45 : s[0] = 45
    · have hsp : Nu.split s.data.toList = (true, tl) := by rw [hhead, h45, ← htl]; rfl
      have h45i : ((s[0].toNat : Int) == 45) = true := by rw [h45]; rfl
      by_cases h1 : s.size = 1
      · have hl : tl = [] := by rw [htl]; apply List.length_eq_zero_iff.1; rw [List.length_drop, size_list]; omega
        have HR : Hid (r = none) := (show _ = _ from by
          rw [← hr.out]
          unfold Nu.parse
          rw [hsp, hl]
          rfl)
        rw [HR.out]
        clear hl hsp htl hhead hr h45 h0
        go_enter Try.func24, Try.ntmps24
        go_wp2_with fail
        refine bodyPost_ret (results_tmp2 rfl _ _ _) rfl ?_
        exact ⟨rfl, Below.refl _ _⟩
      · have h1' : 1 < s.size := by omega
        have hne : ((1 : Int) == (s.size : Int)) = false := by simp; omega
        have hlen : tl.length = s.size - 1 := by rw [htl, List.length_drop, size_list]
        obtain ⟨ds, hds⟩ : ∃ ds, ds = tl := ⟨_, rfl⟩
        rw [← hds] at hsp hlen
        have HDS : Hid (s.data.toList.drop 1 = ds) := (show _ = _ from by rw [hds, htl])
        have HSP := Lib.hid hsp
        have HLEN := Lib.hid hlen
        have HNE : Hid (¬ ds = []) := (show ¬ _ from fun e => by rw [e] at hlen; simp at hlen; omega)
        clear hds hsp hlen htl hhead h45 h1 h0
        go_enter Try.func24, Try.ntmps24
        go_wp2_with fail
        go_loop [5] (fun v5 => ∃ i : Nat, v5 = .int .i64 (i : Int) ∧ 1 ≤ i ∧ i ≤ s.size ∧ Hid (∀ c ∈ ds.take (i - 1), Nu.isDig c = true)) (fun v5 => s.size - (intOf v5).toNat)
        case atStart => exact ⟨1, rfl, Nat.le_refl _, by omega, (show ∀ _, _ from fun c hc => by simp at hc)⟩
        case round =>
          obtain ⟨i, rfl, hfi, hi, HA⟩ := hrel
          by_cases hlt : i < s.size
          · have hget : ds[i - 1]? = some s[i] := by
              have h1 := get_drop s i hlt
              have h2 : ds.drop (i - 1) = s.data.toList.drop i := by rw [← HDS.out, List.drop_drop]; congr 1; omega
              have h3 : (ds.drop (i - 1))[0]? = some s[i] := by rw [h2, h1]; rfl
              rw [List.getElem?_drop] at h3
              simpa using h3
            by_cases hdg : Nu.isDig s[i] = true
            · have h1 : ¬ ((s[i].toNat : Int) < 48) := by unfold Nu.isDig at hdg; simp at hdg; omega
              have h2 : ¬ ((57 : Int) < (s[i].toNat : Int)) := by unfold Nu.isDig at hdg; simp at hdg; omega
              have HA2 : Hid (∀ c ∈ ds.take (i + 1 - 1), Nu.isDig c = true) := (show ∀ _, _ from fun c hc => by
                rw [show i + 1 - 1 = (i - 1) + 1 by omega, List.take_add_one, hget] at hc
                rcases List.mem_append.1 hc with g | g
                · exact HA.out c g
                · simp at g; rw [g]; exact hdg)
              clear hget hdg HA
              go_wp2_with fail
              exact ⟨⟨i + 1, by go_num, by omega, by omega, HA2⟩, by simp [intOf]; omega⟩
            · have HNO : Hid (Nu.parse s.data.toList = none) := (show _ = _ from by
                have hall : ds.all Nu.isDig = false := by
                  cases h : ds.all Nu.isDig with
                  | false => rfl
                  | true => exact absurd (List.all_eq_true.1 h _ (List.mem_of_getElem? hget)) hdg
                unfold Nu.parse
                rw [HSP.out]
                simp only
                rw [if_pos (Or.inr hall)])
              have HR2 := Lib.hid (hr.out.symm.trans HNO.out)
              have hcase : ((s[i].toNat : Int) < 48) ∨ ¬ ((s[i].toNat : Int) < 48) ∧ ((57 : Int) < (s[i].toNat : Int)) := by
                unfold Nu.isDig at hdg; simp at hdg; omega
              clear hget hdg HA HNO
              rcases hcase with h1 | ⟨h1, h2⟩
              all_goals
                go_wp2_with fail
                refine bodyPost_ret (results_tmp2 rfl _ _ _) rfl ?_
                rw [HR2.out]
                exact ⟨rfl, Below.refl _ _⟩
          · obtain rfl : i = s.size := by omega
            have HALL : Hid (ds.all Nu.isDig = true) := (show _ = _ from by
              rw [List.all_eq_true]
              intro c hc
              refine HA.out c ?_
              rw [List.take_of_length_le (by rw [HLEN.out]; omega)]
              exact hc)
            have HPARSE : Hid (r = if Nu.fits (Nu.sgn true (Nu.num ds)) then some (Nu.sgn true (Nu.num ds)) else none) := (show _ = _ from by
              rw [← hr.out]
              unfold Nu.parse
              rw [HSP.out]
              simp only [HALL.out, HNE.out, Bool.true_eq_false, or_self, if_false])
            have HV0 : Hid (VarN (w.alloc (cN (.bool false) (.slice none 0 0))) w.heap.size 0) := (show VarN _ _ _ from VarN.new (NumV.zero w))
            have hB0 : Below w.heap.size w (w.alloc (cN (.bool false) (.slice none 0 0))) := below_new w _
            have HBB := Lib.hid hB0
            clear hlt HA hB0
            go_wp2_with fail
            go_loopw [7] (fun v7 wr => ∃ i X : Nat, v7 = .int .i64 (i : Int) ∧ 1 ≤ i ∧ i ≤ s.size ∧ Hid (VarN wr w.heap.size (X : Int)) ∧ Hid (X = Nu.num (ds.take (i - 1))) ∧ Hid (X < 65536 ^ 5) ∧ Hid (Below w.heap.size w wr)) (fun v7 _ => s.size - (intOf v7).toNat)
            case atStart => exact ⟨1, 0, rfl, Nat.le_refl _, by omega, HV0.out, (show _ = _ by simp [Nu.num, Nu.numFrom]), (show _ < _ by decide), HBB.out⟩
            case round =>
              clear HV0 HBB
              obtain ⟨i, X, rfl, hfi, hi, HX, HNUM, HX5, HB⟩ := hrel
              by_cases hlt : i < s.size
              · have hget : ds[i - 1]? = some s[i] := by
                  have h1 := get_drop s i hlt
                  have h2 : ds.drop (i - 1) = s.data.toList.drop i := by rw [← HDS.out, List.drop_drop]; congr 1; omega
                  have h3 : (ds.drop (i - 1))[0]? = some s[i] := by rw [h2, h1]; rfl
                  rw [List.getElem?_drop] at h3
                  simpa using h3
                have hdg := List.all_eq_true.1 HALL.out _ (List.mem_of_getElem? hget)
                have hc48 : 48 ≤ s[i].toNat ∧ s[i].toNat ≤ 57 := by unfold Nu.isDig at hdg; simpa using hdg
                obtain ⟨c, hc⟩ : ∃ c, c = s[i].toNat := ⟨_, rfl⟩
                obtain ⟨d, hd⟩ : ∃ d, d = c - 48 := ⟨_, rfl⟩
                have HN2 : Hid (X * 10 + d = Nu.num (ds.take (i + 1 - 1))) := (show _ = _ from by
                  have hl := (List.getElem?_eq_some_iff.1 hget).1
                  have h1 := Nu.num_take_succ hl
                  rw [show i + 1 - 1 = (i - 1) + 1 by omega, h1, ← HNUM.out]
                  rw [List.getElem?_eq_getElem hl] at hget
                  rw [Option.some.inj hget, hd, hc])
                have hd9 : d ≤ 9 := by omega
                have wsub : IntKind.u8.wrap ((s[i].toNat : Int) - 48) = (d : Int) := by
                  rw [show ((s[i].toNat : Int) - 48) = (d : Int) by omega]
                  exact IntWalk.u8_in _ (by omega)
                have wd64 : IntKind.i64.wrap (d : Int) = (d : Int) := IntWalk.i64_in _ (by omega)
                obtain ⟨s1, p1, n1, c1, x0, x1, _, _, HVX⟩ := HX.out.cells
                have h400 : (65536 : Nat) ^ 5 * 10 + 10 < 65536 ^ 400 := by decide +kernel
                have hX4 : X * 10 + 10 < 65536 ^ 400 := by have := HX5.out; omega
                have H4 := Lib.hid hX4
                have HDR := Lib.hid (HX.out.below (Below.refl _ _).drew)
                clear hget hdg hc48 hc hd h400 hX4
                go_wp2_with fail
                go_region_law (first
                  | (go_simp; go_at_call 26; (refine (Add_is (z := ((X * 10 + d : Nat) : Int)) (HVM.out.below HB3.out) HV3.out (by have := H4.out; have h9 := big400_900; omega) (by have := H4.out; have h9 := big400_900; omega) (by omega)).mono ?_; rintro e wa ⟨s', pv, nv, cv, rfl, HVA, HBA⟩; have P2 := (((HDR.out.below HB1.out).below HB2.out).below HB3.out).below HBA.out; obtain ⟨u0, u1, t0, t1, tf0, tf1⟩ := P2.store; have HP2 := Lib.hid P2; clear P2))
                  | (go_simp; go_at_call 20; with_reducible (show Calls _ _ #[Value.int _ (d : Int)] _ _); (refine (Of_is (by omega) (by omega)).mono ?_; rintro e w3 ⟨s3, p3, n3, c3, rfl, HV3, HB3⟩))
                  | (go_simp; go_at_call 27; (refine (Mul_is (z := ((X * 10 : Nat) : Int)) (HVX.out.drew.below HB1.out) HV1.out (by have := H4.out; omega) (by decide +kernel) (by omega)).mono ?_; rintro e w2 ⟨s2, p2, n2, c2, rfl, HVM, HB2⟩))
                  | (go_simp; go_at_call 20; with_reducible (show Calls _ _ #[Value.int _ 10] _ _); (refine (Of_is (by omega) (by omega)).mono ?_; rintro e wv ⟨sv, pv0, nv0, cv0, rfl, HV1, HB1⟩; have v0 := (HB1.out.cell (p := ⟨w.heap.size, 0, none⟩) HDR.out.lt).trans (dr1 x0); have v1 := (HB1.out.cell (p := ⟨w.heap.size, 1, none⟩) HDR.out.lt).trans (dr1 x1))))
                all_goals
                  generalize hwn : World.setCell (World.setCell wa _ _) _ _ = wb
                  have HX2 : Hid (VarN wb w.heap.size ((X * 10 + d : Nat) : Int) ∧ Below w.heap.size w wb) := (show _ ∧ _ from by
                    rw [← hwn]
                    have hl := HX.out.lt
                    exact ⟨HP2.out.put HVA.out, put2_below ((((HB.out.drew.trans (HB1.out.mono (by show w.heap.size ≤ wr.heap.size; omega))).trans (HB2.out.mono (by have := HB1.out.size; have h : wr.drew.heap.size = wr.heap.size := rfl; omega))).trans (HB3.out.mono (by have := HB1.out.size; have := HB2.out.size; have h : wr.drew.heap.size = wr.heap.size := rfl; omega))).trans (HBA.out.mono (by have := HB1.out.size; have := HB2.out.size; have := HB3.out.size; have h : wr.drew.heap.size = wr.heap.size := rfl; omega))) (Nat.le_refl _) _ _⟩)
                  clear hwn t0 t1 tf0 tf1 HP2 HVA HBA HV3 HB3 HVM HB2 HV1 HB1 v0 v1 HDR HVX x0 x1 HX
                  obtain ⟨s6, p6, n6, c6, q0, q1, _, _, HVQ⟩ := HX2.out.1.cells
                  obtain ⟨l6, d6, hn6, j6⟩ := num_digits HVQ.out
                  have h5 := Nu.len_le_iff j6.1 j6.2.1 5
                  rw [← hn6, j6.abs] at h5
                  have H5 := Lib.hid h5
                  clear d6 hn6 j6 h5
                  by_cases hbig : n6 ≤ 5
                  · have hb1 : ¬ (5 : Int) < (n6 : Int) := by omega
                    have HX6 : Hid (X * 10 + d < 65536 ^ 5) := (show _ < _ from by have := H5.out.1 hbig; omega)
                    go_wp2_with fail
                    go_roundw
                    case rel => exact ⟨i + 1, X * 10 + d, by go_num, by omega, by omega, HX2.out.1, HN2.out, HX6.out, HX2.out.2⟩
                    case measure => simp [intOf]; omega
                  · have hb1 : (5 : Int) < (n6 : Int) := by omega
                    have HR : Hid (r = none) := (show _ = _ from by
                      have h1 : ¬ (X * 10 + d < 65536 ^ 5) := fun h => hbig (H5.out.2 (by omega))
                      have h2 := Nu.num_take_le ds (i + 1 - 1)
                      rw [← HN2.out] at h2
                      have h3 : (9223372036854775808 : Nat) < 65536 ^ 5 := by decide
                      have h4 : Nu.fits (Nu.sgn true (Nu.num ds)) = false := Nu.not_fits_of (by
                        have : (Nu.sgn true (Nu.num ds)).natAbs = Nu.num ds := by unfold Nu.sgn; simp
                        omega)
                      rw [HPARSE.out, h4]
                      rfl)
                    go_wp2_with fail
                    refine bodyPost_ret (results_tmp2 rfl _ _ _) rfl ?_
                    rw [HR.out]
                    exact ⟨rfl, HX2.out.2⟩
              · obtain rfl : i = s.size := by omega
                have HNUM2 : Hid (X = Nu.num ds) := (show _ = _ from by
                  rw [HNUM.out, List.take_of_length_le (by rw [HLEN.out]; omega)])
                have HPR : Hid (r = if Nu.fits (Nu.sgn true X) then some (Nu.sgn true X) else none) := (show _ = _ from by rw [HNUM2.out]; exact HPARSE.out)
                have H100 : Hid (X < 65536 ^ 100) := (show _ < _ from Nat.lt_trans HX5.out (by decide +kernel))
                clear HNUM HNUM2 HPARSE hlt
                have H900 : Hid ((Nu.sgn true X).natAbs < 65536 ^ 900) := (show _ < _ from by
                  have : (Nu.sgn true X).natAbs = X := by unfold Nu.sgn; simp
                  rw [this]
                  exact Nat.lt_of_lt_of_le H100.out e19)
                obtain ⟨s1, p1, n1, c1, x0, x1, xf0, xf1, HVX⟩ := HX.out.cells
                have hneg := Neg_is (z := Nu.sgn true X) HVX.out (by have := H100.out; omega) rfl
                go_upto_region 20 with (go_at_call 19; refine hneg.mono ?_; clear hneg; rintro e wn ⟨s2, p2, n2, c2, rfl, HVN, HBN⟩; have P2 := HX.out.below HBN.out; obtain ⟨_, _, t0, t1, tf0, tf1⟩ := P2.store; have HP2 := Lib.hid P2; clear P2 x0 x1 xf0 xf1)
                generalize hwn : World.setCell (World.setCell wn _ _) _ _ = wm
                have HX2 : Hid (VarN wm w.heap.size (Nu.sgn true X) ∧ Below w.heap.size w wm) := (show _ ∧ _ from by
                  rw [← hwn]
                  have hl := HX.out.lt
                  exact ⟨HP2.out.put HVN.out, put2_below (HB.out.trans (HBN.out.mono (by omega))) (Nat.le_refl _) _ _⟩)
                clear hwn t0 t1 tf0 tf1 HP2 HVN HBN HVX HX HB
                obtain ⟨s6, p6, n6, c6, q0, q1, _, _, HVQ⟩ := HX2.out.1.cells
                cases hf : Nu.fits (Nu.sgn true X) with
                | true =>
                  have hint := Int_yes HVQ.out hf H900.out
                  have HR : Hid (r = some (Nu.sgn true X)) := (show _ = _ from by rw [HPR.out, hf]; rfl)
                  clear hf HPR
                  go_wp2_with (go_at_call 18; refine hint.mono ?_; clear hint; rintro e wz ⟨rfl, HZ⟩)
                  refine bodyPost_ret (results_tmp2 rfl _ _ _) rfl ?_
                  rw [HR.out]
                  exact ⟨rfl, HX2.out.2.trans (HZ.out.mono HX2.out.2.size)⟩
                | false =>
                  have hint := Int_no HVQ.out hf H900.out
                  have HR : Hid (r = none) := (show _ = _ from by rw [HPR.out, hf]; rfl)
                  clear hf HPR
                  go_wp2_with (go_at_call 18; refine hint.mono ?_; clear hint; rintro e wz ⟨q, rfl, HZ⟩)
                  refine bodyPost_ret (results_tmp2 rfl _ _ _) rfl ?_
                  rw [HR.out]
                  exact ⟨rfl, HX2.out.2.trans (HZ.out.mono HX2.out.2.size)⟩
    · have hsp : Nu.split s.data.toList = (false, s.data.toList) := Nu.split_other (by rw [hhead]; simpa using h45)
      have h45i : ((s[0].toNat : Int) == 45) = false := by
        simp
        intro e
        exact h45 (UInt8.toNat_inj.1 (by show s[0].toNat = 45; omega))
      have hne : ((0 : Int) == (s.size : Int)) = false := by simp; omega
      obtain ⟨ds, hds⟩ : ∃ ds, ds = s.data.toList := ⟨_, rfl⟩
      have hlen : ds.length = s.size := by rw [hds, size_list]
      have HDS : Hid (s.data.toList.drop 0 = ds) := (show _ = _ from by rw [hds]; rfl)
      have hsp2 : Nu.split s.data.toList = (false, ds) := by rw [hds]; exact hsp
      have HSP := Lib.hid hsp2
      have HLEN := Lib.hid hlen
      have HNE : Hid (¬ ds = []) := (show ¬ _ from fun e => by rw [e] at hlen; simp at hlen; omega)
      clear hds hsp hsp2 hlen htl hhead h45 h0
      go_enter Try.func24, Try.ntmps24
      go_wp2_with fail
      go_loop [5] (fun v5 => ∃ i : Nat, v5 = .int .i64 (i : Int) ∧ 0 ≤ i ∧ i ≤ s.size ∧ Hid (∀ c ∈ ds.take (i - 0), Nu.isDig c = true)) (fun v5 => s.size - (intOf v5).toNat)
      case atStart => exact ⟨0, rfl, Nat.le_refl _, by omega, (show ∀ _, _ from fun c hc => by simp at hc)⟩
      case round =>
        obtain ⟨i, rfl, hfi, hi, HA⟩ := hrel
        by_cases hlt : i < s.size
        · have hget : ds[i - 0]? = some s[i] := by
            have h1 := get_drop s i hlt
            have h2 : ds.drop (i - 0) = s.data.toList.drop i := by rw [← HDS.out, List.drop_drop]; congr 1; omega
            have h3 : (ds.drop (i - 0))[0]? = some s[i] := by rw [h2, h1]; rfl
            rw [List.getElem?_drop] at h3
            simpa using h3
          by_cases hdg : Nu.isDig s[i] = true
          · have h1 : ¬ ((s[i].toNat : Int) < 48) := by unfold Nu.isDig at hdg; simp at hdg; omega
            have h2 : ¬ ((57 : Int) < (s[i].toNat : Int)) := by unfold Nu.isDig at hdg; simp at hdg; omega
            have HA2 : Hid (∀ c ∈ ds.take (i + 1 - 0), Nu.isDig c = true) := (show ∀ _, _ from fun c hc => by
              rw [show i + 1 - 0 = (i - 0) + 1 by omega, List.take_add_one, hget] at hc
              rcases List.mem_append.1 hc with g | g
              · exact HA.out c g
              · simp at g; rw [g]; exact hdg)
            clear hget hdg HA
            go_wp2_with fail
            exact ⟨⟨i + 1, by go_num, by omega, by omega, HA2⟩, by simp [intOf]; omega⟩
          · have HNO : Hid (Nu.parse s.data.toList = none) := (show _ = _ from by
              have hall : ds.all Nu.isDig = false := by
                cases h : ds.all Nu.isDig with
                | false => rfl
                | true => exact absurd (List.all_eq_true.1 h _ (List.mem_of_getElem? hget)) hdg
              unfold Nu.parse
              rw [HSP.out]
              simp only
              rw [if_pos (Or.inr hall)])
            have HR2 := Lib.hid (hr.out.symm.trans HNO.out)
            have hcase : ((s[i].toNat : Int) < 48) ∨ ¬ ((s[i].toNat : Int) < 48) ∧ ((57 : Int) < (s[i].toNat : Int)) := by
              unfold Nu.isDig at hdg; simp at hdg; omega
            clear hget hdg HA HNO
            rcases hcase with h1 | ⟨h1, h2⟩
            all_goals
              go_wp2_with fail
              refine bodyPost_ret (results_tmp2 rfl _ _ _) rfl ?_
              rw [HR2.out]
              exact ⟨rfl, Below.refl _ _⟩
        · obtain rfl : i = s.size := by omega
          have HALL : Hid (ds.all Nu.isDig = true) := (show _ = _ from by
            rw [List.all_eq_true]
            intro c hc
            refine HA.out c ?_
            rw [List.take_of_length_le (by rw [HLEN.out]; omega)]
            exact hc)
          have HPARSE : Hid (r = if Nu.fits (Nu.sgn false (Nu.num ds)) then some (Nu.sgn false (Nu.num ds)) else none) := (show _ = _ from by
            rw [← hr.out]
            unfold Nu.parse
            rw [HSP.out]
            simp only [HALL.out, HNE.out, Bool.true_eq_false, or_self, if_false])
          have HV0 : Hid (VarN (w.alloc (cN (.bool false) (.slice none 0 0))) w.heap.size 0) := (show VarN _ _ _ from VarN.new (NumV.zero w))
          have hB0 : Below w.heap.size w (w.alloc (cN (.bool false) (.slice none 0 0))) := below_new w _
          have HBB := Lib.hid hB0
          clear hlt HA hB0
          go_wp2_with fail
          go_loopw [7] (fun v7 wr => ∃ i X : Nat, v7 = .int .i64 (i : Int) ∧ 0 ≤ i ∧ i ≤ s.size ∧ Hid (VarN wr w.heap.size (X : Int)) ∧ Hid (X = Nu.num (ds.take (i - 0))) ∧ Hid (X < 65536 ^ 5) ∧ Hid (Below w.heap.size w wr)) (fun v7 _ => s.size - (intOf v7).toNat)
          case atStart => exact ⟨0, 0, rfl, Nat.le_refl _, by omega, HV0.out, (show _ = _ by simp [Nu.num, Nu.numFrom]), (show _ < _ by decide), HBB.out⟩
          case round =>
            clear HV0 HBB
            obtain ⟨i, X, rfl, hfi, hi, HX, HNUM, HX5, HB⟩ := hrel
            by_cases hlt : i < s.size
            · have hget : ds[i - 0]? = some s[i] := by
                have h1 := get_drop s i hlt
                have h2 : ds.drop (i - 0) = s.data.toList.drop i := by rw [← HDS.out, List.drop_drop]; congr 1; omega
                have h3 : (ds.drop (i - 0))[0]? = some s[i] := by rw [h2, h1]; rfl
                rw [List.getElem?_drop] at h3
                simpa using h3
              have hdg := List.all_eq_true.1 HALL.out _ (List.mem_of_getElem? hget)
              have hc48 : 48 ≤ s[i].toNat ∧ s[i].toNat ≤ 57 := by unfold Nu.isDig at hdg; simpa using hdg
              obtain ⟨c, hc⟩ : ∃ c, c = s[i].toNat := ⟨_, rfl⟩
              obtain ⟨d, hd⟩ : ∃ d, d = c - 48 := ⟨_, rfl⟩
              have HN2 : Hid (X * 10 + d = Nu.num (ds.take (i + 1 - 0))) := (show _ = _ from by
                have hl := (List.getElem?_eq_some_iff.1 hget).1
                have h1 := Nu.num_take_succ hl
                rw [show i + 1 - 0 = (i - 0) + 1 by omega, h1, ← HNUM.out]
                rw [List.getElem?_eq_getElem hl] at hget
                rw [Option.some.inj hget, hd, hc])
              have hd9 : d ≤ 9 := by omega
              have wsub : IntKind.u8.wrap ((s[i].toNat : Int) - 48) = (d : Int) := by
                rw [show ((s[i].toNat : Int) - 48) = (d : Int) by omega]
                exact IntWalk.u8_in _ (by omega)
              have wd64 : IntKind.i64.wrap (d : Int) = (d : Int) := IntWalk.i64_in _ (by omega)
              obtain ⟨s1, p1, n1, c1, x0, x1, _, _, HVX⟩ := HX.out.cells
              have h400 : (65536 : Nat) ^ 5 * 10 + 10 < 65536 ^ 400 := by decide +kernel
              have hX4 : X * 10 + 10 < 65536 ^ 400 := by have := HX5.out; omega
              have H4 := Lib.hid hX4
              have HDR := Lib.hid (HX.out.below (Below.refl _ _).drew)
              clear hget hdg hc48 hc hd h400 hX4
              go_wp2_with fail
              go_region_law (first
                | (go_simp; go_at_call 26; (refine (Add_is (z := ((X * 10 + d : Nat) : Int)) (HVM.out.below HB3.out) HV3.out (by have := H4.out; have h9 := big400_900; omega) (by have := H4.out; have h9 := big400_900; omega) (by omega)).mono ?_; rintro e wa ⟨s', pv, nv, cv, rfl, HVA, HBA⟩; have P2 := (((HDR.out.below HB1.out).below HB2.out).below HB3.out).below HBA.out; obtain ⟨u0, u1, t0, t1, tf0, tf1⟩ := P2.store; have HP2 := Lib.hid P2; clear P2))
                | (go_simp; go_at_call 20; with_reducible (show Calls _ _ #[Value.int _ (d : Int)] _ _); (refine (Of_is (by omega) (by omega)).mono ?_; rintro e w3 ⟨s3, p3, n3, c3, rfl, HV3, HB3⟩))
                | (go_simp; go_at_call 27; (refine (Mul_is (z := ((X * 10 : Nat) : Int)) (HVX.out.drew.below HB1.out) HV1.out (by have := H4.out; omega) (by decide +kernel) (by omega)).mono ?_; rintro e w2 ⟨s2, p2, n2, c2, rfl, HVM, HB2⟩))
                | (go_simp; go_at_call 20; with_reducible (show Calls _ _ #[Value.int _ 10] _ _); (refine (Of_is (by omega) (by omega)).mono ?_; rintro e wv ⟨sv, pv0, nv0, cv0, rfl, HV1, HB1⟩; have v0 := (HB1.out.cell (p := ⟨w.heap.size, 0, none⟩) HDR.out.lt).trans (dr1 x0); have v1 := (HB1.out.cell (p := ⟨w.heap.size, 1, none⟩) HDR.out.lt).trans (dr1 x1))))
              all_goals
                generalize hwn : World.setCell (World.setCell wa _ _) _ _ = wb
                have HX2 : Hid (VarN wb w.heap.size ((X * 10 + d : Nat) : Int) ∧ Below w.heap.size w wb) := (show _ ∧ _ from by
                  rw [← hwn]
                  have hl := HX.out.lt
                  exact ⟨HP2.out.put HVA.out, put2_below ((((HB.out.drew.trans (HB1.out.mono (by show w.heap.size ≤ wr.heap.size; omega))).trans (HB2.out.mono (by have := HB1.out.size; have h : wr.drew.heap.size = wr.heap.size := rfl; omega))).trans (HB3.out.mono (by have := HB1.out.size; have := HB2.out.size; have h : wr.drew.heap.size = wr.heap.size := rfl; omega))).trans (HBA.out.mono (by have := HB1.out.size; have := HB2.out.size; have := HB3.out.size; have h : wr.drew.heap.size = wr.heap.size := rfl; omega))) (Nat.le_refl _) _ _⟩)
                clear hwn t0 t1 tf0 tf1 HP2 HVA HBA HV3 HB3 HVM HB2 HV1 HB1 v0 v1 HDR HVX x0 x1 HX
                obtain ⟨s6, p6, n6, c6, q0, q1, _, _, HVQ⟩ := HX2.out.1.cells
                obtain ⟨l6, d6, hn6, j6⟩ := num_digits HVQ.out
                have h5 := Nu.len_le_iff j6.1 j6.2.1 5
                rw [← hn6, j6.abs] at h5
                have H5 := Lib.hid h5
                clear d6 hn6 j6 h5
                by_cases hbig : n6 ≤ 5
                · have hb1 : ¬ (5 : Int) < (n6 : Int) := by omega
                  have HX6 : Hid (X * 10 + d < 65536 ^ 5) := (show _ < _ from by have := H5.out.1 hbig; omega)
                  go_wp2_with fail
                  go_roundw
                  case rel => exact ⟨i + 1, X * 10 + d, by go_num, by omega, by omega, HX2.out.1, HN2.out, HX6.out, HX2.out.2⟩
                  case measure => simp [intOf]; omega
                · have hb1 : (5 : Int) < (n6 : Int) := by omega
                  have HR : Hid (r = none) := (show _ = _ from by
                    have h1 : ¬ (X * 10 + d < 65536 ^ 5) := fun h => hbig (H5.out.2 (by omega))
                    have h2 := Nu.num_take_le ds (i + 1 - 0)
                    rw [← HN2.out] at h2
                    have h3 : (9223372036854775808 : Nat) < 65536 ^ 5 := by decide
                    have h4 : Nu.fits (Nu.sgn false (Nu.num ds)) = false := Nu.not_fits_of (by
                      have : (Nu.sgn false (Nu.num ds)).natAbs = Nu.num ds := by unfold Nu.sgn; simp
                      omega)
                    rw [HPARSE.out, h4]
                    rfl)
                  go_wp2_with fail
                  refine bodyPost_ret (results_tmp2 rfl _ _ _) rfl ?_
                  rw [HR.out]
                  exact ⟨rfl, HX2.out.2⟩
            · obtain rfl : i = s.size := by omega
              have HNUM2 : Hid (X = Nu.num ds) := (show _ = _ from by
                rw [HNUM.out, List.take_of_length_le (by rw [HLEN.out]; omega)])
              have HPR : Hid (r = if Nu.fits (Nu.sgn false X) then some (Nu.sgn false X) else none) := (show _ = _ from by rw [HNUM2.out]; exact HPARSE.out)
              have H100 : Hid (X < 65536 ^ 100) := (show _ < _ from Nat.lt_trans HX5.out (by decide +kernel))
              clear HNUM HNUM2 HPARSE hlt
              have H900 : Hid ((Nu.sgn false X).natAbs < 65536 ^ 900) := (show _ < _ from by
                have : (Nu.sgn false X).natAbs = X := by unfold Nu.sgn; simp
                rw [this]
                exact Nat.lt_of_lt_of_le H100.out e19)
              have HX2 : Hid (VarN wr w.heap.size (Nu.sgn false X) ∧ Below w.heap.size w wr) := ⟨HX.out, HB.out⟩
              clear HX HB
              obtain ⟨s6, p6, n6, c6, q0, q1, _, _, HVQ⟩ := HX2.out.1.cells
              cases hf : Nu.fits (Nu.sgn false X) with
              | true =>
                have hint := Int_yes HVQ.out hf H900.out
                have HR : Hid (r = some (Nu.sgn false X)) := (show _ = _ from by rw [HPR.out, hf]; rfl)
                clear hf HPR
                go_wp2_with (go_at_call 18; refine hint.mono ?_; clear hint; rintro e wz ⟨rfl, HZ⟩)
                refine bodyPost_ret (results_tmp2 rfl _ _ _) rfl ?_
                rw [HR.out]
                exact ⟨rfl, HX2.out.2.trans (HZ.out.mono HX2.out.2.size)⟩
              | false =>
                have hint := Int_no HVQ.out hf H900.out
                have HR : Hid (r = none) := (show _ = _ from by rw [HPR.out, hf]; rfl)
                clear hf HPR
                go_wp2_with (go_at_call 18; refine hint.mono ?_; clear hint; rintro e wz ⟨q, rfl, HZ⟩)
                refine bodyPost_ret (results_tmp2 rfl _ _ _) rfl ?_
                rw [HR.out]
                exact ⟨rfl, HX2.out.2.trans (HZ.out.mono HX2.out.2.size)⟩
end Go.Proofs.Ytaekjkihdecmcaa
