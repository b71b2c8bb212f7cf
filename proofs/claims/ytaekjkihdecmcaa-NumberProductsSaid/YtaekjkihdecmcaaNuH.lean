/-
  The reference's products, at this program.
-/
import Derived.Test.YtaekjkihdecmcaaNuG
import Derived.BigQuiet
set_option linter.unusedVariables false
set_option linter.unusedSimpArgs false
namespace Go.Proofs.Ytaekjkihdecmcaa
open Go.RowKit

theorem make_ints (N : Nat) (hN : N ≤ 1000000) (w : World) : (Instr.makeSlice 29 (.int .i64 (N : Int)) (.int .i64 (N : Int))).run Try.prog w = .ok (.slice (some ⟨w.heap.size, 0, none⟩) N N) (w.alloc (.cells (madeCells #[.int .i64 0] N) 3)) := by
  obtain ⟨i0, hi, hz0, hz1, hz2⟩ := info_parts infoInt
  have h := run_makeSlice (P := Try.prog) (w := w) 29 3 i0 _ Try.underlying29 hi hz0 .i64 .i64 (N : Int) (N : Int) (by omega) (by omega) (by rw [hz1]; simp; omega) (by rw [hz2]; omega) (by omega)
  rw [hz1] at h
  simp only [Int.toNat_natCast, Nat.mul_one] at h
  exact h
theorem own_made (w : World) (N base : Nat) (hb : base ≤ w.heap.size) (hN : N ≤ 1000000) (b : Nat) (e : w.heap.size = b) : (w.alloc (.cells (madeCells #[.int .i64 0] N) 3)).ownsRow base 3 1 (.slice (some ⟨b, 0, none⟩) N N) N ((List.replicate N 0).map dI) := by
  subst e
  have := World.ownsRow_lit (base := base) (e := 3) (size := 1) w (madeCells #[.int .i64 0] N) N hb (by unfold maxLen; omega) (by rw [size_madeCells]; omega)
  rw [toList_madeCells_one] at this
  rw [List.map_replicate]
  exact this

theorem mul_set {wq : World} {base b N j q : Nat} {out : List Nat} (h : wq.ownsRow base 3 1 (.slice (some ⟨b, 0, none⟩) N N) N (out.map dI)) : (wq.setCell ⟨b, j, none⟩ (dI q)).ownsRow base 3 1 (.slice (some ⟨b, 0, none⟩) N N) N ((out.set j q).map dI) := by
  rw [List.map_set]
  exact (h.stored j (dI q)).1

theorem own_heap {w w' : World} {base n sz : Nat} {T : TypeId} {v : Value} {xs : List Value} (e : w'.heap = w.heap) (h : w.ownsRow base T sz v n xs) : w'.ownsRow base T sz v n xs := by
  unfold World.ownsRow at h ⊢
  rw [e]
  exact h
theorem below_heap {B : Nat} {a w w' : World} (h : Below B a w) (e : w'.heap = w.heap) (e1 : w'.os = w.os) (e2 : w'.tape = w.tape) (e3 : w'.output = w.output) : Below B a w' := ⟨e1.trans h.os, e2.trans h.tape, e3.trans h.output, by rw [e]; exact h.size, fun k hk => by rw [e]; exact h.block k hk⟩

set_option maxHeartbeats 8000000 in
theorem Mul_num (va vb : Value) (x y : Int) (w : World) (ha : NumV va x w) (hb : NumV vb y w) (hx : x.natAbs < 65536 ^ 400) (hy : y.natAbs < 65536 ^ 400) :
    Calls Try.prog 27 #[va, vb] w fun e w' => ∃ v', e = .returned v' ∧ NumV v' (x * y) w' ∧ Below w.heap.size w w' := by
  obtain ⟨sa, pa, na, ca, la, rfl, da, hna, ja⟩ := ha.form
  obtain ⟨sb, pb, nb, cb, lb, rfl, db, hnb, jb⟩ := hb.form
  have lla := says_len ja hx
  have llb := says_len jb hy
  rw [← hna] at lla
  rw [← hnb] at llb
  have hF := W3_facts w sa (.slice pa na ca) sb (.slice pb nb cb)
  have hbW := W3_below w sa (.slice pa na ca) sb (.slice pb nb cb)
  have hsW := W3_size w sa (.slice pa na ca) sb (.slice pb nb cb)
  obtain ⟨W, hW⟩ : ∃ W, W = W3 w sa (.slice pa na ca) sb (.slice pb nb cb) := ⟨_, rfl⟩
  rw [← hW] at hF hbW hsW
  have hown := own_made W (na + nb + 1) (w.heap.size + 3) (by omega) (by omega) (w.heap.size + 3) hsW
  have hbel0 : Below (w.heap.size + 3) W (W.alloc (.cells (madeCells #[.int .i64 0] (na + nb + 1)) 3)) := (Below.refl _ W).alloc (by omega) _
  have HOWN := Lib.hid hown
  have HBEL0 := Lib.hid hbel0
  have HF := Lib.hid hF
  have HJA := Lib.hid ja
  have HJB := Lib.hid jb
  have HBW := Lib.hid hbW
  have HSW := Lib.hid hsW
  have HLA := Lib.hid hna
  have HLB := Lib.hid hnb
  have DA := Lib.hid da
  have DB := Lib.hid db
  unfold W3 at hW
  clear ha hb hx hy hF hbW hna hnb ja jb hown hbel0 hsW
  obtain ⟨k0, k1, k2, k3, kR, kB, kS⟩ := HF.out W (Below.refl _ _)
  clear kR kB da db
  rw [hW] at k0 k1 k2 k3
  go_enter Try.func27, Try.ntmps27
  have hmk := make_ints (na + nb + 1) (by omega)
  rw [show ((na + nb + 1 : Nat) : Int) = (na : Int) + (nb : Int) + 1 by omega] at hmk
  rw [hW] at HOWN HBEL0 HF
  have HW := Lib.hid hW
  clear hW
  go_wp2_with fail
  go_loopw [6] (fun v6 wr => ∃ (i : Nat) (out : List Nat), v6 = .int .i64 (i : Int) ∧ i ≤ na ∧ Hid (out.length = na + nb + 1) ∧ Hid (wr.ownsRow (w.heap.size + 3) 3 1 (.slice (some ⟨w.heap.size + 1 + 1 + 1, 0, none⟩) (na + nb + 1) (na + nb + 1)) (na + nb + 1) (out.map dI)) ∧ Hid (Nu.Dg out) ∧ Hid (Nu.val out = Nu.valTo la i * Nu.val lb) ∧ Hid (Below (w.heap.size + 3) (((w.alloc (.cells #[.bool sa, .slice pa na ca] 31)).alloc (.cells #[.bool sb, .slice pb nb cb] 31)).alloc (.cells #[.bool false, .slice none 0 0] 31)) wr)) (fun v6 _ => na - (intOf v6).toNat)
  case atStart => exact ⟨0, List.replicate (na + nb + 1) 0, rfl, Nat.zero_le _, (show _ = _ by simp), HOWN.out, (show Nu.Dg _ from Nu.dg_zeros _), (show _ = _ by rw [Nu.val_zeros]; simp [Nu.valTo]), HBEL0.out⟩
  case round =>
    obtain ⟨i, out, rfl, hi, HLO, HO, HD, HV, HB⟩ := hrel
    obtain ⟨p0, p1, p2, p3, pR, pB, pS⟩ := HF.out wr HB.out
    clear pR pB HOWN HBEL0 k0 k1 k2 k3 kS
    by_cases hlt : i < na
    · obtain ⟨d, hdd⟩ : ∃ d, la[i]? = some d := ⟨_, List.getElem?_eq_getElem (by rw [← HLA.out]; exact hlt)⟩
      have HX : Hid (Nu.dig la i = d) := (show _ = _ by unfold Nu.dig; rw [hdd]; rfl)
      have hd := HJA.out.1 d (List.mem_of_getElem? hdd)
      rcases DA.out with ⟨e1, e2⟩ | ⟨g, o, cap, e1, hg, hcap, hcs⟩
      · rw [e2] at hdd; simp at hdd
      injection e1 with e1 e2 e3
      subst e1
      subst e3
      have ad := hcs i d hdd
      have AD := Lib.hid ad
      clear hcs hdd e2 hcap ad
      have hin : (i : Int) < (na : Int) := by omega
      obtain ⟨wi, hwi⟩ : ∃ wi, wi = wr := ⟨_, rfl⟩
      go_wp2_with fail
      go_loopw [7, 8] (fun v7 v8 wq => ∃ (carry k : Nat) (out : List Nat), v7 = .int .i64 (carry : Int) ∧ v8 = .int .i64 (k : Int) ∧ k ≤ nb + 1 ∧ carry ≤ 65535 ∧ (0 < carry → k ≤ nb) ∧ Hid (out.length = na + nb + 1) ∧ Hid (wq.ownsRow (w.heap.size + 3) 3 1 (.slice (some ⟨w.heap.size + 1 + 1 + 1, 0, none⟩) (na + nb + 1) (na + nb + 1)) (na + nb + 1) (out.map dI)) ∧ Hid (Nu.Dg out) ∧ Hid (Nu.val out + carry * 65536 ^ (i + k) = Nu.valTo la i * Nu.val lb + d * Nu.valTo lb k * 65536 ^ i) ∧ Hid (Below (w.heap.size + 3) (((w.alloc (.cells #[.bool sa, .slice (some ⟨g, o, none⟩) na ca] 31)).alloc (.cells #[.bool sb, .slice pb nb cb] 31)).alloc (.cells #[.bool false, .slice none 0 0] 31)) wq)) (fun _ v8 _ => nb + 1 - (intOf v8).toNat)
      case atStart => exact ⟨0, 0, out, rfl, rfl, by omega, by omega, by omega, HLO.out, HO.out, HD.out, (show _ = _ by rw [HV.out]; simp [Nu.valTo]), HB.out⟩
      case round =>
        clear hwi HLO HO HD HV HB p0 p1 p2 p3 pS
        obtain ⟨carry, k, out, rfl, rfl, hk, hc, hck, HLO, HO, HD, HV, HB⟩ := hrel
        obtain ⟨p0, p1, p2, p3, pR, pB, pS⟩ := HF.out wr HB.out
        have aq := (pB.cell (p := ⟨g, o + i, none⟩) hg).trans AD.out
        have DB2 := Lib.hid (DB.out.below pB)
        clear pR pB
        obtain ⟨y, HY⟩ := hid_ex (Nu.dig lb k)
        have hy := Nu.dig_lt HJB.out.1 k
        rw [HY.out] at hy
        by_cases hgo : k < nb ∨ 0 < carry
        · obtain ⟨q, hq⟩ : ∃ q, out[i + k]? = some q := ⟨_, List.getElem?_eq_getElem (by rw [HLO.out]; omega)⟩
          have HQ : Hid (Nu.dig out (i + k) = q) := (show _ = _ by unfold Nu.dig; rw [hq]; rfl)
          have hqlt := HD.out q (List.mem_of_getElem? hq)
          have ao : wr.cell? ⟨w.heap.size + 1 + 1 + 1, i + k, none⟩ = some (dI q) := by
            obtain ⟨g', e, _, _, h⟩ := own_cellD HO.out hq
            injection e with e
            injection e with e
            rw [e]; exact h
          have fo : wr.frozen? ⟨w.heap.size + 1 + 1 + 1, i + k, none⟩ = false := HO.out.frozenAt _
          obtain ⟨P, hP⟩ : ∃ P, P = d * y := ⟨_, rfl⟩
          have eP : (d : Int) * (y : Int) = (P : Int) := by rw [hP]; simp
          have hPb : P ≤ 65535 * 65535 := by rw [hP]; exact Nat.mul_le_mul (by omega) (by omega)
          have HP := Lib.hid hP
          have hik : i + k < na + nb + 1 := by omega
          have KB : 0 < (q + P + carry) / 65536 → k + 1 ≤ nb := fun hc0 => by
            have hkb : ¬ nb ≤ k := fun hge => by
              have := Nu.mul_fits (a := la) (b := lb) (out := out.set (i + k) ((q + P + carry) % 65536)) (i := i) (k := k + 1) HJA.out.1 HJB.out.1 hc0 (by rw [← HLB.out]; omega) (by
                have := Nu.mul_step (a := la) (b := lb) (out := out) (i := i) (k := k) (carry := carry) (X := q + P + carry) (by rw [HLO.out]; omega) (by rw [HQ.out, HX.out, HY.out, HP.out]) (by rw [HX.out]; exact HV.out)
                exact this)
              rw [← HLB.out] at this
              omega
            omega
          have HKB := Lib.hid KB
          clear hP hq KB
          by_cases hkn : k < nb
          · have hkn2 : (k : Int) < (nb : Int) := by omega
            go_wp2_with fail
            go_quiet ((go_at_call 33; exact Calls.quiet_of_same (digit_is DB2.out (by rw [← HLB.out]; omega) (by omega) HY)))
            generalize hwz : World.drewN wr _ = wz
            have HOz := Lib.hid (own_heap (by rw [← hwz]; simp) HO.out (w' := wz))
            have HBz := Lib.hid (below_heap HB.out (w' := wz) (by rw [← hwz]; simp) (by rw [← hwz]; first | rfl | simp) (by rw [← hwz]; first | rfl | simp) (by rw [← hwz]; first | rfl | simp))
            have az : wz.cell? ⟨w.heap.size + 1 + 1 + 1, i + k, none⟩ = some (dI q) := by rw [← hwz]; simpa using ao
            have fz : wz.frozen? ⟨w.heap.size + 1 + 1 + 1, i + k, none⟩ = false := HOz.out.frozenAt _
            clear hwz ao fo p0 p1 p2 p3
            have HO2 := mul_set (j := i + k) (q := (q + P + carry) % 65536) HOz.out
            have HB2 : Hid (Below (w.heap.size + 3) _ (wz.setCell ⟨w.heap.size + 1 + 1 + 1, i + k, none⟩ (.int .i64 (((q : Int) + (P : Int) + (carry : Int)) % 65536)))) := (show Below _ _ _ from HBz.out.setCell (p := ⟨w.heap.size + 1 + 1 + 1, i + k, none⟩) (by show w.heap.size + 3 ≤ w.heap.size + 1 + 1 + 1; omega) _)
            have eX : ((q : Int) + (P : Int) + (carry : Int)) % 65536 = (((q + P + carry) % 65536 : Nat) : Int) := by omega
            have HO3 : Hid ((wz.setCell ⟨w.heap.size + 1 + 1 + 1, i + k, none⟩ (.int .i64 (((q : Int) + (P : Int) + (carry : Int)) % 65536))).ownsRow (w.heap.size + 3) 3 1 (.slice (some ⟨w.heap.size + 1 + 1 + 1, 0, none⟩) (na + nb + 1) (na + nb + 1)) (na + nb + 1) ((out.set (i + k) ((q + P + carry) % 65536)).map dI)) := (show World.ownsRow _ _ _ _ _ _ _ by rw [eX]; exact HO2)
            have HV2 : Hid (Nu.val (out.set (i + k) ((q + P + carry) % 65536)) + (q + P + carry) / 65536 * 65536 ^ (i + (k + 1)) = Nu.valTo la i * Nu.val lb + d * Nu.valTo lb (k + 1) * 65536 ^ i) := (show _ = _ by
              have := Nu.mul_step (a := la) (b := lb) (out := out) (i := i) (k := k) (carry := carry) (X := q + P + carry) (by rw [HLO.out]; omega) (by rw [HQ.out, HX.out, HY.out, HP.out]) (by rw [HX.out]; exact HV.out)
              rw [HX.out] at this
              exact this)
            have HD2 : Hid (Nu.Dg (out.set (i + k) ((q + P + carry) % 65536))) := (show Nu.Dg _ from Nu.dg_set HD.out (by omega))
            clear HO2 eX
            go_wp2_with fail
            go_roundw
            case rel => exact ⟨(q + P + carry) / 65536, k + 1, _, by go_num, by go_num, by omega, by omega, HKB.out, (show _ = _ by rw [List.length_set]; exact HLO.out), HO3.out, HD2.out, HV2.out, HB2.out⟩
            case measure => simp [intOf]; omega
          · have hkn2 : ¬ (k : Int) < (nb : Int) := by omega
            have hc0 : (0 : Int) < (carry : Int) := by omega
            go_wp2_with fail
            go_quiet ((go_at_call 33; exact Calls.quiet_of_same (digit_is DB2.out (by rw [← HLB.out]; omega) (by omega) HY)))
            generalize hwz : World.drewN wr _ = wz
            have HOz := Lib.hid (own_heap (by rw [← hwz]; simp) HO.out (w' := wz))
            have HBz := Lib.hid (below_heap HB.out (w' := wz) (by rw [← hwz]; simp) (by rw [← hwz]; first | rfl | simp) (by rw [← hwz]; first | rfl | simp) (by rw [← hwz]; first | rfl | simp))
            have az : wz.cell? ⟨w.heap.size + 1 + 1 + 1, i + k, none⟩ = some (dI q) := by rw [← hwz]; simpa using ao
            have fz : wz.frozen? ⟨w.heap.size + 1 + 1 + 1, i + k, none⟩ = false := HOz.out.frozenAt _
            clear hwz ao fo p0 p1 p2 p3
            have HO2 := mul_set (j := i + k) (q := (q + P + carry) % 65536) HOz.out
            have HB2 : Hid (Below (w.heap.size + 3) _ (wz.setCell ⟨w.heap.size + 1 + 1 + 1, i + k, none⟩ (.int .i64 (((q : Int) + (P : Int) + (carry : Int)) % 65536)))) := (show Below _ _ _ from HBz.out.setCell (p := ⟨w.heap.size + 1 + 1 + 1, i + k, none⟩) (by show w.heap.size + 3 ≤ w.heap.size + 1 + 1 + 1; omega) _)
            have eX : ((q : Int) + (P : Int) + (carry : Int)) % 65536 = (((q + P + carry) % 65536 : Nat) : Int) := by omega
            have HO3 : Hid ((wz.setCell ⟨w.heap.size + 1 + 1 + 1, i + k, none⟩ (.int .i64 (((q : Int) + (P : Int) + (carry : Int)) % 65536))).ownsRow (w.heap.size + 3) 3 1 (.slice (some ⟨w.heap.size + 1 + 1 + 1, 0, none⟩) (na + nb + 1) (na + nb + 1)) (na + nb + 1) ((out.set (i + k) ((q + P + carry) % 65536)).map dI)) := (show World.ownsRow _ _ _ _ _ _ _ by rw [eX]; exact HO2)
            have HV2 : Hid (Nu.val (out.set (i + k) ((q + P + carry) % 65536)) + (q + P + carry) / 65536 * 65536 ^ (i + (k + 1)) = Nu.valTo la i * Nu.val lb + d * Nu.valTo lb (k + 1) * 65536 ^ i) := (show _ = _ by
              have := Nu.mul_step (a := la) (b := lb) (out := out) (i := i) (k := k) (carry := carry) (X := q + P + carry) (by rw [HLO.out]; omega) (by rw [HQ.out, HX.out, HY.out, HP.out]) (by rw [HX.out]; exact HV.out)
              rw [HX.out] at this
              exact this)
            have HD2 : Hid (Nu.Dg (out.set (i + k) ((q + P + carry) % 65536))) := (show Nu.Dg _ from Nu.dg_set HD.out (by omega))
            clear HO2 eX
            go_wp2_with fail
            go_roundw
            case rel => exact ⟨(q + P + carry) / 65536, k + 1, _, by go_num, by go_num, by omega, by omega, HKB.out, (show _ = _ by rw [List.length_set]; exact HLO.out), HO3.out, HD2.out, HV2.out, HB2.out⟩
            case measure => simp [intOf]; omega
        · obtain rfl : carry = 0 := by omega
          have HROW : Hid (Nu.val out = Nu.valTo la (i + 1) * Nu.val lb) := (show _ = _ from Nu.mul_row (a := la) (b := lb) (i := i) (k := k) (by rw [← HLB.out]; omega) (by rw [HX.out]; exact HV.out))
          have hkn2 : ¬ (k : Int) < (nb : Int) := by omega
          clear hgo HV
          go_wp2_with fail
          go_roundw
          case rel => exact ⟨i + 1, out, by go_num, by omega, HLO.out, HO.out, HD.out, HROW.out, HB.out⟩
          case measure => simp [intOf]; omega
    · obtain rfl : i = na := by omega
      have HV2 : Hid (Nu.val out = Nu.val la * Nu.val lb) := (show _ = _ by rw [HV.out]; congr 1; rw [HLA.out]; rfl)
      obtain ⟨p0, p1, p2, p3, pR, pB, pS⟩ := HF.out wr HB.out
      have PB := Lib.hid pB
      have hw := whole_is (s := !(sa == sb)) (z := x * y) (own_drow HO.out) HD.out (by rw [HLO.out]; omega) (by rw [HV2.out]; show Nu.sgn (sa != sb) _ = _; rw [← Nu.sgn_mul, ← HJA.out.2.2.1, ← HJB.out.2.2.1])
      have HRR : Hid (∀ w2, Below wr.heap.size wr w2 → w2.heap[w.heap.size + 2]? = some (.cells #[.bool false, .slice none 0 0] 31)) := (show ∀ _, _ from fun w2 h2 => (h2.block _ (by omega)).trans pR)
      clear pR pB HV hlt
      go_wp2_with (go_at_call 30; refine hw.mono ?_; clear hw; rintro e wv ⟨s', pv, nv, cv, rfl, HVV, HBV⟩; obtain ⟨HQ, c0, c1, f0, f1⟩ := num_cells (HRR.out wv HBV.out))
      refine ret_num rfl _ _ (w.heap.size + 2) _ _ _ rfl (num_set HQ.out) ?_
      exact ⟨_, rfl, num_stored HVV.out HQ.out (fun d e => by cases e), below_stored (PB.out.trans (HBV.out.mono PB.out.size)) (by omega) _ _⟩
end Go.Proofs.Ytaekjkihdecmcaa
