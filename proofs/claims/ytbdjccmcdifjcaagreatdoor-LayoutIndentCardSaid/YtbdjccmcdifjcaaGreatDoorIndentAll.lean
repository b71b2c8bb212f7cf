/-
  Lines have tokens just if each that is less far in than the last one is as far in as a block that goes on (layer 2, P2.1), at this program: the tied card of LayoutIndent. No condition.
-/
import Derived.Test.YtbdjccmcdifjcaaGreatDoorShown
import Derived.Test.YtbdjccmcdifjcaaGreatDoorLsAll
import Derived.Deep.DeepCutAuto
import Derived.Deep.CutBlock
import Derived.Test.YtbdjccmcdifjcaaGreatDoorCards
import Derived.Test.YtbdjccmcdifjcaaGreatDoorTie
import Derived.SevenTiedAt
set_option linter.unusedVariables false
set_option linter.unusedSimpArgs false
namespace Go.Proofs.YtbdjccmcdifjcaaGreatDoor
open Go.RowKit Go.Shelf
namespace lawIndent

theorem wide_rem' (n : Int) : (n % 65536).tmod 12 = (Sp.wide n : Int) := by
  rw [Int.tmod_eq_emod_of_nonneg (by omega)]
  unfold Sp.wide
  omega
theorem itemsL_at' (l : List Sp.LineD) (i : Nat) (x : Sp.LineD) (h : l[i]? = some x) (hi : i < 30) : (itemsL (l.take 30))[i]? = some (Sp.wide x.1, x) := by
  unfold itemsL
  rw [List.getElem?_map, List.getElem?_take_of_lt hi, h]
  rfl
theorem drop_at {α : Type} (X : List α) (i : Nat) (x : α) (h : X[i]? = some x) : X.drop i = x :: X.drop (i + 1) := by
  obtain ⟨hi, rfl⟩ := List.getElem?_eq_some_iff.1 h
  exact List.drop_eq_getElem_cons hi
theorem rowI_below {B : Nat} {v : Value} {l : List Nat} {w w' : World} (h : RowI B v l w) (hb : Below w.heap.size w w') : RowI B v l w' := own_below h hb
def lenOf : Value → Nat
  | .slice _ n _ => n
  | _ => 0

set_option maxHeartbeats 16000000 in
set_option maxRecDepth 100000 in
theorem walk (v : Value) (l : List Sp.LineD) (w : World) (ha : ArgLs v l w) (hbd : ∀ x ∈ l, Bnd x) (hl : l.length ≤ maxLen) (hE : Env w) : Calls Tryz.prog 6 #[v] w fun e w' => e = .returned (.bool true) ∧ Below w.heap.size w w' := by
  obtain ⟨i0, hi0, hz0, hz1, hz2⟩ := info_parts infoInt
  have HSH := Lib.hid (shown_any2 w hE)
  have HE := Lib.hid hE
  have hEs := hE.size
  have HA := Lib.hid ha
  have HBD := Lib.hid hbd
  have HSRC : Hid (∀ w', Below w.heap.size w w' → Calls Tryz.prog 16 #[v] w' fun e w'' => ∃ s : ByteArray, e = .returned (.string s) ∧ Hid (s.data.toList = Sp.srcL (itemsL (l.take 30))) ∧ s.size ≤ 20970 ∧ Below w'.heap.size w' w'') := fun w' hb => source_any v l w' (ha.below hb) hbd hl
  obtain ⟨pa, ca, rfl, fa⟩ := ha
  obtain ⟨X, HX⟩ := hid_ex (itemsL (l.take 30))
  have HXn : Hid (X.length = min 30 l.length) := by show _ = _; rw [← HX.out]; unfold itemsL; rw [List.length_map, List.length_take]
  rw [HX.out] at HSRC
  unfold maxLen at hl
  clear hE hbd fa
  go_enter Tryz.func6, Tryz.ntmps6
  go_wp2_with fail
  refine HSH.out.mono ?_
  rintro e w1 ⟨rfl, hb1⟩
  clear HSH
  have HT0 := Lib.hid (HSRC.out w1 hb1)
  clear HSRC
  go_wp2_with fail
  refine HT0.out.mono ?_
  rintro e w2 ⟨sb, rfl, HSB, hss, hb2'⟩
  have HB2 : Hid (Below w.heap.size w w2) := hb1.trans (hb2'.mono hb1.size)
  have HT := Lib.hid (tokens_any sb (by omega) w2 (HE.out.below HB2.out hEs))
  have hsrc := Sp.layL_src X
  rw [← HSB.out] at hsrc
  obtain ⟨N, HN⟩ := hid_ex sb.data.toList.length
  rw [HN.out] at hsrc
  obtain ⟨Y, HY⟩ := hid_ex (Sp.layL sb.data.toList)
  rw [HY.out] at HT hsrc
  have HYS := Lib.hid hsrc
  clear hb1 hb2' HT0 HE hEs HSB hss HY hsrc HN
  go_wp2_with fail
  refine HT.out.mono ?_
  rintro e w3 ⟨hend, hb3'⟩
  have hb3 : Below w.heap.size w w3 := HB2.out.trans (hb3'.mono HB2.out.size)
  obtain ⟨va, p, er, rfl, k1, k2⟩ : ∃ va p er, e = .returned (.tuple #[va, .int .i64 p, .int .i64 er]) ∧ (∀ q c, Y = .error (q, c) → p = q ∧ er = c) ∧ (∀ ts, Y = .ok ts → er = 0) := by
    cases Y with
    | error q =>
      obtain rfl : e = _ := hend
      exact ⟨_, _, _, rfl, fun q c h => by cases h; exact ⟨rfl, rfl⟩, fun ts h => by cases h⟩
    | ok ts =>
      obtain ⟨va, rfl, hr⟩ := hend
      exact ⟨_, _, _, rfl, (fun q c h => by cases h), fun ts h => rfl⟩
  have K1 := Lib.hid k1
  have K2 := Lib.hid k2
  obtain ⟨pa', ca', e', fa⟩ := HA.out
  cases e'
  have FA := Lib.hid fa
  have hw3 : w.heap.size ≤ w3.heap.size := hb3.size
  have HB3 := Lib.hid hb3
  clear HB2 HT hb3' hend k1 k2 HA fa hb3
  go_wp2_with fail
  go_loopw [7, 8, 9] (fun v7 v8 v9 wr => ∃ (i pos : Nat) (st : Sp.LS) (t : Nat) (bs : List Nat) (g cap m : Nat), v9 = .int .i64 (i : Int) ∧ v8 = .int .i64 (pos : Int) ∧ v7 = .slice (some ⟨g, 0, none⟩) (m + 1) cap ∧ i ≤ X.length ∧ pos ≤ 699 * i ∧ m ≤ i ∧ Hid (bs.length = m) ∧ RowI w3.heap.size v7 (t :: bs).reverse wr ∧ Below w3.heap.size w3 wr ∧ Hid (st.opn = []) ∧ Hid (st.blk = t :: bs) ∧ Hid (∃ cs, t :: bs = cs ++ [0]) ∧ Hid (Y = Sp.fin2 N st (Sp.linesOf pos (X.drop i)))) (fun _ _ v9 _ => X.length - (intOf v9).toNat)
  case atStart =>
    refine ⟨0, 0, Sp.st0, 0, [], _, _, 0, rfl, rfl, rfl, Nat.zero_le _, Nat.zero_le _, Nat.zero_le _, rfl, ?_, (Below.refl _ _).alloc (Nat.le_refl _) _, rfl, rfl, ⟨[], rfl⟩, HYS.out⟩
    exact World.ownsRow_lit (base := w3.heap.size) (e := 3) (size := 1) w3 #[.int .i64 0] 1 (Nat.le_refl _) (by decide) rfl
  case round =>
    obtain ⟨i, pos, st, t, bs, g, cap, m, rfl, rfl, rfl, hix, hpos, hbs, HM, hrow, hbel, HO, HBK, HCS, HYI⟩ := hrel
    have hxl := HXn.out
    have hbr : w3.heap.size ≤ wr.heap.size := hbel.size
    have HBW : Hid (Below w.heap.size w wr) := HB3.out.trans (hbel.mono hw3)
    by_cases hlt : i < X.length
    · obtain ⟨x, hx⟩ : ∃ x, l[i]? = some x := ⟨_, List.getElem?_eq_getElem (by omega)⟩
      have hX : X[i]? = some (Sp.wide x.1, x) := by rw [← HX.out]; exact itemsL_at' l i x hx (by omega)
      have hbx := HBD.out x (List.mem_of_getElem? hx)
      obtain ⟨ga, oa, vt, rfl, hga, a0, a1, a2, a3, a4⟩ := FA.out i x hx
      have b0 := (HBW.out.cell (p := ⟨ga, oa + i * 4, none⟩) hga).trans a0
      have b1 := (HBW.out.cell (p := ⟨ga, oa + i * 4 + 1, none⟩) hga).trans a1
      have b2 := (HBW.out.cell (p := ⟨ga, oa + i * 4 + 2, none⟩) hga).trans a2
      have b3 := (HBW.out.cell (p := ⟨ga, oa + i * 4 + 3, none⟩) hga).trans a3
      have b4 := a4.below HBW.out
      clear a1 a3 a4
      have hd := drop_at X i _ hX
      obtain ⟨tb, htb⟩ : ∃ tb : ByteArray, tb = ⟨(Sp.txt x).toArray⟩ := ⟨_, rfl⟩
      have htl : tb.data.toList = Sp.ln (Sp.wide x.1) x := by rw [htb]; rfl
      have htz : tb.size = (Sp.ln (Sp.wide x.1) x).length := by rw [← size_list, htl]
      have hts : tb.size ≤ 698 := by
        rw [htz]
        have h1 := Sp.ln_size (Sp.wide x.1) x
        have h2 := Sp.wide_lt x.1
        omega
      have HT := Lib.hid (ltext_any _ x wr ⟨vt, rfl, b4⟩ hbx)
      rw [← htb] at HT
      have hyi := HYI.out
      rw [hd] at hyi
      have i1 : (i : Int) < (l.length : Int) := by omega
      have i2 : (i : Int) < 30 := by omega
      have hix30 : X.length ≤ 30 := by omega
      have HX1 := Lib.hid hlt
      have hzs : (tb ++ (⟨#[10]⟩ : ByteArray)).size = tb.size + 1 := by
        rw [ByteArray.size_append]
        rfl
      have HYJ := Lib.hid hyi
      have HTZ := Lib.hid htz
      obtain ⟨n0, l0, em, c0⟩ := x
      simp only at a0 a2 b0 b1 b2 b3 HT HTZ HYJ
      clear hyi hd htb htl htz hX hx hbx HX HXn HYI hxl hlt b4 FA HBD
      go_wp2_with fail
      refine HT.out.mono ?_
      rintro e w4 ⟨rfl, hb4⟩
      have hrow4 := rowI_below hrow hb4
      have hbel4 : Below w3.heap.size w3 w4 := hbel.trans (hb4.mono hbr)
      have HBW4 : Hid (Below w.heap.size w w4) := HB3.out.trans (hbel4.mono hw3)
      have d0 := (HBW4.out.cell (p := ⟨ga, oa + i * 4, none⟩) hga).trans a0
      have d2 := (HBW4.out.cell (p := ⟨ga, oa + i * 4 + 2, none⟩) hga).trans a2
      have hbr4 : w3.heap.size ≤ w4.heap.size := hbel4.size
      clear hb4 HT hrow hbel hbr a0 a2 b0 b1 b2 b3 HBW
      cases em with
      | true =>
        have HN1 : Hid (Y = Sp.fin2 N st (Sp.linesOf (pos + tb.size + 1) (X.drop (i + 1)))) := by
          show _ = _
          rw [HYJ.out, Sp.ind_empty HO.out pos _ rfl, HTZ.out]
        have hpn : pos + tb.size + 1 ≤ 699 * (i + 1) := by omega
        clear HYJ HTZ
        go_wp2_with fail
        exact ⟨⟨i + 1, pos + tb.size + 1, st, t, bs, g, cap, m, by go_num, congrArg (Value.int .i64) (by omega), rfl, HX1.out, hpn, by omega, HM, hrow4, hbel4, HO, HBK, HCS, HN1⟩, by have := HX1.out; simp [intOf]; omega⟩
      | false =>
        have hand := i64_and65535 n0
        have hrem := wide_rem' n0
        have hy12 := Sp.wide_lt n0
        obtain ⟨y, Hy⟩ := hid_ex (Sp.wide n0)
        rw [Hy.out] at hrem hy12 HTZ HYJ
        obtain ⟨g2, cap2, eg, hcg, hgw, _, hcells⟩ := RowI.form hrow4 (by simp)
        have hrl : (t :: bs).reverse.length = m + 1 := by rw [List.length_reverse, List.length_cons, HM.out]
        simp only [Value.slice.injEq, Option.some.injEq, Addr.mk.injEq, and_true, true_and] at eg
        obtain ⟨rfl, h99, rfl⟩ := eg
        clear h99
        have hlast : (t :: bs).reverse[m]? = some t := by
          rw [List.reverse_cons, List.getElem?_append_right (by rw [List.length_reverse, HM.out]; omega), List.length_reverse, HM.out]
          simp
        have ht := hcells _ _ hlast
        have hml : m + 1 ≤ 100 := by omega
        have hwm : IntKind.i64.wrap (m : Int) = (m : Int) := IntWalk.i64_in _ (by omega)
        have hm0 : (0 : Int) ≤ (m : Int) := by omega
        have hm2 : (0 : Int) < (m : Int) + 1 := by omega
        have hpn : pos + tb.size + 1 ≤ 699 * (i + 1) := by omega
        rw [hrl] at hcg
        have hm1 : (m : Int) ≤ (cap : Int) := by omega
        by_cases hty : t < y
        · have HST : Hid (∃ st', st'.opn = [] ∧ st'.blk = y :: t :: bs ∧ Y = Sp.fin2 N st' (Sp.linesOf (pos + tb.size + 1) (X.drop (i + 1)))) := by
            obtain ⟨st', s1, s2, s3⟩ := Sp.ind_ok (N := N) HO.out pos (x := (y, n0, l0, false, c0)) (X.drop (i + 1)) rfl (blk := y :: t :: bs) (by rw [HBK.out]; show (if t < y then _ else _); rw [if_pos hty]) rfl
            refine ⟨st', s1, s2, ?_⟩
            rw [HYJ.out, s3, HTZ.out]
          have HCN : Hid (∃ cs, y :: t :: bs = cs ++ [0]) := by
            obtain ⟨cs, hcs⟩ := HCS.out
            exact ⟨y :: cs, by rw [hcs]; rfl⟩
          have HM2 : Hid ((t :: bs).length = m + 1) := by show _ = _; rw [List.length_cons, HM.out]
          have hown : (w4.alloc (.cells #[.int .i64 (y : Int)] 3)).ownsRow w3.heap.size 3 1 (.slice (some ⟨g, 0, none⟩) (m + 1) cap) (t :: bs).reverse.length (intRow (t :: bs).reverse) := World.ownsRow.alloc hrow4 _
          rw [hrl] at hown
          have gty : (t : Int) < (y : Int) := by omega
          clear hrow4 HYJ HTZ HCS HO HBK hlast hcells Hy hrl
          simp only []
          go_wp2_with (at_builtin; refine wpList_append_own _ rfl _ _ 39 rfl w3.heap.size 3 i0 (.int .i64 0) 1 8 Tryz.underlying39 hi0 hz0 hz1 hz2 rfl (by decide) _ _ _ rfl hown ⟨w4.heap.size, 0, none⟩ 1 1 [.int .i64 (y : Int)] rfl rfl ?c1 ?c2 ?c3 ?c4 ?c5 ?_)
          case c1 =>
            intro j u hj
            match j, hj with
            | 0, hj => simp at hj; subst hj; simp [Addr.add]
          case c2 => intro u hu; simp at hu; subst hu; rfl
          case c3 => unfold maxLen; omega
          case c4 => omega
          case c5 => simp; omega
          intro v' w5 hown' hgrow hnil
          obtain ⟨g', cap', rfl⟩ := ownsRow_succ hown'
          have hrow5 : RowI w3.heap.size (.slice (some ⟨g', 0, none⟩) (m + 1 + 1) cap') (y :: t :: bs).reverse w5 := by
            unfold RowI
            rw [List.reverse_cons, List.length_append, List.length_reverse, List.length_cons, HM.out]
            unfold intRow at hown' ⊢
            rw [List.map_append]
            have e9 : (t :: bs).reverse = bs.reverse ++ [t] := List.reverse_cons
            rw [e9]
            exact hown'
          have hbel5 : Below w3.heap.size w3 w5 := (hbel4.alloc hbr4 _).grown hgrow (by simp; omega) (fun j hj => (hown.lt j hj).1)
          obtain ⟨g2, cap2, eg, hcg5, hgw5, _, hcells5⟩ := RowI.form hrow5 (by simp)
          simp only [Value.slice.injEq, Option.some.injEq, Addr.mk.injEq, and_true, true_and] at eg
          obtain ⟨rfl, h99, rfl⟩ := eg
          have hlast5 : (y :: t :: bs).reverse[m + 1]? = some y := by
            rw [List.reverse_cons, List.getElem?_append_right (by rw [List.length_reverse, List.length_cons, HM.out]; omega), List.length_reverse, List.length_cons, HM.out]
            simp
          have hy5 := hcells5 _ _ hlast5
          have hrl5 : (y :: t :: bs).reverse.length = m + 1 + 1 := by rw [List.length_reverse, List.length_cons, List.length_cons, HM.out]
          rw [hrl5] at hcg5
          have hwm5 : IntKind.i64.wrap ((m : Int) + 1) = (m : Int) + 1 := IntWalk.i64_in _ (by omega)
          have hm15 : (m : Int) + 1 ≤ (cap' : Int) := by omega
          clear h99 hown' hgrow hnil hown hbel4 hgw ht hwm hlast5 hcells5 hrl5 HM hm1 hcg HBW4 d0 d2 gty hand hrem
          go_wp2_with fail
          go_loop [7] (fun v7 => v7 = .slice (some ⟨g', 0, none⟩) (m + 1 + 1) cap') (fun _ => 0)
          case atStart => exact rfl
          case round =>
            have hv := hrel
            subst hv
            obtain ⟨st', s1, s2, s3⟩ := HST.out
            have S1 := Lib.hid s1
            have S2 := Lib.hid s2
            have S3 := Lib.hid s3
            clear HST s1 s2 s3
            go_wp2_with fail
            exact ⟨⟨i + 1, pos + tb.size + 1, st', y, t :: bs, g', cap', m + 1, by go_num, congrArg (Value.int .i64) (by omega), rfl, HX1.out, hpn, by omega, HM2, hrow5, hbel5, S1, S2, HCN, S3⟩, by have := HX1.out; simp [intOf]; omega⟩
        · have gty : ¬ (t : Int) < (y : Int) := by omega
          have HROW := Lib.hid hrow4
          clear hrow4 hlast hcells hrl hwm hm1 hcg hm0 hm2 hgw
          simp only []
          go_wp2_with fail
          go_loop [7] (fun v7 => ∃ (b : Nat) (r : List Nat) (k : Nat), v7 = .slice (some ⟨g, 0, none⟩) (k + 1) cap ∧ Hid (r.length = k) ∧ k ≤ m ∧ Hid (RowI w3.heap.size (.slice (some ⟨g, 0, none⟩) (k + 1) cap) (b :: r).reverse w4) ∧ Hid ((Sp.pops y (b :: r)).1 = (Sp.pops y (t :: bs)).1) ∧ Hid (∃ cs, b :: r = cs ++ [0])) (fun v7 => lenOf v7)
          case atStart => exact ⟨t, bs, m, rfl, HM.out, Nat.le_refl _, HROW.out, rfl, HCS.out⟩
          case round =>
            obtain ⟨b, r, k, rfl, HR, hkm, HRW, HPP, HCB⟩ := hrel
            obtain ⟨g2, cap2, eg, hcg, hgw, _, hcells⟩ := RowI.form HRW.out (by simp)
            simp only [Value.slice.injEq, Option.some.injEq, Addr.mk.injEq, and_true, true_and] at eg
            obtain ⟨rfl, h99, rfl⟩ := eg
            have hrl : (b :: r).reverse.length = k + 1 := by rw [List.length_reverse, List.length_cons, HR.out]
            have hlast : (b :: r).reverse[k]? = some b := by
              rw [List.reverse_cons, List.getElem?_append_right (by rw [List.length_reverse, HR.out]; omega), List.length_reverse, HR.out]
              simp
            have hb := hcells _ _ hlast
            rw [hrl] at hcg
            have hkl : k + 1 ≤ 100 := by omega
            have hwm : IntKind.i64.wrap (k : Int) = (k : Int) := IntWalk.i64_in _ (by omega)
            have hm0 : (0 : Int) ≤ (k : Int) := by omega
            have hm2 : (0 : Int) < (k : Int) + 1 := by omega
            have hm1 : (k : Int) ≤ (cap : Int) := by omega
            clear h99 hcells hlast
            by_cases hyb : y < b
            · have gyb : (y : Int) < (b : Int) := by omega
              have HRE : Hid (∃ b' r' k', r = b' :: r' ∧ k = k' + 1 ∧ r'.length = k') := by
                cases r with
                | nil =>
                  obtain ⟨cs, hcs⟩ := HCB.out
                  cases cs with
                  | nil =>
                    have : b = 0 := by simpa using hcs
                    omega
                  | cons c cs => simp at hcs
                | cons b' r' => exact ⟨b', r', r'.length, rfl, by rw [← HR.out]; rfl, rfl⟩
              obtain ⟨b', r', k', h1, h2, h3⟩ := HRE.out
              have hsh := RowI.shrink HRW.out hrl
              have htk : (b :: r).reverse.take k = (b' :: r').reverse := by
                rw [List.reverse_cons, List.take_left' (by rw [List.length_reverse, HR.out]), h1]
              rw [htk, h2] at hsh
              have HSH := Lib.hid hsh
              have HP2 : Hid ((Sp.pops y (b' :: r')).1 = (Sp.pops y (t :: bs)).1) := by
                show _ = _
                rw [← HPP.out, h1]
                conv => rhs; rw [Sp.pops, if_pos hyb]
              have HC2 : Hid (∃ cs, b' :: r' = cs ++ [0]) := by
                obtain ⟨cs, hcs⟩ := HCB.out
                rw [h1] at hcs
                cases cs with
                | nil => simp at hcs
                | cons c cs => exact ⟨cs, (List.cons.inj hcs).2⟩
              have H3 := Lib.hid h3
              have HK : Hid (k = k' + 1) := h2
              clear HRE h1 h2 h3 hsh htk HPP HCB HRW HR hrl
              go_wp2_with fail
              obtain rfl := HK.out
              exact ⟨⟨b', r', k', rfl, H3, by omega, HSH, HP2, HC2⟩, by show k' + 1 < k' + 1 + 1; omega⟩
            · have gyb : ¬ (y : Int) < (b : Int) := by omega
              have HPB : Hid ((Sp.pops y (t :: bs)).1 = b :: r) := by
                show _ = _
                rw [← HPP.out, Sp.pops, if_neg hyb]
              by_cases hye : y = b
              · have gye : ((y : Int) != (b : Int)) = false := by simp; omega
                have HST : Hid (∃ st', st'.opn = [] ∧ st'.blk = b :: r ∧ Y = Sp.fin2 N st' (Sp.linesOf (pos + tb.size + 1) (X.drop (i + 1)))) := by
                  obtain ⟨st', s1, s2, s3⟩ := Sp.ind_ok (N := N) HO.out pos (x := (y, n0, l0, false, c0)) (X.drop (i + 1)) rfl (blk := b :: r) (by rw [HBK.out]; show (if t < y then _ else _); rw [if_neg hty]; exact HPB.out.symm) hye.symm
                  refine ⟨st', s1, s2, ?_⟩
                  rw [HYJ.out, s3, HTZ.out]
                obtain ⟨st', s1, s2, s3⟩ := HST.out
                have S1 := Lib.hid s1
                have S2 := Lib.hid s2
                have S3 := Lib.hid s3
                have HKI : Hid (k ≤ i + 1) := by show _ ≤ _; omega
                clear HST s1 s2 s3 HPB HPP HO HBK HYJ HTZ hye HM HROW hrl
                go_wp2_with fail
                exact ⟨⟨i + 1, pos + tb.size + 1, st', b, r, g, cap, k, by go_num, congrArg (Value.int .i64) (by omega), rfl, HX1.out, hpn, HKI.out, HR, HRW.out, hbel4, S1, S2, HCB, S3⟩, by have := HX1.out; simp [intOf]; omega⟩
              · have gye : ((y : Int) != (b : Int)) = true := by simp; omega
                have hK := K1.out ((pos + y : Nat) : Int) 20 (by
                  rw [HYJ.out]
                  refine Sp.ind_odd HO.out pos (x := (y, n0, l0, false, c0)) _ rfl ?_ ?_
                  · rw [HBK.out]; exact hty
                  · rw [HBK.out, HPB.out]; exact fun h => hye h.symm)
                obtain ⟨rfl, rfl⟩ := hK
                clear HPB HPP HO HBK HYJ HTZ hye HM HROW hrl K1 K2 HCS HCB HR HRW
                go_wp2_with fail
                go_ret
                exact ⟨rfl, HBW4.out⟩
    · obtain rfl : i = X.length := by omega
      have hg : ¬ (X.length : Int) < (l.length : Int) ∨ ((X.length : Int) < (l.length : Int) ∧ ¬ (X.length : Int) < 30) := by omega
      have her : er = 0 := by
        have h := HYI.out
        rw [List.drop_length] at h
        exact K2.out _ (h.trans (Sp.fin2_last HO.out N pos))
      subst her
      have HBN : Hid (Below w.heap.size w wr) := HBW.out
      clear FA HX HXn hxl hlt HYI HO HBK HCS hrow hbel K1 K2 HBD
      rcases hg with h1 | ⟨h1, h2⟩
      all_goals
        go_wp2_with fail
        go_ret
        exact ⟨rfl, HBN.out⟩
end lawIndent
end Go.Proofs.YtbdjccmcdifjcaaGreatDoor

set_option linter.unusedVariables false
set_option linter.unusedSimpArgs false
namespace Go.Proofs.YtbdjccmcdifjcaaGreatDoor
namespace lawIndent
open Go.ChangeShapes Go.WideShapes Go.ChangeAt Go.WideMaps Go.WideElems Go.RowKit
open Go.ChangeMaps (open_string shut_string)
open A2

set_option maxRecDepth 100000 in
theorem lifted (os : Os) (started : os.Started) (H : Type) (enc : TypeId × Value → H) :
    ReturnsInHanded {} Tryz.checked os 6 .any (fun w args => (Rows.layoutIndentSpec.pre enc Tryz.prog Tryz.f6 [] false w args ∧ laidMetH Tryz.prog laidL w) ∧ sizedMet enc Tryz.prog Tryz.f6 (OpenSpec.ofChange Rows.layoutIndentSpec) false w args)
      (Rows.layoutIndentSpec.post enc Tryz.prog Tryz.f6 false true false false) := by
  refine handed_both (C := Tryz.checked) (X := fun w _ => laidMetH Tryz.prog laidL w) (fun _ _ _ hh h => h.of_heap hh) own started (by kernel_rfl) Tryz.func6
    (ChangeSpec.witness_shaped (enc := enc) (C := Tryz.checked) (os := os) (X := fun w _ => laidMetH Tryz.prog laidL w) false (World.laidAll Tryz.prog os laidL) #[.slice none 0 0] 8 (door_os os) (door_shaped os _) (by kernel_rfl) (by kernel_rfl) (by kernel_rfl) (door_met os _)) ?_
  intro W base args ds gs before hval0 hW _ _ hL hsh _
  have hval : ∀ (j : Nat) t v, Tryz.f6.params[j]? = some t → args[j]? = some v → Value.okWide Tryz.prog W .any base t v := hval0
  have hW' := hW
  obtain ⟨p, q, hA0, hV, rfl, hfz, hnd⟩ := hW
  have hA : DataW.TrodAll enc Tryz.prog W 0 (fun _ => true) true Tryz.f6.params.toList args.toList ds p := hA0
  rw [Tryz.params6] at hA hval
  obtain ⟨v0, d0, rfl, rfl, h0⟩ := trodAll_one hA
  obtain ⟨rfl, rfl⟩ := trodVars_none hV
  have h0k := h0
  obtain ⟨x0, a0, n0, b0⟩ := lines_of (hval 0 22 v0 rfl rfl) h0
  clear hA0 hval0
  simp only [List.append_nil] at hW'
  refine (walk v0 x0 W a0 b0 n0 (env_of hL hsh)).mono fun e W' ⟨he, hb⟩ => ?_
  subst he
  have hlt : ∀ x ∈ p, x.block < W.heap.size := fun x hx => hW'.lt x (by simpa using hx)
  exact ⟨_, rfl, post_true_at hW' (by kernel_rfl) rfl rfl rfl rfl (by have h := trodAll_mk1 (Below.trod laidOut (by kernel_rfl) (of_decide_eq_true (by kernel_rfl)) h0k hb (fun x hx => hlt x (by simp [hx]))); (try simp only [List.append_nil, List.nil_append] at h); exact h) hb⟩

theorem row_holds : Rows.LayoutIndentSaid :=
  OpenClaim.holds_of_wide 6 Tryz.f6 rfl rfl rfl rfl rfl rfl rfl ⟨rfl, rfl, rfl, rfl, rfl⟩ rfl rfl rfl rfl rfl (by kernel_rfl) Tryz.func6 (by kernel_rfl)
    (of_decide_eq_true (by kernel_rfl)) (by unfold Func.isWrapper; first | (rw [if_pos (by decide +kernel)]; kernel_rfl) | (rw [if_neg (by decide +kernel)]; exact ⟨rfl, rfl⟩))
    (fun os started H enc _ => lifted os started H enc)

theorem card_holds : Rows.LayoutIndentCardSaid :=
  Claim7.holds_tied_plain_at .later [] [.data, .data, .data, .data, .sentinel, .sentinel, .data, .pinned] true (true, "88ce31af55d7e15b8eb372d6691e0e677d11b1df154c7967afde70b805ca128e") true
    row_holds (fun _ h => by cases h) (by kernel_rfl) (fun _ h => by cases h) layoutIndent_row_tie rfl ⟨rfl, rfl⟩ (by kernel_rfl) rfl
    (fun f fn hf hfn => by
      obtain rfl : f = 6 := Option.some.inj ((show Tryz.prog.funcNamed "krait/kraitlaw02.LayoutIndent" = some 6 by kernel_rfl).symm.trans hf) |>.symm
      obtain rfl : fn = Tryz.f6 := (Option.some.inj (Tryz.func6.symm.trans hfn)).symm
      exact ⟨by kernel_rfl, fun j t ht => by
        rw [Tryz.params6] at ht
        have hm : t ∈ [22] := by simpa using Array.mem_of_getElem? ht
        have hall : ([22].all fun u => !Tryz.prog.wantsStandIn u) = true := by kernel_rfl
        exact (show Tryz.prog.wantsStandIn t = false by simpa using List.all_eq_true.1 hall t hm)⟩)
    (by kernel_rfl)
end lawIndent
end Go.Proofs.YtbdjccmcdifjcaaGreatDoor
