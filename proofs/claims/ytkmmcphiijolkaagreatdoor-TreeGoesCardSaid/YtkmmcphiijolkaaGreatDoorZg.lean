/-
  Texts of the tree package put behind one another: TreeKK, TreeO, TreeU, TreeV.
-/
import Derived.Test.YtkmmcphiijolkaaGreatDoorZf
import Derived.BigQuiet
import Derived.Test.YtkmmcphiijolkaaGreatDoorZb
import Derived.StillTailTactics
import Derived.Laws.Rows
set_option linter.unusedVariables false
set_option linter.unusedSimpArgs false
namespace Go.Proofs.YtkmmcphiijolkaaGreatDoor
open Go.RowKit Go.Shelf
open Tr

theorem own_below {base n sz : Nat} {T : TypeId} {v : Value} {xs : List Value} {w w' : World} (h : w.ownsRow base T sz v n xs) (hb : Below w.heap.size w w') : w'.ownsRow base T sz v n xs := by
  refine ⟨h.1, ?_⟩
  rcases h.2 with e | ⟨g, cap, cur, e, hg, hgb, r⟩
  · exact Or.inl e
  · exact Or.inr ⟨g, cap, cur, e, hg, (hb.block g (Array.getElem?_eq_some_iff.1 hgb).1).trans hgb, r⟩
end Go.Proofs.YtkmmcphiijolkaaGreatDoor

set_option linter.unusedVariables false
set_option linter.unusedSimpArgs false
namespace Go.Proofs.YtkmmcphiijolkaaGreatDoor
open Go.RowKit Go.Shelf
open Tr

theorem greedy_le (ok : Int → Bool) : ∀ (m : Nat) (l : List Int), greedy ok m l ≤ l.length
  | _, [] => Nat.le_refl _
  | m, k :: l => by
    unfold greedy
    split
    · have := greedy_le ok (m - 1) l
      simp only [List.length_cons]
      omega
    · simp
theorem greedy_stop (ok : Int → Bool) (m : Nat) (l : List Int) (h : m = 0 ∨ l = [] ∨ ∃ k r, l = k :: r ∧ ok k = false) : greedy ok m l = 0 := by
  cases l with
  | nil => rfl
  | cons k r =>
    unfold greedy
    rw [if_neg]
    rintro ⟨h1, h2⟩
    rcases h with h | h | ⟨k', r', h, h3⟩
    · omega
    · cases h
    · injection h with e1 e2
      subst e1
      rw [h2] at h3
      cases h3
theorem greedy_go (ok : Int → Bool) (m : Nat) (k : Int) (r : List Int) (hm : 0 < m) (h : ok k = true) : greedy ok m (k :: r) = greedy ok (m - 1) r + 1 := by
  rw [greedy, if_pos ⟨hm, h⟩]
theorem box3 {wr : World} {a b c : Value} {T : TypeId} {N : Nat} {fr : Nat × Nat} (h : wr.heap[N]? = some (.cells #[a, b, c] T fr)) : wr.cell? ⟨N, 0, none⟩ = some a ∧ wr.cell? ⟨N, 1, none⟩ = some b ∧ wr.cell? ⟨N, 2, none⟩ = some c := by
  simp [World.cell?, h]

theorem heap_drewN' (w : World) (n : Nat) : (w.drewN n).heap = w.heap := by simp
theorem below_drewN {B : Nat} {a w : World} (h : Below B a w) (n : Nat) : Below B a (w.drewN n) := ⟨h.os, h.tape, h.output, h.size, h.block⟩
theorem cell_lt {w : World} {a : Addr} {v : Value} (h : w.cell? a = some v) : a.block < w.heap.size := by
  unfold World.cell? at h
  rcases Nat.lt_or_ge a.block w.heap.size with h1 | h1
  · exact h1
  · rw [Array.getElem?_eq_none h1] at h; simp at h

set_option maxHeartbeats 16000000 in
set_option maxRecDepth 100000 in
theorem of1_any (f : Sp.Bs → Bool) (ps : List PartD) (vt vp : Value) (w' : World) (b : Nat) (ht : IsText f vt w') (hp : PartsIs ps vp w') (hps : ps.length ≤ 10) (hc1 : w'.cell? ⟨b, 0, none⟩ = some vt) (hc2 : w'.cell? ⟨b + 1, 0, none⟩ = some vp) (hlt : b + 1 < w'.heap.size)
    (hpb : ∀ p ∈ ps, p.2.1 ≤ 10 ∧ p.2.2 ≤ 9223372036854775807)
    (tv nv : Value) (t : List NodeD) (x : NodeD) (hat : ArgT tv t w') (hn : NodeV nv x w') (hal : AllIn t) (hx : x ∈ t) :
    Calls Tryz.prog 95 #[tv, nv, .pointer (some ⟨b, 0, none⟩), .pointer (some ⟨b + 1, 0, none⟩)] w' fun e w'' => e = .returned (.bool (tOf f ps t x)) ∧ Below w'.heap.size w' w'' := by
  have hlt0 : b < w'.heap.size := by omega
  obtain ⟨hl, hall⟩ := hal
  have hxa := hall x hx
  have HAL := Lib.hid hall
  have HX := Lib.hid hx
  have HAT := Lib.hid hat
  obtain ⟨kt, ct, rfl, et, hct⟩ := ht
  obtain ⟨pp, cp, rfl, hpf⟩ := hp
  have HPF := Lib.hid hpf
  obtain ⟨pa, cat, rfl, fa⟩ := hat
  obtain ⟨vk, rfl, hvk⟩ := hn
  have HVK := Lib.hid hvk
  obtain ⟨pk, ck, rfl, fk⟩ := hvk
  obtain ⟨x0, x1, x2, x3, ks⟩ := x
  simp only at hxa HVK ⊢
  obtain ⟨s, hs⟩ : ∃ s : ByteArray, s = ⟨x2.toArray⟩ := ⟨_, rfl⟩
  have hsl : s.data.toList = x2 := by rw [hs]
  have hss : s.size ≤ 1000000 := by rw [← size_list, hsl]; exact hxa.1
  obtain ⟨W1, hW1⟩ : ∃ W1, W1 = w'.alloc (.cells #[.int .i64 x0, .int .i64 x1, .string s, .int .i64 x3, .slice pk ks.length ck] 39) := ⟨_, rfl⟩
  have hb1 : Below w'.heap.size w' W1 := by rw [hW1]; exact (Below.refl _ _).alloc (Nat.le_refl _) _
  have hN1 : W1.heap[w'.heap.size]? = some (.cells #[.int .i64 x0, .int .i64 x1, .string s, .int .i64 x3, .slice pk ks.length ck] 39) := by rw [hW1]; show (w'.heap.push _)[_]? = _; simp
  obtain ⟨m, hm⟩ : ∃ m, m = ks.length := ⟨_, rfl⟩
  obtain ⟨q, hq⟩ : ∃ q, q = t.length := ⟨_, rfl⟩
  obtain ⟨np, hnp⟩ : ∃ np, np = ps.length := ⟨_, rfl⟩
  obtain ⟨Bf, hBf⟩ := hid_ex (f x2)
  have hct1 := hct W1 s (Kept.of_below hb1) hss
  rw [hsl, hBf.out] at hct1
  have hNx : ∀ w3, Below W1.heap.size W1 w3 → w3.heap[w'.heap.size]? = some (.cells #[.int .i64 x0, .int .i64 x1, .string s, .int .i64 x3, .slice pk ks.length ck] 39) ∧ Below w'.heap.size w' w3 := fun w3 h3 =>
    ⟨(h3.block w'.heap.size (Array.getElem?_eq_some_iff.1 hN1).1).trans hN1, hb1.trans (h3.mono hb1.size)⟩
  rw [hW1] at hct1 hNx
  rw [← hm] at hNx hct1
  rw [← hs, ← hm, ← hq]
  rw [← hnp] at hc2 hps
  rw [← hq] at hl
  have HM := Lib.hid hm
  have HQ := Lib.hid hq
  have HNP := Lib.hid hnp
  have HXA := Lib.hid hxa
  have HPB := Lib.hid hpb
  clear fa fk hall hpf hct hs hsl hW1 hb1 hN1 hm hq hnp hxa hx hpb
  by_cases h3 : x3 = 0
  · subst h3
    cases hB : Bf with
    | false =>
      have HR : Hid (tOf f ps t (x0, x1, x2, 0, ks) = false) := by show _ = _; unfold tOf; simp [hBf.out, hB]
      rw [HR.out]
      rw [hB] at hct1
      clear HR hBf hB HAL HX HAT HPF HVK HXA HPB
      go_enter Tryz.func95, Tryz.ntmps95
      go_wp2_with (refine hct1.mono ?_; clear hct1; rintro e w3 ⟨rfl, hb3⟩)
      go_ret
      exact ⟨rfl, (hNx w3 hb3).2⟩
    | true =>
      have HR : Hid (tOf f ps t (x0, x1, x2, 0, ks) = fits t ps ks) := by show _ = _; unfold tOf; simp [hBf.out, hB]
      rw [HR.out]
      rw [hB] at hct1
      clear HR hBf hB
      go_enter Tryz.func95, Tryz.ntmps95
      go_wp2_with (refine hct1.mono ?_; clear hct1; rintro e w3 ⟨rfl, hb3⟩; obtain ⟨hN3, hb3'⟩ := hNx w3 hb3; obtain ⟨c0, c1, c2, c3, c4⟩ := box5 (w := w3) hN3; have d2 := (hb3'.cell (p := ⟨b + 1, 0, none⟩) hlt).trans hc2; clear hNx hb3 hN3)
      clear c0 c1 c2 c3 c4
      go_loopw [7, 25] (fun v7 v25 wr => ∃ (i : Nat) (r : List Int) (pr : Option Addr) (rl cr : Nat), v25 = .int .i64 (i : Int) ∧ v7 = .slice pr rl cr ∧ i ≤ np ∧ rl ≤ 9223372036854775807 ∧ Below w'.heap.size w' wr ∧ Hid (rl = r.length) ∧ Hid (KRow (.slice pr r.length cr) r w') ∧ Hid (fits t ps ks = fits t (ps.drop i) r) ∧ Hid (∀ k ∈ r, 0 ≤ k ∧ k < (t.length : Int))) (fun _ v25 _ => np - (intOf v25).toNat)
      case atStart =>
        have := HXA.out.2.1
        unfold maxLen at this
        exact ⟨0, ks, pk, m, ck, rfl, rfl, Nat.zero_le _, by rw [HM.out]; omega, hb3', HM.out, HVK.out, rfl, HXA.out.2.2⟩
      case round =>
        obtain ⟨i, r, pr, rl, cr, rfl, rfl, hi, hrl, hbel, HRL, HKR, HT, HRR⟩ := hrel
        clear d2 HVK HXA hb3' HM
        by_cases hin : i < np
        · obtain ⟨p, hpi⟩ : ∃ p, ps[i]? = some p := ⟨_, List.getElem?_eq_getElem (by rw [← HNP.out]; exact hin)⟩
          have hd := drop_cons ps i p hpi
          have hti := HT.out
          rw [hd, fits] at hti
          obtain ⟨g, o, u, rfl, a0, hu, a1, a2⟩ := HPF.out i p hpi
          obtain ⟨ku, cu, rfl, eu, hcu⟩ := hu
          have hpm := HPB.out p (List.mem_of_getElem? hpi)
          obtain ⟨T, least, most⟩ := p
          simp only at hti hpm hcu a1 a2
          have hg := cell_lt a0
          simp only at hg
          have b0 := (hbel.cell (p := ⟨g, o + i * 3, none⟩) hg).trans a0
          have b1 := (hbel.cell (p := ⟨g, o + i * 3 + 1, none⟩) hg).trans a1
          have b2 := (hbel.cell (p := ⟨g, o + i * 3 + 2, none⟩) hg).trans a2
          obtain ⟨G, hG⟩ := hid_ex (greedy (fun k => T t (nodeAt t k)) most r)
          rw [hG.out] at hti
          have HTI := Lib.hid hti
          have HCU := Lib.hid hcu
          obtain ⟨N0, hN0⟩ : ∃ N0, N0 = wr.heap.size := ⟨_, rfl⟩
          have hwr : w'.heap.size ≤ N0 := by rw [hN0]; exact hbel.size
          obtain ⟨Wp, hWp⟩ : ∃ Wp, Wp = wr.alloc (.cells #[.func (.func ku) #[] cu, .int .i64 (least : Int), .int .i64 (most : Int)] 90) := ⟨_, rfl⟩
          have hbp : Below w'.heap.size w' Wp := by rw [hWp]; exact hbel.alloc (by omega) _
          have hNp : Wp.heap[N0]? = some (.cells #[.func (.func ku) #[] cu, .int .i64 (least : Int), .int .i64 (most : Int)] 90) := by rw [hWp, hN0]; show (wr.heap.push _)[_]? = _; simp
          have HWP := Lib.hid hWp
          clear hpi hd hti a0 a1 a2 hcu HT hWp
          go_wp2_with fail
          rw [← hN0, ← HWP.out]
          clear HWP hN0 b0 b1 b2
          go_loopw [10] (fun v10 wk => ∃ (c : Nat), v10 = .int .i64 (c : Int) ∧ c ≤ rl ∧ c ≤ most ∧ Hid (G = c + greedy (fun k => T t (nodeAt t k)) (most - c) (r.drop c)) ∧ wk.heap[N0]? = some (.cells #[.func (.func ku) #[] cu, .int .i64 (least : Int), .int .i64 (most : Int)] 90) ∧ Below w'.heap.size w' wk) (fun v10 _ => rl - (intOf v10).toNat)
          case atStart => exact ⟨0, rfl, Nat.zero_le _, Nat.zero_le _, by show _ = _; rw [← hG.out]; simp, hNp, hbp⟩
          case round =>
            obtain ⟨c, rfl, hcr, hcm, HG, hN2, hb2⟩ := hrel
            obtain ⟨e0, e1, e2⟩ := box3 hN2
            clear hNp hbp hbel hG
            go_upto_region 8 with fail
            go_cut [51] (fun v51 wx => ∃ bb : Bool, v51 = .bool bb ∧ Below w'.heap.size w' wx ∧ wx.heap[N0]? = some (.cells #[.func (.func ku) #[] cu, .int .i64 (least : Int), .int .i64 (most : Int)] 90) ∧ Hid (bb = true → c < most ∧ c < rl ∧ G = (c + 1) + greedy (fun k => T t (nodeAt t k)) (most - (c + 1)) (r.drop (c + 1))) ∧ Hid (bb = false → G = c))
            case first =>
              by_cases hm1 : c < most
              · have gm1 : decide ((c : Int) < (most : Int)) = true := decide_eq_true (by omega)
                by_cases hc1 : c < rl
                · have gc1 : decide ((c : Int) < (rl : Int)) = true := decide_eq_true (by omega)
                  obtain ⟨k, hk⟩ : ∃ k, r[c]? = some k := ⟨_, List.getElem?_eq_getElem (by rw [← HRL.out]; exact hc1)⟩
                  have hdc := drop_cons r c k hk
                  have hkr := HRR.out k (List.mem_of_getElem? hk)
                  obtain ⟨_, _, ekr, hcells, hcap⟩ := HKR.out
                  injection ekr with ek1 ek2 ek3
                  obtain ⟨gk, ok, hpr, hgk, ac⟩ := hcells c k hk
                  rw [← ek1] at hpr
                  subst hpr
                  have bc := (hb2.cell (p := ⟨gk, ok + c, none⟩) hgk).trans ac
                  obtain ⟨kn, rfl⟩ : ∃ kn : Nat, k = (kn : Int) := ⟨k.toNat, by omega⟩
                  obtain ⟨hym, hy⟩ := nodeAt_mem hkr
                  rw [Int.toNat_natCast] at hy
                  have hkq : kn < q := by rw [HQ.out]; omega
                  obtain ⟨_, _, eat, hnodes⟩ := HAT.out
                  injection eat with ea1 ea2 ea3
                  obtain ⟨ga, oa, vy, hpa, hga, n0, n1, n2, n3, n4, n5⟩ := hnodes kn _ hy
                  rw [← ea1] at hpa
                  subst hpa
                  obtain ⟨y, hyy⟩ : ∃ y, y = nodeAt t (kn : Int) := ⟨_, rfl⟩
                  rw [← hyy] at hy n0 n1 n2 n3 n5 hym
                  have hcall := fun w3 (h3 : Below w'.heap.size w' w3) => HCU.out w3 (.slice (some ⟨ga, oa, none⟩) t.length cat) (.agg #[.int .i64 y.1, .int .i64 y.2.1, .string ⟨y.2.2.1.toArray⟩, .int .i64 y.2.2.2.1, vy]) t y (Kept.of_below h3) (HAT.out.below h3) ⟨vy, rfl, n5.below h3⟩ ⟨by rw [← HQ.out]; exact hl, HAL.out⟩ hym trivial
                  obtain ⟨y0, y1, y2, y3, ys⟩ := y
                  obtain ⟨py, cy, rfl, fy⟩ := n5
                  simp only at n0 n1 n2 n3 n4 hcall
                  have p0 := (hb2.cell (p := ⟨ga, oa + kn * 5, none⟩) hga).trans n0
                  have p1 := (hb2.cell (p := ⟨ga, oa + kn * 5 + 1, none⟩) hga).trans n1
                  have p2 := (hb2.cell (p := ⟨ga, oa + kn * 5 + 2, none⟩) hga).trans n2
                  have p3 := (hb2.cell (p := ⟨ga, oa + kn * 5 + 3, none⟩) hga).trans n3
                  have p4 := (hb2.cell (p := ⟨ga, oa + kn * 5 + 4, none⟩) hga).trans n4
                  obtain ⟨sy, hsy⟩ : ∃ sy : ByteArray, sy = ⟨y2.toArray⟩ := ⟨_, rfl⟩
                  obtain ⟨my, hmy⟩ : ∃ my, my = ys.length := ⟨_, rfl⟩
                  rw [← hsy] at p2 hcall
                  rw [← hmy] at p4 hcall
                  rw [← HQ.out] at hcall
                  obtain ⟨bT, hbT⟩ := hid_ex (T t (y0, y1, y2, y3, ys))
                  rw [hbT.out] at hcall
                  have HC1 := hcall wr.drew hb2.drew
                  have HPOST : Hid (∀ wx, Below wr.drew.heap.size wr.drew wx → Below w'.heap.size w' wx ∧ wx.heap[N0]? = some (.cells #[.func (.func ku) #[] cu, .int .i64 (least : Int), .int .i64 (most : Int)] 90) ∧ (bT = true → c < most ∧ c < rl ∧ G = (c + 1) + greedy (fun k => T t (nodeAt t k)) (most - (c + 1)) (r.drop (c + 1))) ∧ (bT = false → G = c)) := fun wx h => by
                    have hN0l : N0 < wr.heap.size := (Array.getElem?_eq_some_iff.1 hN2).1
                    refine ⟨hb2.drew.trans (h.mono hb2.size), (h.block N0 hN0l).trans hN2, fun hb => ⟨hm1, hc1, ?_⟩, fun hb => ?_⟩
                    · rw [HG.out, hdc, greedy_go _ _ _ _ (by omega) (by rw [← hyy, hbT.out, hb]), show most - c - 1 = most - (c + 1) by omega]
                      omega
                    · rw [HG.out, greedy_stop _ _ _ (Or.inr (Or.inr ⟨_, _, hdc, by rw [← hyy, hbT.out, hb]⟩))]
                      omega
                  clear HG HTI HRR HKR HRL HAT HAL HCU HPF HPB hk hdc hkr ac hcells n0 n1 n2 n3 n4 fy hy hym hyy hnodes hsy hmy hbT hcall hN2 ea1 ea2 ea3 ek1 ek2 ek3 HX hb2 hga hgk
                  go_still_tail 21, (by kernel_rfl)
                  change wpList _ _ _ _ _ wr.drew
                  generalize wr.drew = w2 at HC1 HPOST ⊢
                  go_wp2_with (refine HC1.mono ?_; rintro e wx ⟨rfl, hbx⟩)
                  go_meet
                  obtain ⟨z1, z2, z3, z4⟩ := HPOST.out wx hbx
                  exact ⟨bT, rfl, z1, z2, z3, z4⟩
                · have gc1 : decide ((c : Int) < (rl : Int)) = false := decide_eq_false (by omega)
                  have HG2 : Hid (G = c) := by
                    show _ = _
                    rw [HG.out, greedy_stop _ _ _ (Or.inr (Or.inl (List.drop_eq_nil_of_le (by have := HRL.out; omega))))]
                    omega
                  clear HG HTI HRR HKR HRL HAT HAL HCU HPF HPB HX
                  go_quiet (fail)
                  go_wp2_with fail
                  go_meet
                  exact ⟨false, rfl, below_drewN hb2 _, (heap_drewN' _ _).symm ▸ hN2, (fun h => by cases h), fun _ => HG2.out⟩
              · have gm1 : decide ((c : Int) < (most : Int)) = false := decide_eq_false (by omega)
                have HG2 : Hid (G = c) := by
                  show _ = _
                  rw [HG.out, greedy_stop _ _ _ (Or.inl (by omega))]
                  omega
                clear HG HTI HRR HKR HRL HAT HAL HCU HPF HPB HX
                go_quiet (fail)
                go_wp2_with fail
                go_meet
                exact ⟨false, rfl, below_drewN hb2 _, (heap_drewN' _ _).symm ▸ hN2, (fun h => by cases h), fun _ => HG2.out⟩
            case rest =>
              obtain ⟨bb, rfl, hbx, hNx2, H1, H2⟩ := hcut
              clear hN2 hb2 e0 e1 e2 HG
              cases bb with
              | true =>
                obtain ⟨q1, q2, q3⟩ := H1.out rfl
                have HQ3 := Lib.hid q3
                have hw : IntKind.i64.wrap ((c : Int) + 1) = (c : Int) + 1 := IntWalk.i64_in _ (by omega)
                clear H1 H2 q3
                go_wp2_with fail
                exact ⟨⟨c + 1, by go_num, by omega, by omega, HQ3.out, hNx2, hbx⟩, by simp [intOf]; omega⟩
              | false =>
                obtain rfl : G = c := H2.out rfl
                obtain ⟨e0, e1, e2⟩ := box3 hNx2
                clear H1 H2 hNx2
                by_cases hle : G < least
                · have hti := HTI.out
                  rw [if_pos hle] at hti
                  have HF : Hid (fits t ps ks = false) := hti
                  have gle : (G : Int) < (least : Int) := by omega
                  clear hti HTI
                  go_wp2_with fail
                  go_ret
                  exact ⟨ret_bool HF.out.symm, hbx⟩
                · have hti := HTI.out
                  rw [if_neg hle] at hti
                  have HF : Hid (fits t ps ks = fits t (ps.drop (i + 1)) (r.drop G)) := hti
                  have gle : ¬ (G : Int) < (least : Int) := by omega
                  clear hti HTI
                  have HRR2 : Hid (∀ k ∈ r.drop G, 0 ≤ k ∧ k < (t.length : Int)) := fun k hk => HRR.out k (List.mem_of_mem_drop hk)
                  have HRL2 : Hid (rl - G = (r.drop G).length) := by show _ = _; rw [HRL.out, List.length_drop]
                  cases pr with
                  | none =>
                    have HKR2 : Hid (KRow (.slice none (r.drop G).length (cr - G)) (r.drop G) w') := by
                      obtain ⟨_, _, ekr, hcells, hcap⟩ := HKR.out
                      injection ekr with ek1 ek2 ek3
                      refine ⟨none, _, rfl, fun k c hk => ?_, by rw [List.length_drop, ek3]; omega⟩
                      rw [List.getElem?_drop] at hk
                      obtain ⟨g', o', he, _⟩ := hcells _ _ hk
                      rw [← ek1] at he
                      cases he
                    clear HRR HRL HKR
                    go_wp2_with fail
                    exact ⟨⟨i + 1, r.drop G, none, rl - G, cr - G, by go_num, rfl, by omega, by omega, hbx, HRL2, HKR2, HF, HRR2⟩, by simp [intOf]; omega⟩
                  | some ap =>
                    obtain ⟨bp, op, sp⟩ := ap
                    have HKR2 : Hid (KRow (.slice (if cr = G then some ⟨bp, op, sp⟩ else some ((⟨bp, op, sp⟩ : Addr).add G)) (r.drop G).length (cr - G)) (r.drop G) w') := by
                      obtain ⟨_, _, ekr, hcells, hcap⟩ := HKR.out
                      injection ekr with ek1 ek2 ek3
                      rw [← ek3] at hcap
                      refine ⟨_, _, rfl, fun k c hk => ?_, by rw [List.length_drop]; omega⟩
                      have hlk := (List.getElem?_eq_some_iff.1 hk).1
                      rw [List.length_drop] at hlk
                      rw [List.getElem?_drop] at hk
                      obtain ⟨g', o', he, hg', hc'⟩ := hcells _ _ hk
                      rw [← ek1] at he
                      injection he with he
                      injection he with he1 he2 he3
                      subst he1; subst he2; subst he3
                      exact ⟨bp, op + G, by rw [if_neg (by omega)]; simp [Addr.add], hg', by rw [show op + G + k = op + (G + k) by omega]; exact hc'⟩
                    clear HRR HRL HKR
                    go_wp2_with fail
                    exact ⟨⟨i + 1, r.drop G, _, rl - G, cr - G, by go_num, rfl, by omega, by omega, hbx, HRL2, HKR2, HF, HRR2⟩, by simp [intOf]; omega⟩
        · obtain rfl : i = np := by omega
          have HF : Hid (fits t ps ks = decide (r.length = 0)) := by
            show _ = _
            rw [HT.out, HNP.out, List.drop_length]
            rfl
          rw [← HRL.out] at HF
          clear HT HKR HRR HRL HAT HAL HPF HPB HX
          by_cases h0 : rl = 0
          · subst h0
            go_wp2_with fail
            go_ret
            exact ⟨ret_bool (by rw [HF.out]; simp), hbel⟩
          · have g0 : ((rl : Int) == 0) = false := by simp; omega
            go_wp2_with fail
            go_ret
            exact ⟨ret_bool (by rw [HF.out]; simp [h0]), hbel⟩
  · have HR : Hid (tOf f ps t (x0, x1, x2, x3, ks) = false) := by show _ = _; unfold tOf; simp [h3]
    rw [HR.out]
    clear HR hBf HAL HX HAT HPF HVK HXA HPB hct1
    have hbx := (Below.refl w'.heap.size w').alloc (Nat.le_refl _) (.cells #[.int .i64 x0, .int .i64 x1, .string s, .int .i64 x3, .slice pk m ck] 39)
    go_enter Tryz.func95, Tryz.ntmps95
    go_wp2_with fail
    go_ret
    exact ⟨rfl, hbx⟩

set_option maxHeartbeats 4000000 in
theorem of_any (f : Sp.Bs → Bool) (ps : List PartD) (vt vp : Value) (w : World) (ht : IsText f vt w) (hp : PartsIs ps vp w) (hps : ps.length ≤ 10) (hpb : ∀ p ∈ ps, p.2.1 ≤ 10 ∧ p.2.2 ≤ 9223372036854775807) :
    Calls Tryz.prog 52 #[vt, vp] w fun e w' => ∃ v, e = .returned v ∧ IsTest All2 (tOf f ps) v w' ∧ Below w.heap.size w w' := by
  have HT := Lib.hid ht
  have HP := Lib.hid hp
  obtain ⟨kt, ct, rfl, et, hct⟩ := ht
  obtain ⟨pp, cp, rfl, hpf⟩ := hp
  obtain ⟨np, hnp⟩ : ∃ np, np = ps.length := ⟨_, rfl⟩
  rw [← hnp] at HP ⊢
  have HNP := Lib.hid hnp
  clear hct hpf hnp
  go_enter Tryz.func52, Tryz.ntmps52
  go_wp2_with fail
  go_ret
  refine ⟨_, rfl, ⟨95, _, rfl, enters_of Tryz.func95 (by kernel_rfl) rfl, ?_⟩, ((Below.refl _ _).alloc (Nat.le_refl _) _).alloc (by simp) _⟩
  intro w' tv nv t x hk hat hn hal hx _
  have hc1 : w'.cell? ⟨w.heap.size, 0, none⟩ = some (.func (.func kt) #[] ct) := hk.cell (by rw [World.cell?_alloc_past _ _ _ (by simp), World.cell?_alloc_at _ _ _ _ rfl]; rfl)
  have hc2 : w'.cell? ⟨w.heap.size + 1, 0, none⟩ = some (.slice pp np cp) := hk.cell (by rw [World.cell?_alloc_at _ _ _ _ (by simp)]; rfl)
  have hlt : w.heap.size + 1 < w'.heap.size := by have := hk.size; simp at this; omega
  have hk0 : Kept w w' := ((Kept.alloc _ _).trans (Kept.alloc _ _)).trans hk
  exact of1_any f ps (.func (.func kt) #[] ct) (.slice pp np cp) w' w.heap.size (HT.out.kept hk0) (HP.out.kept hk0) hps hc1 hc2 hlt hpb tv nv t x hat hn hal hx
end Go.Proofs.YtkmmcphiijolkaaGreatDoor

set_option linter.unusedVariables false
set_option linter.unusedSimpArgs false
namespace Go.Proofs.YtkmmcphiijolkaaGreatDoor
open Go.RowKit Go.Shelf
open Tr

theorem infoPart : (Tryz.prog.info? 90).map (fun i => i.size) = some 3 := by kernel_rfl
/-- A part that is handed back. -/
def PartV (p : PartD) (v : Value) (w : World) : Prop := ∃ u, v = .agg #[u, .int .i64 (p.2.1 : Int), .int .i64 (p.2.2 : Int)] ∧ IsTest All2 p.1 u w
set_option maxHeartbeats 2000000 in
theorem one_any (T : Test) (v : Value) (w : World) (h : IsTest All2 T v w) : Calls Tryz.prog 54 #[v] w fun e w' => ∃ u, e = .returned u ∧ PartV (pOne T) u w' ∧ Below w.heap.size w w' := by
  have H := Lib.hid h
  obtain ⟨k, c, rfl, he, h⟩ := h
  clear h
  go_enter Tryz.func54, Tryz.ntmps54
  go_wp2_with fail
  refine bodyPost_ret (results_cell_row rfl _ _ w.heap.size 90 #[.func (.func k) #[] c, .int .i64 1, .int .i64 1] (0, 0) _ rfl (heap_alloc_new w _) Tryz.underlying90 rfl infoPart) rfl ?_
  exact ⟨_, rfl, ⟨_, rfl, H.out.kept (Kept.alloc _ _)⟩, (Below.refl _ _).alloc (Nat.le_refl _) _⟩
set_option maxHeartbeats 2000000 in
theorem perhaps_any (T : Test) (v : Value) (w : World) (h : IsTest All2 T v w) : Calls Tryz.prog 66 #[v] w fun e w' => ∃ u, e = .returned u ∧ PartV (pMay T) u w' ∧ Below w.heap.size w w' := by
  have H := Lib.hid h
  obtain ⟨k, c, rfl, he, h⟩ := h
  clear h
  go_enter Tryz.func66, Tryz.ntmps66
  go_wp2_with fail
  refine bodyPost_ret (results_cell_row rfl _ _ w.heap.size 90 #[.func (.func k) #[] c, .int .i64 0, .int .i64 1] (0, 0) _ rfl (heap_alloc_new w _) Tryz.underlying90 rfl infoPart) rfl ?_
  exact ⟨_, rfl, ⟨_, rfl, H.out.kept (Kept.alloc _ _)⟩, (Below.refl _ _).alloc (Nat.le_refl _) _⟩
set_option maxHeartbeats 2000000 in
theorem many_any (T : Test) (v : Value) (w : World) (h : IsTest All2 T v w) : Calls Tryz.prog 56 #[v] w fun e w' => ∃ u, e = .returned u ∧ PartV (pMany T) u w' ∧ Below w.heap.size w w' := by
  have H := Lib.hid h
  obtain ⟨k, c, rfl, he, h⟩ := h
  clear h
  go_enter Tryz.func56, Tryz.ntmps56
  go_wp2_with fail
  refine bodyPost_ret (results_cell_row rfl _ _ w.heap.size 90 #[.func (.func k) #[] c, .int .i64 0, .int .i64 9223372036854775807] (0, 0) _ rfl (heap_alloc_new w _) Tryz.underlying90 rfl infoPart) rfl ?_
  exact ⟨_, rfl, ⟨_, rfl, H.out.kept (Kept.alloc _ _)⟩, (Below.refl _ _).alloc (Nat.le_refl _) _⟩

theorem ArgT.form {v : Value} {t : List NodeD} {w : World} (h : ArgT v t w) (hne : t ≠ []) : ∃ ga oa cat, v = .slice (some ⟨ga, oa, none⟩) t.length cat ∧ ga < w.heap.size ∧ ∀ (k : Nat) (x : NodeD), t[k]? = some x → ∃ vk,
    w.cell? ⟨ga, oa + k * 5, none⟩ = some (.int .i64 x.1) ∧ w.cell? ⟨ga, oa + k * 5 + 1, none⟩ = some (.int .i64 x.2.1) ∧ w.cell? ⟨ga, oa + k * 5 + 2, none⟩ = some (.string ⟨x.2.2.1.toArray⟩) ∧ w.cell? ⟨ga, oa + k * 5 + 3, none⟩ = some (.int .i64 x.2.2.2.1) ∧ w.cell? ⟨ga, oa + k * 5 + 4, none⟩ = some vk ∧ KRow vk x.2.2.2.2 w := by
  obtain ⟨pa, cat, rfl, fa⟩ := h
  cases t with
  | nil => exact absurd rfl hne
  | cons y l =>
    obtain ⟨ga, oa, _, rfl, hg, _⟩ := fa 0 y rfl
    refine ⟨ga, oa, cat, rfl, hg, fun k x hx => ?_⟩
    obtain ⟨g', o', vk, e, _, a0, a1, a2, a3, a4, a5⟩ := fa k x hx
    injection e with e
    injection e with e1 e2
    subst e1; subst e2
    exact ⟨vk, a0, a1, a2, a3, a4, a5⟩
theorem KRow.drop {pr : Option Addr} {cr G : Nat} {r : List Int} {w : World} (h : KRow (.slice pr r.length cr) r w) (hG : G ≤ r.length) :
    KRow (.slice (pr.map fun a => if cr = G then a else a.add G) (r.length - G) (cr - G)) (r.drop G) w := by
  obtain ⟨_, _, ekr, hcells, hcap⟩ := h
  injection ekr with ek1 ek2 ek3
  rw [← ek3] at hcap
  refine ⟨_, _, by rw [List.length_drop], fun k c hk => ?_, by rw [List.length_drop]; omega⟩
  have hlk := (List.getElem?_eq_some_iff.1 hk).1
  rw [List.length_drop] at hlk
  rw [List.getElem?_drop] at hk
  obtain ⟨g', o', he, hg', hc'⟩ := hcells _ _ hk
  rw [← ek1] at he
  subst he
  exact ⟨g', o' + G, by simp only [Option.map_some]; rw [if_neg (by omega)]; simp [Addr.add], hg', by rw [show o' + G + k = o' + (G + k) by omega]; exact hc'⟩
theorem KRow.take {pr : Option Addr} {cr n : Nat} {r : List Int} {w : World} (h : KRow (.slice pr r.length cr) r w) (hn : n ≤ r.length) : KRow (.slice pr n cr) (r.take n) w := by
  obtain ⟨_, _, ekr, hcells, hcap⟩ := h
  injection ekr with ek1 ek2 ek3
  rw [← ek3] at hcap
  have hl : (r.take n).length = n := by rw [List.length_take]; omega
  refine ⟨pr, cr, by rw [hl], fun k c hk => ?_, by rw [hl]; omega⟩
  have hlk := (List.getElem?_eq_some_iff.1 hk).1
  rw [hl] at hlk
  rw [List.getElem?_take, if_pos hlk] at hk
  obtain ⟨g', o', he, hg', hc'⟩ := hcells _ _ hk
  rw [← ek1] at he
  exact ⟨g', o', he, hg', hc'⟩

set_option maxHeartbeats 8000000 in
set_option maxRecDepth 100000 in
theorem wide_any (tv nv : Value) (t : List NodeD) (x : NodeD) (w : World) (hat : ArgT tv t w) (hn : NodeV nv x w) (hal : AllIn t) (hx : x ∈ t) :
    Calls Tryz.prog 68 #[tv, nv] w fun e w' => e = .returned (.bool (tWide t x)) ∧ Below w.heap.size w w' := by
  obtain ⟨hl, hall⟩ := hal
  have hxa := hall x hx
  have HN := Lib.hid hn
  obtain ⟨ga, oa, cat, rfl, hga, hnodes⟩ := hat.form (List.ne_nil_of_mem hx)
  have HNODES := Lib.hid hnodes
  obtain ⟨vk, rfl, hvk⟩ := hn
  have HVK := Lib.hid hvk
  obtain ⟨pk, ck, rfl, fk⟩ := hvk
  obtain ⟨x0, x1, x2, x3, ks⟩ := x
  simp only at hxa HVK HN ⊢
  obtain ⟨m, hm⟩ : ∃ m, m = ks.length := ⟨_, rfl⟩
  obtain ⟨q, hq⟩ : ∃ q, q = t.length := ⟨_, rfl⟩
  obtain ⟨s, hs⟩ : ∃ s : ByteArray, s = ⟨x2.toArray⟩ := ⟨_, rfl⟩
  have hml : m ≤ 9223372036854775807 := by rw [hm]; have := hxa.2.1; unfold maxLen at this; omega
  obtain ⟨W1, hW1⟩ : ∃ W1, W1 = w.alloc (.cells #[.int .i64 x0, .int .i64 x1, .string s, .int .i64 x3, .slice pk m ck] 39) := ⟨_, rfl⟩
  have hb1 : Below w.heap.size w W1 := by rw [hW1]; exact (Below.refl _ _).alloc (Nat.le_refl _) _
  have hN1 : W1.heap[w.heap.size]? = some (.cells #[.int .i64 x0, .int .i64 x1, .string s, .int .i64 x3, .slice pk m ck] 39) := by rw [hW1]; show (w.heap.push _)[_]? = _; simp
  have hcx := target_any (.slice (some ⟨ga, oa, none⟩) q cat) (.agg #[.int .i64 x0, .int .i64 x1, .string s, .int .i64 x3, .slice pk m ck]) (x0, x1, x2, x3, ks) W1 (by rw [hs, hm]; exact HN.out.below hb1)
  rw [← hm, ← hq, ← hs]
  rw [← hq] at hl
  have HM := Lib.hid hm
  have HQ := Lib.hid hq
  have HXA := Lib.hid hxa
  have HW1 := Lib.hid hW1
  rw [hW1] at hcx
  by_cases h8 : x0 = 8
  · subst h8
    have HR : Hid (tWide t (8, x1, x2, x3, ks) = (ks.all (fun k => isTarget (nodeAt t k).1) && decide (0 < ks.length))) := by show _ = _; simp [tWide]
    rw [HR.out]
    clear HR fk hxa hall hx hnodes hm hq hs hW1 hcx HN
    go_enter Tryz.func68, Tryz.ntmps68
    go_wp2_with fail
    rw [← HW1.out]
    clear HW1
    go_loopw [16] (fun v16 wr => ∃ j : Nat, v16 = .int .i64 (j : Int) ∧ j ≤ m ∧ Below w.heap.size w wr ∧ wr.heap[w.heap.size]? = some (.cells #[.int .i64 8, .int .i64 x1, .string s, .int .i64 x3, .slice pk m ck] 39) ∧ Hid (ks.all (fun k => isTarget (nodeAt t k).1) = (ks.drop j).all (fun k => isTarget (nodeAt t k).1))) (fun v16 _ => m - (intOf v16).toNat)
    case atStart => exact ⟨0, rfl, Nat.zero_le _, hb1, hN1, rfl⟩
    case round =>
      obtain ⟨j, rfl, hj, hbel, hN2, HT⟩ := hrel
      clear hb1 hN1
      by_cases hjm : j < m
      · obtain ⟨k, hk⟩ : ∃ k, ks[j]? = some k := ⟨_, List.getElem?_eq_getElem (by rw [← HM.out]; exact hjm)⟩
        have hdk := drop_cons ks j k hk
        have hti := HT.out
        rw [hdk, List.all_cons] at hti
        have hkr := HXA.out.2.2 k (List.mem_of_getElem? hk)
        obtain ⟨_, _, ekr, hcells, _⟩ := HVK.out
        injection ekr with ek1 ek2 ek3
        obtain ⟨gk, ok, hpr, hgk, ac⟩ := hcells j k hk
        rw [← ek1] at hpr
        subst hpr
        have bc := (hbel.cell (p := ⟨gk, ok + j, none⟩) hgk).trans ac
        obtain ⟨kn, rfl⟩ : ∃ kn : Nat, k = (kn : Int) := ⟨k.toNat, by omega⟩
        obtain ⟨hym, hy⟩ := nodeAt_mem hkr
        rw [Int.toNat_natCast] at hy
        have hkq : kn < q := by rw [HQ.out]; omega
        obtain ⟨vy, n0, n1, n2, n3, n4, n5⟩ := HNODES.out kn _ hy
        obtain ⟨y, hyy⟩ : ∃ y, y = nodeAt t (kn : Int) := ⟨_, rfl⟩
        rw [← hyy] at n0 n1 n2 n3 n5 hti
        have hct := target_any (.slice (some ⟨ga, oa, none⟩) q cat) (.agg #[.int .i64 y.1, .int .i64 y.2.1, .string ⟨y.2.2.1.toArray⟩, .int .i64 y.2.2.2.1, vy]) y wr ⟨vy, rfl, n5.below hbel⟩
        obtain ⟨y0, y1, y2, y3, ys⟩ := y
        obtain ⟨py, cy, rfl, fy⟩ := n5
        simp only at n0 n1 n2 n3 n4 hct hti
        have p0 := (hbel.cell (p := ⟨ga, oa + kn * 5, none⟩) hga).trans n0
        have p1 := (hbel.cell (p := ⟨ga, oa + kn * 5 + 1, none⟩) hga).trans n1
        have p2 := (hbel.cell (p := ⟨ga, oa + kn * 5 + 2, none⟩) hga).trans n2
        have p3 := (hbel.cell (p := ⟨ga, oa + kn * 5 + 3, none⟩) hga).trans n3
        have p4 := (hbel.cell (p := ⟨ga, oa + kn * 5 + 4, none⟩) hga).trans n4
        obtain ⟨sy, hsy⟩ : ∃ sy : ByteArray, sy = ⟨y2.toArray⟩ := ⟨_, rfl⟩
        obtain ⟨my, hmy⟩ : ∃ my, my = ys.length := ⟨_, rfl⟩
        rw [← hsy] at p2 hct
        rw [← hmy] at p4 hct
        cases hT : isTarget y0 with
        | true =>
          rw [hT, Bool.true_and] at hti
          rw [hT] at hct
          have HT2 := Lib.hid hti
          have hNx : ∀ w3, Below wr.heap.size wr w3 → w3.heap[w.heap.size]? = some (.cells #[.int .i64 8, .int .i64 x1, .string s, .int .i64 x3, .slice (some ⟨gk, ok, none⟩) m ck] 39) ∧ Below w.heap.size w w3 := fun w3 h3 =>
            ⟨(h3.block w.heap.size (Array.getElem?_eq_some_iff.1 hN2).1).trans hN2, hbel.trans (h3.mono hbel.size)⟩
          have HNX := Lib.hid hNx
          clear HT hti hdk hk hkr hcells ac n0 n1 n2 n3 n4 fy hy hym hyy hsy hmy hT ek1 ek2 ek3 HXA HVK HNODES hN2 hNx hgk
          go_wp2_with (go_at_call 69; refine hct.mono ?_; rintro e w3 ⟨rfl, hb3⟩)
          exact ⟨⟨j + 1, by go_num, by omega, (HNX.out w3 hb3).2, (HNX.out w3 hb3).1, HT2.out⟩, by simp [intOf]; omega⟩
        | false =>
          rw [hT, Bool.false_and] at hti
          rw [hT] at hct
          have HT2 := Lib.hid hti
          have HR : Hid ((ks.all (fun k => isTarget (nodeAt t k).1) && decide (0 < ks.length)) = false) := by show _ = _; rw [HT2.out]; rfl
          clear HT hti hdk hk hkr hcells ac n0 n1 n2 n3 n4 fy hy hym hyy hsy hmy hT ek1 ek2 ek3 HXA HVK HNODES hN2 hgk HT2
          go_wp2_with (go_at_call 69; refine hct.mono ?_; rintro e w3 ⟨rfl, hb3⟩)
          go_ret
          exact ⟨ret_bool HR.out.symm, hbel.trans (hb3.mono hbel.size)⟩
      · obtain rfl : j = m := by omega
        have HR : Hid ((ks.all (fun k => isTarget (nodeAt t k).1) && decide (0 < ks.length)) = decide (0 < j)) := by
          show _ = _
          rw [HT.out, HM.out, List.drop_length]
          simp
        obtain ⟨c0, c1, c2, c3, c4⟩ := box5 (w := wr) hN2
        clear HT HXA HVK HNODES
        go_wp2_with fail
        go_ret
        exact ⟨ret_bool (by rw [HR.out]), hbel⟩
  · have HR : Hid (tWide t (x0, x1, x2, x3, ks) = isTarget x0) := by show _ = _; simp [tWide, h8]
    rw [HR.out]
    have hNx : ∀ w3, Below W1.heap.size W1 w3 → Below w.heap.size w w3 := fun w3 h3 => hb1.trans (h3.mono hb1.size)
    rw [hW1] at hNx
    clear HR fk hxa hall hx hnodes hm hq hs hW1 HN hN1 hb1
    go_enter Tryz.func68, Tryz.ntmps68
    go_wp2_with (go_at_call 69; refine hcx.mono ?_; clear hcx; rintro e w3 ⟨rfl, hb3⟩)
    go_ret
    exact ⟨rfl, hNx _ hb3⟩
theorem test_wide (w : World) : IsTest All2 tWide (.func (.func 68) #[] #[]) w := test_of w (enters_of Tryz.func68 (by kernel_rfl) rfl) fun w' tv nv t x ha hn hal hx _ => wide_any tv nv t x w' ha hn hal hx

set_option maxHeartbeats 8000000 in
set_option maxRecDepth 100000 in
theorem defaultsLast_any (tv nv : Value) (t : List NodeD) (x : NodeD) (w : World) (hat : ArgT tv t w) (hn : NodeV nv x w) (hal : AllIn t) (hx : x ∈ t) (hpre : 1 ≤ x.2.2.2.2.length) :
    Calls Tryz.prog 65 #[tv, nv] w fun e w' => e = .returned (.bool (tDefs t x)) ∧ Below w.heap.size w w' := by
  obtain ⟨hl, hall⟩ := hal
  have hxa := hall x hx
  obtain ⟨ga, oa, cat, rfl, hga, hnodes⟩ := hat.form (List.ne_nil_of_mem hx)
  have HNODES := Lib.hid hnodes
  obtain ⟨vk, rfl, hvk⟩ := hn
  have HVK := Lib.hid hvk
  obtain ⟨pk, ck, rfl, fk⟩ := hvk
  obtain ⟨x0, x1, x2, x3, ks⟩ := x
  simp only at hxa HVK hpre ⊢
  obtain ⟨m, hm⟩ : ∃ m, ks.length = m + 1 := ⟨ks.length - 1, by omega⟩
  obtain ⟨q, hq⟩ : ∃ q, q = t.length := ⟨_, rfl⟩
  obtain ⟨s, hs⟩ : ∃ s : ByteArray, s = ⟨x2.toArray⟩ := ⟨_, rfl⟩
  have hml : m + 1 ≤ 9223372036854775807 := by rw [← hm]; have := hxa.2.1; unfold maxLen at this; omega
  have hmc : m + 1 ≤ ck := by rw [← hm]; exact fk.2
  have HRW : Hid (KRow (.slice pk m ck) (ks.take m) w) := HVK.out.take (by omega)
  have HR : Hid (tDefs t (x0, x1, x2, x3, ks) = defs t false (ks.take m)) := by show _ = _; unfold tDefs; rw [List.dropLast_eq_take, hm]; rfl
  have hbx := (Below.refl w.heap.size w).alloc (Nat.le_refl _) (.cells #[.int .i64 x0, .int .i64 x1, .string s, .int .i64 x3, .slice pk (m + 1) ck] 39)
  have HL : Hid ((ks.take m).length = m) := by show _ = _; rw [List.length_take]; omega
  rw [HR.out]
  rw [hm, ← hq, ← hs]
  rw [← hq] at hl
  have HM := Lib.hid hm
  have HQ := Lib.hid hq
  have HXA := Lib.hid hxa
  have hw : IntKind.i64.wrap (m : Int) = (m : Int) := IntWalk.i64_in _ (by omega)
  clear HR fk hxa hall hx hnodes hm hq hs HVK hpre
  go_enter Tryz.func65, Tryz.ntmps65
  go_wp2_with fail
  go_loopw [6, 19] (fun v6 v19 wr => ∃ (j : Nat) (sn : Bool), v19 = .int .i64 (j : Int) ∧ v6 = .bool sn ∧ j ≤ m ∧ Below w.heap.size w wr ∧ Hid (defs t false (ks.take m) = defs t sn ((ks.take m).drop j))) (fun _ v19 _ => m - (intOf v19).toNat)
  case atStart => exact ⟨0, false, rfl, rfl, Nat.zero_le _, hbx, rfl⟩
  case round =>
    obtain ⟨j, sn, rfl, rfl, hj, hbel, HT⟩ := hrel
    clear hbx
    by_cases hjm : j < m
    · obtain ⟨k, hk⟩ : ∃ k, (ks.take m)[j]? = some k := ⟨_, List.getElem?_eq_getElem (by rw [HL.out]; exact hjm)⟩
      have hdk := drop_cons (ks.take m) j k hk
      have hti := HT.out
      rw [hdk, defs] at hti
      have hkr := HXA.out.2.2 k (List.mem_of_mem_take (List.mem_of_getElem? hk))
      obtain ⟨_, _, ekr, hcells, _⟩ := HRW.out
      injection ekr with ek1 ek2 ek3
      obtain ⟨gk, ok, hpr, hgk, ac⟩ := hcells j k hk
      rw [← ek1] at hpr
      subst hpr
      have bc := (hbel.cell (p := ⟨gk, ok + j, none⟩) hgk).trans ac
      obtain ⟨kn, rfl⟩ : ∃ kn : Nat, k = (kn : Int) := ⟨k.toNat, by omega⟩
      obtain ⟨hym, hy⟩ := nodeAt_mem hkr
      rw [Int.toNat_natCast] at hy
      have hkq : kn < q := by rw [HQ.out]; omega
      obtain ⟨vy, n0, n1, n2, n3, n4, n5⟩ := HNODES.out kn _ hy
      obtain ⟨y, hyy⟩ : ∃ y, y = nodeAt t (kn : Int) := ⟨_, rfl⟩
      rw [← hyy] at n0 n1 n2 n3 n5 hti
      obtain ⟨y0, y1, y2, y3, ys⟩ := y
      obtain ⟨py, cy, rfl, fy⟩ := n5
      simp only at n0 n1 n2 n3 n4 hti
      have p0 := (hbel.cell (p := ⟨ga, oa + kn * 5, none⟩) hga).trans n0
      have p4 := (hbel.cell (p := ⟨ga, oa + kn * 5 + 4, none⟩) hga).trans n4
      obtain ⟨my, hmy⟩ : ∃ my, my = ys.length := ⟨_, rfl⟩
      rw [← hmy] at p4 hti

      by_cases hs1 : sn = true ∧ my = 0
      · rw [if_pos hs1] at hti
        obtain ⟨rfl, rfl⟩ := hs1
        have HR := Lib.hid hti
        clear HT hti hdk hk hkr hcells ac n0 n1 n2 n3 n4 fy hy hym hyy hmy ek1 ek2 ek3 HXA HRW HNODES hgk
        go_wp2_with fail
        go_ret
        exact ⟨ret_bool HR.out.symm, hbel⟩
      · rw [if_neg hs1] at hti
        have HT2 := Lib.hid hti
        clear HT hti hdk hk hkr hcells ac n0 n1 n2 n3 n4 fy hy hym hyy hmy ek1 ek2 ek3 HXA HRW HNODES hgk
        cases sn with
        | true =>
          have h0 : 0 < my := by rcases Nat.eq_zero_or_pos my with h | h; exact absurd ⟨rfl, h⟩ hs1; exact h
          clear hs1
          go_wp2_with fail
          exact ⟨⟨j + 1, _, by go_num, rfl, by omega, hbel, by first | exact HT2 | (rw [show decide (0 < my) = true from decide_eq_true h0] at HT2; exact HT2)⟩, by simp [intOf]; omega⟩
        | false =>
          clear hs1
          go_wp2_with fail
          exact ⟨⟨j + 1, _, by go_num, rfl, by omega, hbel, HT2⟩, by simp [intOf]; omega⟩
    · obtain rfl : j = m := by omega
      have HR : Hid (defs t false (ks.take j) = true) := by
        show _ = _
        rw [HT.out, List.drop_eq_nil_of_le (by rw [HL.out]; exact Nat.le_refl _)]
        rfl
      clear HT HXA HRW HNODES HL
      go_wp2_with fail
      go_ret
      exact ⟨ret_bool HR.out.symm, hbel⟩
theorem test_defs (w : World) : IsTest (fun t x => 1 ≤ x.2.2.2.2.length) tDefs (.func (.func 65) #[] #[]) w := test_of w (enters_of Tryz.func65 (by kernel_rfl) rfl) fun w' tv nv t x ha hn hal hx hp => defaultsLast_any tv nv t x w' ha hn hal hx hp
end Go.Proofs.YtkmmcphiijolkaaGreatDoor

set_option linter.unusedVariables false
set_option linter.unusedSimpArgs false
namespace Go.Proofs.YtkmmcphiijolkaaGreatDoor
open Go.RowKit Go.Shelf
open Tr

set_option maxHeartbeats 8000000 in
set_option maxRecDepth 100000 in
theorem guarded_any (tv nv : Value) (t : List NodeD) (x : NodeD) (w : World) (hat : ArgT tv t w) (hn : NodeV nv x w) (hal : AllIn t) (hx : x ∈ t) (hpre : 1 ≤ x.2.2.2.2.length) :
    Calls Tryz.prog 70 #[tv, nv] w fun e w' => e = .returned (.bool (tGuard t x)) ∧ Below w.heap.size w w' := by
  obtain ⟨hl, hall⟩ := hal
  have hxa := hall x hx
  obtain ⟨ga, oa, cat, rfl, hga, hnodes⟩ := hat.form (List.ne_nil_of_mem hx)
  have HNODES := Lib.hid hnodes
  obtain ⟨vk, rfl, hvk⟩ := hn
  obtain ⟨pk, ck, rfl, fk⟩ := hvk
  obtain ⟨x0, x1, x2, x3, ks⟩ := x
  simp only at hxa hpre fk ⊢
  obtain ⟨m, hm⟩ : ∃ m, ks.length = m + 1 := ⟨ks.length - 1, by omega⟩
  obtain ⟨k0, hk0⟩ : ∃ k0, ks[0]? = some k0 := ⟨_, List.getElem?_eq_getElem (by omega)⟩
  obtain ⟨gk, ok, rfl, hgk, _⟩ := fk.1 0 k0 hk0
  obtain ⟨q, hq⟩ : ∃ q, q = t.length := ⟨_, rfl⟩
  obtain ⟨s, hs⟩ : ∃ s : ByteArray, s = ⟨x2.toArray⟩ := ⟨_, rfl⟩
  have hml : m + 1 ≤ 9223372036854775807 := by rw [← hm]; have := hxa.2.1; unfold maxLen at this; omega
  have hmc : m + 1 ≤ ck := by rw [← hm]; exact fk.2
  have HRW : Hid (∀ (j : Nat) (c : Int), (ks.drop 1)[j]? = some c → w.cell? ⟨gk, ok + 1 + j, none⟩ = some (.int .i64 c)) := fun j c h => by
    rw [List.getElem?_drop] at h
    obtain ⟨g', o', e, _, hc⟩ := fk.1 _ c h
    injection e with e
    injection e with e1 e2
    subst e1; subst e2
    rw [show ok + 1 + j = ok + (1 + j) by omega]
    exact hc
  have HR : Hid (tGuard t (x0, x1, x2, x3, ks) = (guards t false (ks.drop 1) && decide (0 < m))) := by show _ = _; unfold tGuard; simp only [hm]; congr 1; simp
  have hbx := (Below.refl w.heap.size w).alloc (Nat.le_refl _) (.cells #[.int .i64 x0, .int .i64 x1, .string s, .int .i64 x3, .slice (some ⟨gk, ok, none⟩) (m + 1) ck] 39)
  have hNx : (w.alloc (.cells #[.int .i64 x0, .int .i64 x1, .string s, .int .i64 x3, .slice (some ⟨gk, ok, none⟩) (m + 1) ck] 39)).heap[w.heap.size]? = some (.cells #[.int .i64 x0, .int .i64 x1, .string s, .int .i64 x3, .slice (some ⟨gk, ok, none⟩) (m + 1) ck] 39) := by show (w.heap.push _)[_]? = _; simp
  have HL : Hid ((ks.drop 1).length = m) := by show _ = _; rw [List.length_drop]; omega
  rw [HR.out]
  rw [hm, ← hq, ← hs]
  rw [← hq] at hl
  have HM := Lib.hid hm
  have HQ := Lib.hid hq
  have HXA := Lib.hid hxa
  have hw : IntKind.i64.wrap (m : Int) = (m : Int) := IntWalk.i64_in _ (by omega)
  clear HR fk hxa hall hx hnodes hm hq hs hpre hk0
  by_cases hm0 : m = 0
  · subst hm0
    have HF : Hid ((guards t false (ks.drop 1) && decide (0 < 0)) = false) := by show _ = _; simp
    rw [HF.out]
    clear HF HRW HNODES HL HM HXA
    by_cases hc1 : ck = 1
    · subst hc1
      go_enter Tryz.func70, Tryz.ntmps70
      go_wp2_with fail
      go_loopw [12] (fun v12 wr => v12 = .int .i64 0 ∧ Below w.heap.size w wr ∧ wr.heap[w.heap.size]? = some (.cells #[.int .i64 x0, .int .i64 x1, .string s, .int .i64 x3, .slice (some ⟨gk, ok, none⟩) (0 + 1) 1] 39)) (fun v12 _ => 0)
      case atStart => exact ⟨rfl, hbx, hNx⟩
      case round =>
        obtain ⟨rfl, hbel, hN2⟩ := hrel
        obtain ⟨c0, c1, c2, c3, c4⟩ := box5 (w := wr) hN2
        clear hbx hNx
        go_wp2_with fail
        go_ret
        exact ⟨rfl, hbel⟩
    · have hc2 : ¬ (ck = 1) := hc1
      have hc3 : 1 < ck := by omega
      clear hc1
      go_enter Tryz.func70, Tryz.ntmps70
      go_wp2_with fail
      go_loopw [12] (fun v12 wr => v12 = .int .i64 0 ∧ Below w.heap.size w wr ∧ wr.heap[w.heap.size]? = some (.cells #[.int .i64 x0, .int .i64 x1, .string s, .int .i64 x3, .slice (some ⟨gk, ok, none⟩) (0 + 1) ck] 39)) (fun v12 _ => 0)
      case atStart => exact ⟨rfl, hbx, hNx⟩
      case round =>
        obtain ⟨rfl, hbel, hN2⟩ := hrel
        obtain ⟨c0, c1, c2, c3, c4⟩ := box5 (w := wr) hN2
        clear hbx hNx
        go_wp2_with fail
        go_ret
        exact ⟨rfl, hbel⟩
  · have hmp : 0 < m := by omega
    have hc2 : ¬ (ck = 1) := by omega
    have HF : Hid ((guards t false (ks.drop 1) && decide (0 < m)) = guards t false (ks.drop 1)) := by show _ = _; simp [hmp]
    rw [HF.out]
    clear HF hm0
    go_enter Tryz.func70, Tryz.ntmps70
    go_wp2_with fail
    go_loopw [5, 12] (fun v5 v12 wr => ∃ (j : Nat) (ta : Bool), v12 = .int .i64 (j : Int) ∧ v5 = .bool ta ∧ j ≤ m ∧ Below w.heap.size w wr ∧ wr.heap[w.heap.size]? = some (.cells #[.int .i64 x0, .int .i64 x1, .string s, .int .i64 x3, .slice (some ⟨gk, ok, none⟩) (m + 1) ck] 39) ∧ Hid (guards t false (ks.drop 1) = guards t ta ((ks.drop 1).drop j))) (fun _ v12 _ => m - (intOf v12).toNat)
    case atStart => exact ⟨0, false, rfl, rfl, Nat.zero_le _, hbx, hNx, rfl⟩
    case round =>
      obtain ⟨j, ta, rfl, rfl, hj, hbel, hN2, HT⟩ := hrel
      clear hbx hNx
      by_cases hjm : j < m
      · obtain ⟨k, hk⟩ : ∃ k, (ks.drop 1)[j]? = some k := ⟨_, List.getElem?_eq_getElem (by rw [HL.out]; exact hjm)⟩
        have hdk := drop_cons (ks.drop 1) j k hk
        have hti := HT.out
        rw [hdk, guards] at hti
        have hkr := HXA.out.2.2 k (List.mem_of_mem_drop (List.mem_of_getElem? hk))
        have ac := HRW.out j k hk
        have bc := (hbel.cell (p := ⟨gk, ok + 1 + j, none⟩) hgk).trans ac
        obtain ⟨kn, rfl⟩ : ∃ kn : Nat, k = (kn : Int) := ⟨k.toNat, by omega⟩
        obtain ⟨hym, hy⟩ := nodeAt_mem hkr
        rw [Int.toNat_natCast] at hy
        have hkq : kn < q := by rw [HQ.out]; omega
        obtain ⟨vy, n0, n1, n2, n3, n4, n5⟩ := HNODES.out kn _ hy
        obtain ⟨y, hyy⟩ : ∃ y, y = nodeAt t (kn : Int) := ⟨_, rfl⟩
        rw [← hyy] at n0 n1 n2 n3 n5 hti
        obtain ⟨y0, y1, y2, y3, ys⟩ := y
        obtain ⟨py, cy, rfl, fy⟩ := n5
        simp only at n0 n1 n2 n3 n4 hti
        have p0 := (hbel.cell (p := ⟨ga, oa + kn * 5, none⟩) hga).trans n0
        have p4 := (hbel.cell (p := ⟨ga, oa + kn * 5 + 4, none⟩) hga).trans n4
        obtain ⟨my, hmy⟩ : ∃ my, my = ys.length := ⟨_, rfl⟩
        rw [← hmy] at p4 hti
        by_cases hs1 : ta = true ∧ y0 = 56
        · rw [if_pos hs1] at hti
          obtain ⟨rfl, rfl⟩ := hs1
          have HR := Lib.hid hti
          clear HT hti hdk hk hkr ac n0 n1 n2 n3 n4 fy hy hym hyy hmy HXA HRW HNODES hN2
          go_wp2_with fail
          go_ret
          exact ⟨ret_bool HR.out.symm, hbel⟩
        · rw [if_neg hs1] at hti
          have HT2 := Lib.hid hti
          clear HT hti hdk hk hkr ac n0 n1 n2 n3 n4 fy hy hym hyy hmy HXA HRW HNODES
          by_cases h1 : my = 1
          · subst h1
            cases ta with
            | true =>
              have h0 : (y0 == 56) = false := by simp; intro e; exact hs1 ⟨rfl, e⟩
              clear hs1
              go_wp2_with fail
              exact ⟨⟨j + 1, _, by go_num, rfl, by omega, hbel, hN2, HT2⟩, by simp [intOf]; omega⟩
            | false =>
              clear hs1
              go_wp2_with fail
              exact ⟨⟨j + 1, _, by go_num, rfl, by omega, hbel, hN2, HT2⟩, by simp [intOf]; omega⟩
          · have g1 : ((my : Int) == 1) = false := by simp; omega
            rw [show decide (my = 1) = false from decide_eq_false h1] at HT2
            clear h1
            cases ta with
            | true =>
              have h0 : (y0 == 56) = false := by simp; intro e; exact hs1 ⟨rfl, e⟩
              clear hs1
              go_wp2_with fail
              exact ⟨⟨j + 1, _, by go_num, rfl, by omega, hbel, hN2, HT2⟩, by simp [intOf]; omega⟩
            | false =>
              clear hs1
              go_wp2_with fail
              exact ⟨⟨j + 1, _, by go_num, rfl, by omega, hbel, hN2, HT2⟩, by simp [intOf]; omega⟩
      · obtain rfl : j = m := by omega
        have HR : Hid (guards t false (ks.drop 1) = true) := by
          show _ = _
          rw [HT.out, List.drop_eq_nil_of_le (by rw [HL.out]; exact Nat.le_refl _)]
          rfl
        obtain ⟨c0, c1, c2, c3, c4⟩ := box5 (w := wr) hN2
        clear HT HXA HRW HNODES HL
        have gm : decide ((1 : Int) < (j : Int) + 1) = true := decide_eq_true (by omega)
        go_wp2_with fail
        go_ret
        exact ⟨ret_bool HR.out.symm, hbel⟩
theorem test_guard (w : World) : IsTest (fun t x => 1 ≤ x.2.2.2.2.length) tGuard (.func (.func 70) #[] #[]) w := test_of w (enters_of Tryz.func70 (by kernel_rfl) rfl) fun w' tv nv t x ha hn hal hx hp => guarded_any tv nv t x w' ha hn hal hx hp
end Go.Proofs.YtkmmcphiijolkaaGreatDoor
