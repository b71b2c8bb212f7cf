/-
  Parts; what a wide target, a row of parameters, and a try must be, at this program.
-/
import Derived.Test.YtkmmcphiijolkaaDoorTreeO
import Derived.Laws.Rows
set_option linter.unusedVariables false
set_option linter.unusedSimpArgs false
namespace Go.Proofs.YtkmmcphiijolkaaDoor
open Go.RowKit Go.Shelf
open Tr

theorem infoPart : (Tryd.prog.info? 75).map (fun i => i.size) = some 3 := by kernel_rfl
/-- A part that is handed back. -/
def PartV (p : PartD) (v : Value) (w : World) : Prop := ∃ u, v = .agg #[u, .int .i64 (p.2.1 : Int), .int .i64 (p.2.2 : Int)] ∧ IsTest All2 p.1 u w
set_option maxHeartbeats 2000000 in
theorem one_any (T : Test) (v : Value) (w : World) (h : IsTest All2 T v w) : Calls Tryd.prog 43 #[v] w fun e w' => ∃ u, e = .returned u ∧ PartV (pOne T) u w' ∧ Below w.heap.size w w' := by
  have H := Lib.hid h
  obtain ⟨k, c, rfl, he, h⟩ := h
  clear h
  go_enter Tryd.func43, Tryd.ntmps43
  go_wp2_with fail
  refine bodyPost_ret (results_cell_row rfl _ _ w.heap.size 75 #[.func (.func k) #[] c, .int .i64 1, .int .i64 1] (0, 0) _ rfl (heap_alloc_new w _) Tryd.underlying75 rfl infoPart) rfl ?_
  exact ⟨_, rfl, ⟨_, rfl, H.out.kept (Kept.alloc _ _)⟩, (Below.refl _ _).alloc (Nat.le_refl _) _⟩
set_option maxHeartbeats 2000000 in
theorem perhaps_any (T : Test) (v : Value) (w : World) (h : IsTest All2 T v w) : Calls Tryd.prog 55 #[v] w fun e w' => ∃ u, e = .returned u ∧ PartV (pMay T) u w' ∧ Below w.heap.size w w' := by
  have H := Lib.hid h
  obtain ⟨k, c, rfl, he, h⟩ := h
  clear h
  go_enter Tryd.func55, Tryd.ntmps55
  go_wp2_with fail
  refine bodyPost_ret (results_cell_row rfl _ _ w.heap.size 75 #[.func (.func k) #[] c, .int .i64 0, .int .i64 1] (0, 0) _ rfl (heap_alloc_new w _) Tryd.underlying75 rfl infoPart) rfl ?_
  exact ⟨_, rfl, ⟨_, rfl, H.out.kept (Kept.alloc _ _)⟩, (Below.refl _ _).alloc (Nat.le_refl _) _⟩
set_option maxHeartbeats 2000000 in
theorem many_any (T : Test) (v : Value) (w : World) (h : IsTest All2 T v w) : Calls Tryd.prog 45 #[v] w fun e w' => ∃ u, e = .returned u ∧ PartV (pMany T) u w' ∧ Below w.heap.size w w' := by
  have H := Lib.hid h
  obtain ⟨k, c, rfl, he, h⟩ := h
  clear h
  go_enter Tryd.func45, Tryd.ntmps45
  go_wp2_with fail
  refine bodyPost_ret (results_cell_row rfl _ _ w.heap.size 75 #[.func (.func k) #[] c, .int .i64 0, .int .i64 9223372036854775807] (0, 0) _ rfl (heap_alloc_new w _) Tryd.underlying75 rfl infoPart) rfl ?_
  exact ⟨_, rfl, ⟨_, rfl, H.out.kept (Kept.alloc _ _)⟩, (Below.refl _ _).alloc (Nat.le_refl _) _⟩

theorem ArgT.form {v : Value} {t : List NodeD} {w : World} (h : ArgT v t w) (hne : t ≠ []) : ∃ ga oa cat, v = .slice (some ⟨ga, oa, none⟩) t.length cat ∧ ga < w.heap.size ∧ ∀ (k : Nat) (x : NodeD), t[k]? = some x → ∃ vk,
    w.cell? ⟨ga, oa + k * 5, none⟩ = some (.int .i64 x.1) ∧ w.cell? ⟨ga, oa + k * 5 + 1, none⟩ = some (.int .i64 x.2.1) ∧ w.cell? ⟨ga, oa + k * 5 + 2, none⟩ = some (.string ⟨x.2.2.1.toArray⟩) ∧ w.cell? ⟨ga, oa + k * 5 + 3, none⟩ = some (.int .i64 x.2.2.2.1) ∧ w.cell? ⟨ga, oa + k * 5 + 4, none⟩ = some vk ∧ KRow vk x.2.2.2.2 w := by
  obtain ⟨pa, cat, rfl, fa⟩ := h
  cases t with
  | nil => exact absurd rfl hne
  | cons y l =>
    obtain ⟨ga, oa, _, rfl, hg, _⟩ := fa 0 y rfl
    refine ⟨ga, oa, cat, rfl, hg, fun k x hx => ?_⟩
    obtain ⟨g', o', vk, e, _, a0, a1, a2, a3, a4, a5⟩ := fa k x hx
    injection e with e
    injection e with e1 e2
    subst e1; subst e2
    exact ⟨vk, a0, a1, a2, a3, a4, a5⟩
theorem KRow.drop {pr : Option Addr} {cr G : Nat} {r : List Int} {w : World} (h : KRow (.slice pr r.length cr) r w) (hG : G ≤ r.length) :
    KRow (.slice (pr.map fun a => if cr = G then a else a.add G) (r.length - G) (cr - G)) (r.drop G) w := by
  obtain ⟨_, _, ekr, hcells, hcap⟩ := h
  injection ekr with ek1 ek2 ek3
  rw [← ek3] at hcap
  refine ⟨_, _, by rw [List.length_drop], fun k c hk => ?_, by rw [List.length_drop]; omega⟩
  have hlk := (List.getElem?_eq_some_iff.1 hk).1
  rw [List.length_drop] at hlk
  rw [List.getElem?_drop] at hk
  obtain ⟨g', o', he, hg', hc'⟩ := hcells _ _ hk
  rw [← ek1] at he
  subst he
  exact ⟨g', o' + G, by simp only [Option.map_some]; rw [if_neg (by omega)]; simp [Addr.add], hg', by rw [show o' + G + k = o' + (G + k) by omega]; exact hc'⟩
theorem KRow.take {pr : Option Addr} {cr n : Nat} {r : List Int} {w : World} (h : KRow (.slice pr r.length cr) r w) (hn : n ≤ r.length) : KRow (.slice pr n cr) (r.take n) w := by
  obtain ⟨_, _, ekr, hcells, hcap⟩ := h
  injection ekr with ek1 ek2 ek3
  rw [← ek3] at hcap
  have hl : (r.take n).length = n := by rw [List.length_take]; omega
  refine ⟨pr, cr, by rw [hl], fun k c hk => ?_, by rw [hl]; omega⟩
  have hlk := (List.getElem?_eq_some_iff.1 hk).1
  rw [hl] at hlk
  rw [List.getElem?_take, if_pos hlk] at hk
  obtain ⟨g', o', he, hg', hc'⟩ := hcells _ _ hk
  rw [← ek1] at he
  exact ⟨g', o', he, hg', hc'⟩

set_option maxHeartbeats 8000000 in
set_option maxRecDepth 100000 in
theorem wide_any (tv nv : Value) (t : List NodeD) (x : NodeD) (w : World) (hat : ArgT tv t w) (hn : NodeV nv x w) (hal : AllIn t) (hx : x ∈ t) :
    Calls Tryd.prog 57 #[tv, nv] w fun e w' => e = .returned (.bool (tWide t x)) ∧ Below w.heap.size w w' := by
  obtain ⟨hl, hall⟩ := hal
  have hxa := hall x hx
  have HN := Lib.hid hn
  obtain ⟨ga, oa, cat, rfl, hga, hnodes⟩ := hat.form (List.ne_nil_of_mem hx)
  have HNODES := Lib.hid hnodes
  obtain ⟨vk, rfl, hvk⟩ := hn
  have HVK := Lib.hid hvk
  obtain ⟨pk, ck, rfl, fk⟩ := hvk
  obtain ⟨x0, x1, x2, x3, ks⟩ := x
  simp only at hxa HVK HN ⊢
  obtain ⟨m, hm⟩ : ∃ m, m = ks.length := ⟨_, rfl⟩
  obtain ⟨q, hq⟩ : ∃ q, q = t.length := ⟨_, rfl⟩
  obtain ⟨s, hs⟩ : ∃ s : ByteArray, s = ⟨x2.toArray⟩ := ⟨_, rfl⟩
  have hml : m ≤ 9223372036854775807 := by rw [hm]; have := hxa.2.1; unfold maxLen at this; omega
  obtain ⟨W1, hW1⟩ : ∃ W1, W1 = w.alloc (.cells #[.int .i64 x0, .int .i64 x1, .string s, .int .i64 x3, .slice pk m ck] 37) := ⟨_, rfl⟩
  have hb1 : Below w.heap.size w W1 := by rw [hW1]; exact (Below.refl _ _).alloc (Nat.le_refl _) _
  have hN1 : W1.heap[w.heap.size]? = some (.cells #[.int .i64 x0, .int .i64 x1, .string s, .int .i64 x3, .slice pk m ck] 37) := by rw [hW1]; show (w.heap.push _)[_]? = _; simp
  have hcx := target_any (.slice (some ⟨ga, oa, none⟩) q cat) (.agg #[.int .i64 x0, .int .i64 x1, .string s, .int .i64 x3, .slice pk m ck]) (x0, x1, x2, x3, ks) W1 (by rw [hs, hm]; exact HN.out.below hb1)
  rw [← hm, ← hq, ← hs]
  rw [← hq] at hl
  have HM := Lib.hid hm
  have HQ := Lib.hid hq
  have HXA := Lib.hid hxa
  have HW1 := Lib.hid hW1
  rw [hW1] at hcx
  by_cases h8 : x0 = 8
  · subst h8
    have HR : Hid (tWide t (8, x1, x2, x3, ks) = (ks.all (fun k => isTarget (nodeAt t k).1) && decide (0 < ks.length))) := by show _ = _; simp [tWide]
    rw [HR.out]
    clear HR fk hxa hall hx hnodes hm hq hs hW1 hcx HN
    go_enter Tryd.func57, Tryd.ntmps57
    go_wp2_with fail
    rw [← HW1.out]
    clear HW1
    go_loopw [16] (fun v16 wr => ∃ j : Nat, v16 = .int .i64 (j : Int) ∧ j ≤ m ∧ Below w.heap.size w wr ∧ wr.heap[w.heap.size]? = some (.cells #[.int .i64 8, .int .i64 x1, .string s, .int .i64 x3, .slice pk m ck] 37) ∧ Hid (ks.all (fun k => isTarget (nodeAt t k).1) = (ks.drop j).all (fun k => isTarget (nodeAt t k).1))) (fun v16 _ => m - (intOf v16).toNat)
    case atStart => exact ⟨0, rfl, Nat.zero_le _, hb1, hN1, rfl⟩
    case round =>
      obtain ⟨j, rfl, hj, hbel, hN2, HT⟩ := hrel
      clear hb1 hN1
      by_cases hjm : j < m
      · obtain ⟨k, hk⟩ : ∃ k, ks[j]? = some k := ⟨_, List.getElem?_eq_getElem (by rw [← HM.out]; exact hjm)⟩
        have hdk := drop_cons ks j k hk
        have hti := HT.out
        rw [hdk, List.all_cons] at hti
        have hkr := HXA.out.2.2 k (List.mem_of_getElem? hk)
        obtain ⟨_, _, ekr, hcells, _⟩ := HVK.out
        injection ekr with ek1 ek2 ek3
        obtain ⟨gk, ok, hpr, hgk, ac⟩ := hcells j k hk
        rw [← ek1] at hpr
        subst hpr
        have bc := (hbel.cell (p := ⟨gk, ok + j, none⟩) hgk).trans ac
        obtain ⟨kn, rfl⟩ : ∃ kn : Nat, k = (kn : Int) := ⟨k.toNat, by omega⟩
        obtain ⟨hym, hy⟩ := nodeAt_mem hkr
        rw [Int.toNat_natCast] at hy
        have hkq : kn < q := by rw [HQ.out]; omega
        obtain ⟨vy, n0, n1, n2, n3, n4, n5⟩ := HNODES.out kn _ hy
        obtain ⟨y, hyy⟩ : ∃ y, y = nodeAt t (kn : Int) := ⟨_, rfl⟩
        rw [← hyy] at n0 n1 n2 n3 n5 hti
        have hct := target_any (.slice (some ⟨ga, oa, none⟩) q cat) (.agg #[.int .i64 y.1, .int .i64 y.2.1, .string ⟨y.2.2.1.toArray⟩, .int .i64 y.2.2.2.1, vy]) y wr ⟨vy, rfl, n5.below hbel⟩
        obtain ⟨y0, y1, y2, y3, ys⟩ := y
        obtain ⟨py, cy, rfl, fy⟩ := n5
        simp only at n0 n1 n2 n3 n4 hct hti
        have p0 := (hbel.cell (p := ⟨ga, oa + kn * 5, none⟩) hga).trans n0
        have p1 := (hbel.cell (p := ⟨ga, oa + kn * 5 + 1, none⟩) hga).trans n1
        have p2 := (hbel.cell (p := ⟨ga, oa + kn * 5 + 2, none⟩) hga).trans n2
        have p3 := (hbel.cell (p := ⟨ga, oa + kn * 5 + 3, none⟩) hga).trans n3
        have p4 := (hbel.cell (p := ⟨ga, oa + kn * 5 + 4, none⟩) hga).trans n4
        obtain ⟨sy, hsy⟩ : ∃ sy : ByteArray, sy = ⟨y2.toArray⟩ := ⟨_, rfl⟩
        obtain ⟨my, hmy⟩ : ∃ my, my = ys.length := ⟨_, rfl⟩
        rw [← hsy] at p2 hct
        rw [← hmy] at p4 hct
        cases hT : isTarget y0 with
        | true =>
          rw [hT, Bool.true_and] at hti
          rw [hT] at hct
          have HT2 := Lib.hid hti
          have hNx : ∀ w3, Below wr.heap.size wr w3 → w3.heap[w.heap.size]? = some (.cells #[.int .i64 8, .int .i64 x1, .string s, .int .i64 x3, .slice (some ⟨gk, ok, none⟩) m ck] 37) ∧ Below w.heap.size w w3 := fun w3 h3 =>
            ⟨(h3.block w.heap.size (Array.getElem?_eq_some_iff.1 hN2).1).trans hN2, hbel.trans (h3.mono hbel.size)⟩
          have HNX := Lib.hid hNx
          clear HT hti hdk hk hkr hcells ac n0 n1 n2 n3 n4 fy hy hym hyy hsy hmy hT ek1 ek2 ek3 HXA HVK HNODES hN2 hNx hgk
          go_wp2_with (go_at_call 58; refine hct.mono ?_; rintro e w3 ⟨rfl, hb3⟩)
          exact ⟨⟨j + 1, by go_num, by omega, (HNX.out w3 hb3).2, (HNX.out w3 hb3).1, HT2.out⟩, by simp [intOf]; omega⟩
        | false =>
          rw [hT, Bool.false_and] at hti
          rw [hT] at hct
          have HT2 := Lib.hid hti
          have HR : Hid ((ks.all (fun k => isTarget (nodeAt t k).1) && decide (0 < ks.length)) = false) := by show _ = _; rw [HT2.out]; rfl
          clear HT hti hdk hk hkr hcells ac n0 n1 n2 n3 n4 fy hy hym hyy hsy hmy hT ek1 ek2 ek3 HXA HVK HNODES hN2 hgk HT2
          go_wp2_with (go_at_call 58; refine hct.mono ?_; rintro e w3 ⟨rfl, hb3⟩)
          go_ret
          exact ⟨ret_bool HR.out.symm, hbel.trans (hb3.mono hbel.size)⟩
      · obtain rfl : j = m := by omega
        have HR : Hid ((ks.all (fun k => isTarget (nodeAt t k).1) && decide (0 < ks.length)) = decide (0 < j)) := by
          show _ = _
          rw [HT.out, HM.out, List.drop_length]
          simp
        obtain ⟨c0, c1, c2, c3, c4⟩ := box5 (w := wr) hN2
        clear HT HXA HVK HNODES
        go_wp2_with fail
        go_ret
        exact ⟨ret_bool (by rw [HR.out]), hbel⟩
  · have HR : Hid (tWide t (x0, x1, x2, x3, ks) = isTarget x0) := by show _ = _; simp [tWide, h8]
    rw [HR.out]
    have hNx : ∀ w3, Below W1.heap.size W1 w3 → Below w.heap.size w w3 := fun w3 h3 => hb1.trans (h3.mono hb1.size)
    rw [hW1] at hNx
    clear HR fk hxa hall hx hnodes hm hq hs hW1 HN hN1 hb1
    go_enter Tryd.func57, Tryd.ntmps57
    go_wp2_with (go_at_call 58; refine hcx.mono ?_; clear hcx; rintro e w3 ⟨rfl, hb3⟩)
    go_ret
    exact ⟨rfl, hNx _ hb3⟩
theorem test_wide (w : World) : IsTest All2 tWide (.func (.func 57) #[] #[]) w := test_of w (enters_of Tryd.func57 (by kernel_rfl) rfl) fun w' tv nv t x ha hn hal hx _ => wide_any tv nv t x w' ha hn hal hx

set_option maxHeartbeats 8000000 in
set_option maxRecDepth 100000 in
theorem defaultsLast_any (tv nv : Value) (t : List NodeD) (x : NodeD) (w : World) (hat : ArgT tv t w) (hn : NodeV nv x w) (hal : AllIn t) (hx : x ∈ t) (hpre : 1 ≤ x.2.2.2.2.length) :
    Calls Tryd.prog 54 #[tv, nv] w fun e w' => e = .returned (.bool (tDefs t x)) ∧ Below w.heap.size w w' := by
  obtain ⟨hl, hall⟩ := hal
  have hxa := hall x hx
  obtain ⟨ga, oa, cat, rfl, hga, hnodes⟩ := hat.form (List.ne_nil_of_mem hx)
  have HNODES := Lib.hid hnodes
  obtain ⟨vk, rfl, hvk⟩ := hn
  have HVK := Lib.hid hvk
  obtain ⟨pk, ck, rfl, fk⟩ := hvk
  obtain ⟨x0, x1, x2, x3, ks⟩ := x
  simp only at hxa HVK hpre ⊢
  obtain ⟨m, hm⟩ : ∃ m, ks.length = m + 1 := ⟨ks.length - 1, by omega⟩
  obtain ⟨q, hq⟩ : ∃ q, q = t.length := ⟨_, rfl⟩
  obtain ⟨s, hs⟩ : ∃ s : ByteArray, s = ⟨x2.toArray⟩ := ⟨_, rfl⟩
  have hml : m + 1 ≤ 9223372036854775807 := by rw [← hm]; have := hxa.2.1; unfold maxLen at this; omega
  have hmc : m + 1 ≤ ck := by rw [← hm]; exact fk.2
  have HRW : Hid (KRow (.slice pk m ck) (ks.take m) w) := HVK.out.take (by omega)
  have HR : Hid (tDefs t (x0, x1, x2, x3, ks) = defs t false (ks.take m)) := by show _ = _; unfold tDefs; rw [List.dropLast_eq_take, hm]; rfl
  have hbx := (Below.refl w.heap.size w).alloc (Nat.le_refl _) (.cells #[.int .i64 x0, .int .i64 x1, .string s, .int .i64 x3, .slice pk (m + 1) ck] 37)
  have HL : Hid ((ks.take m).length = m) := by show _ = _; rw [List.length_take]; omega
  rw [HR.out]
  rw [hm, ← hq, ← hs]
  rw [← hq] at hl
  have HM := Lib.hid hm
  have HQ := Lib.hid hq
  have HXA := Lib.hid hxa
  have hw : IntKind.i64.wrap (m : Int) = (m : Int) := IntWalk.i64_in _ (by omega)
  clear HR fk hxa hall hx hnodes hm hq hs HVK hpre
  go_enter Tryd.func54, Tryd.ntmps54
  go_wp2_with fail
  go_loopw [6, 19] (fun v6 v19 wr => ∃ (j : Nat) (sn : Bool), v19 = .int .i64 (j : Int) ∧ v6 = .bool sn ∧ j ≤ m ∧ Below w.heap.size w wr ∧ Hid (defs t false (ks.take m) = defs t sn ((ks.take m).drop j))) (fun _ v19 _ => m - (intOf v19).toNat)
  case atStart => exact ⟨0, false, rfl, rfl, Nat.zero_le _, hbx, rfl⟩
  case round =>
    obtain ⟨j, sn, rfl, rfl, hj, hbel, HT⟩ := hrel
    clear hbx
    by_cases hjm : j < m
    · obtain ⟨k, hk⟩ : ∃ k, (ks.take m)[j]? = some k := ⟨_, List.getElem?_eq_getElem (by rw [HL.out]; exact hjm)⟩
      have hdk := drop_cons (ks.take m) j k hk
      have hti := HT.out
      rw [hdk, defs] at hti
      have hkr := HXA.out.2.2 k (List.mem_of_mem_take (List.mem_of_getElem? hk))
      obtain ⟨_, _, ekr, hcells, _⟩ := HRW.out
      injection ekr with ek1 ek2 ek3
      obtain ⟨gk, ok, hpr, hgk, ac⟩ := hcells j k hk
      rw [← ek1] at hpr
      subst hpr
      have bc := (hbel.cell (p := ⟨gk, ok + j, none⟩) hgk).trans ac
      obtain ⟨kn, rfl⟩ : ∃ kn : Nat, k = (kn : Int) := ⟨k.toNat, by omega⟩
      obtain ⟨hym, hy⟩ := nodeAt_mem hkr
      rw [Int.toNat_natCast] at hy
      have hkq : kn < q := by rw [HQ.out]; omega
      obtain ⟨vy, n0, n1, n2, n3, n4, n5⟩ := HNODES.out kn _ hy
      obtain ⟨y, hyy⟩ : ∃ y, y = nodeAt t (kn : Int) := ⟨_, rfl⟩
      rw [← hyy] at n0 n1 n2 n3 n5 hti
      obtain ⟨y0, y1, y2, y3, ys⟩ := y
      obtain ⟨py, cy, rfl, fy⟩ := n5
      simp only at n0 n1 n2 n3 n4 hti
      have p0 := (hbel.cell (p := ⟨ga, oa + kn * 5, none⟩) hga).trans n0
      have p4 := (hbel.cell (p := ⟨ga, oa + kn * 5 + 4, none⟩) hga).trans n4
      obtain ⟨my, hmy⟩ : ∃ my, my = ys.length := ⟨_, rfl⟩
      rw [← hmy] at p4 hti

      by_cases hs1 : sn = true ∧ my = 0
      · rw [if_pos hs1] at hti
        obtain ⟨rfl, rfl⟩ := hs1
        have HR := Lib.hid hti
        clear HT hti hdk hk hkr hcells ac n0 n1 n2 n3 n4 fy hy hym hyy hmy ek1 ek2 ek3 HXA HRW HNODES hgk
        go_wp2_with fail
        go_ret
        exact ⟨ret_bool HR.out.symm, hbel⟩
      · rw [if_neg hs1] at hti
        have HT2 := Lib.hid hti
        clear HT hti hdk hk hkr hcells ac n0 n1 n2 n3 n4 fy hy hym hyy hmy ek1 ek2 ek3 HXA HRW HNODES hgk
        cases sn with
        | true =>
          have h0 : 0 < my := by rcases Nat.eq_zero_or_pos my with h | h; exact absurd ⟨rfl, h⟩ hs1; exact h
          clear hs1
          go_wp2_with fail
          exact ⟨⟨j + 1, _, by go_num, rfl, by omega, hbel, by first | exact HT2 | (rw [show decide (0 < my) = true from decide_eq_true h0] at HT2; exact HT2)⟩, by simp [intOf]; omega⟩
        | false =>
          clear hs1
          go_wp2_with fail
          exact ⟨⟨j + 1, _, by go_num, rfl, by omega, hbel, HT2⟩, by simp [intOf]; omega⟩
    · obtain rfl : j = m := by omega
      have HR : Hid (defs t false (ks.take j) = true) := by
        show _ = _
        rw [HT.out, List.drop_eq_nil_of_le (by rw [HL.out]; exact Nat.le_refl _)]
        rfl
      clear HT HXA HRW HNODES HL
      go_wp2_with fail
      go_ret
      exact ⟨ret_bool HR.out.symm, hbel⟩
theorem test_defs (w : World) : IsTest (fun t x => 1 ≤ x.2.2.2.2.length) tDefs (.func (.func 54) #[] #[]) w := test_of w (enters_of Tryd.func54 (by kernel_rfl) rfl) fun w' tv nv t x ha hn hal hx hp => defaultsLast_any tv nv t x w' ha hn hal hx hp
end Go.Proofs.YtkmmcphiijolkaaDoor
