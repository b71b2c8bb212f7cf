/-
  Texts of the tree package put behind one another: TreeOO, TreePP, TreeRR, TreeQQ.
-/
import Derived.Test.YtkmmcphiijolkaaGreatDoorZf
import Derived.Deep.DeepCutAuto
import Derived.Deep.CutBlock
set_option linter.unusedVariables false
set_option linter.unusedSimpArgs false
namespace Go.Proofs.YtkmmcphiijolkaaGreatDoor
open Go.RowKit Go.Shelf
open Tr
attribute [local go_sem] Oper.semAt_some

theorem take_pre (xs : List Nat) (j k : Nat) (h : xs[j]? = some k) : xs.take j ++ [k] <+: xs ∧ xs.take (j + 1) = xs.take j ++ [k] := by
  have e : xs.take (j + 1) = xs.take j ++ [k] := by rw [List.take_add_one, h]; rfl
  exact ⟨by rw [← e]; exact List.take_prefix _ _, e⟩

set_option maxHeartbeats 4000000 in
theorem values_gives (F : Fence) (hd : F.depth = none) (hro : F.round = none) (n : Nat) (hF : F.fn 106) (w0 : World) (v : Value) (xs : List Nat) (hv : KRow v (castL xs) w0) (hkl : xs.length ≤ 1000000) (b1 : Nat) (R : World → Nat → Prop) (w : World) (hD : Dyn R w.heap.size)
    (hb0 : Below w0.heap.size w0 w) (hR0 : ∀ A k, R A k → w0.heap.size ≤ k) (hb1 : b1 < w.heap.size)
    (h1 : w.cell? ⟨b1, 0, none⟩ = some v) :
    GivesR F n Tryz.prog 106 #[.pointer (some ⟨b1, 0, none⟩)] (fun x : Nat => #[.int .i64 (x : Int)]) (fun pre => pre <+: xs) (fun q => q = xs) R w := by
  intro l J Jx W hl hlW hW hnl hr1 hJ hJx hY h0
  obtain ⟨pk, ck, rfl, fk⟩ := hv
  have FK := Lib.hid fk.1
  obtain ⟨m, hm⟩ : ∃ m, m = xs.length := ⟨_, rfl⟩
  have hcl : (castL xs).length = m := by rw [hm]; simp [castL]
  rw [hcl] at h1
  rw [← hm] at hkl
  have HM := Lib.hid hm
  have hw0 := hb0.size
  have hWs := hW.size
  have c1 : W.cell? ⟨b1, 0, none⟩ = some (.slice pk m ck) := (hW.cell (p := ⟨b1, 0, none⟩) hb1).trans h1
  have hbW : Below w0.heap.size w0 W := hb0.trans (hW.mono hw0)
  clear h1 hm fk hcl
  refine callsIn_of_wp Tryz.func106 rfl hF ?_ hro
  simp only [Tryz.ntmps106, List.size_toArray, List.length_cons, List.length_nil, Nat.reduceAdd, Nat.reduceSub, Array.replicate_succ, Array.replicate_zero, List.push_toArray, List.append_toArray, List.nil_append, List.cons_append]
  gi_wp2
  gi_loopw [7] (fun v7 wr => ∃ (j : Nat), v7 = .int .i64 (j : Int) ∧ j ≤ m ∧ J (xs.take j) wr ∧ Chg (fun A k => R A k ∨ k = l) W wr) (fun v7 _ => m - (intOf v7).toNat)
  case atStart => exact ⟨0, rfl, Nat.zero_le _, h0, Chg.refl _ _⟩
  case round =>
    obtain ⟨j, rfl, hj, hJj, hch⟩ := hrel
    have hbr : Below w0.heap.size w0 wr := hbW.trans (hch.below (by omega) (fun k hk h => h.elim (fun h => by have := hR0 _ k h; omega) (fun h => by omega)))
    by_cases hjm : j < m
    · obtain ⟨k, hk⟩ : ∃ k, xs[j]? = some k := ⟨_, List.getElem?_eq_getElem (by rw [← HM.out]; exact hjm)⟩
      obtain ⟨gk, ok, rfl, hgk, ac⟩ := FK.out j (k : Int) (by simp [castL, hk])
      have bc := (hbr.cell (p := ⟨gk, ok + j, none⟩) hgk).trans ac
      obtain ⟨hpre, hks⟩ := take_pre xs j k hk
      have HWS : Hid (W.heap.size ≤ wr.heap.size) := hch.size
      obtain ⟨fn, tmps, assign, body, hy, hRd⟩ := hY _ k wr hJj HWS.out hpre
      rw [← hks] at hRd
      clear ac hk FK c1 hbW hY hpre hks hJj
      gi_wp2_with ((try refine ⟨depthless hd _, ?_⟩); refine hRd.mono ?_; clear hRd; rintro e W3 ⟨hc3, (⟨rfl, hJ3⟩ | ⟨rfl, hJx3⟩)⟩)
      · gi_wp2
        go_roundw
        case rel => exact ⟨j + 1, by go_num, by omega, hJ3, hch.trans hc3⟩
        case measure => simp [intOf]; omega
      · gi_wp2
        refine bodyPost_ret (results_none rfl _ _ _) rfl ?_
        exact ⟨⟨_, rfl⟩, hch.trans hc3, .inr ⟨_, hJx3⟩⟩
    · obtain rfl : j = m := by omega
      clear hY FK
      have hJe : J xs wr := by rw [HM.out, List.take_length] at hJj; exact hJj
      clear HM
      gi_wp2
      go_end0
      exact ⟨⟨_, rfl⟩, hch, .inl ⟨_, rfl, hJe⟩⟩

set_option maxHeartbeats 2000000 in
theorem Values_any (pa : Option Addr) (k c : Nat) (w : World) :
    Calls Tryz.prog 84 #[.slice pa k c] w fun e w' => e = .returned (.func (.func 106) #[] #[.pointer (some ⟨w.heap.size, 0, none⟩)]) ∧ w' = w.alloc (.cells #[.slice pa k c] 24) := by
  go_enter Tryz.func84, Tryz.ntmps84
  go_wp2
  go_ret
  exact ⟨rfl, rfl⟩

set_option maxHeartbeats 8000000 in
theorem All_any (w : World) (tv : Value) (t : List NodeD) (ha : ArgT tv t w) (hl : t.length ≤ 1000000) (hks : ∀ x ∈ t, x.2.2.2.2.length ≤ maxLen) (node : Int) :
    Calls Tryz.prog 35 #[tv, .int .i64 node] w fun e w' => ∃ (b : Nat) (v : Value), e = .returned (.func (.func 106) #[] #[.pointer (some ⟨b, 0, none⟩)]) ∧ w.heap.size ≤ b ∧ b < w'.heap.size ∧ w'.cell? ⟨b, 0, none⟩ = some v ∧ KRow v (castL (belowT t node)) w' ∧ Below w.heap.size w w' := by
  have HA := Lib.hid ha
  obtain ⟨pa, ca, rfl, fa⟩ := ha
  obtain ⟨m, hm⟩ : ∃ m, m = t.length := ⟨_, rfl⟩
  rw [← hm] at HA ⊢
  clear fa hm
  obtain ⟨W2, hW2⟩ : ∃ W2, W2 = (w.alloc (.cells #[.slice pa m ca] 23)).alloc (.cells #[.int .i64 node] 3) := ⟨_, rfl⟩
  have hb2 : Below w.heap.size w W2 := by rw [hW2]; exact ((Below.refl _ w).alloc (Nat.le_refl _) _).alloc (by simp) _
  have hs2 : W2.heap.size = w.heap.size + 2 := by rw [hW2]; simp
  have q2 : W2.cell? ⟨w.heap.size, 0, none⟩ = some (.slice pa m ca) := by
    rw [hW2, World.cell?_alloc_past _ _ _ (by simp), World.cell?_alloc_at _ _ _ _ (by simp)]; rfl
  have q3 : W2.cell? ⟨w.heap.size + 1, 0, none⟩ = some (.int .i64 node) := by
    rw [hW2, World.cell?_alloc_at _ _ _ _ (by simp)]; rfl
  have hit : IterR Fence.wide 89 #[.pointer (some ⟨w.heap.size, 0, none⟩), .pointer (some ⟨w.heap.size + 1, 0, none⟩)] (Few t) (fun xs => xs = belowT t node) W2 :=
    below_iter Fence.wide fen_wide w W2 (.slice pa m ca) t HA.out hl hks node _ _ hb2 (by omega) (by omega) q2 q3
  have hbl := fun n => (callsIn_wide (n := n)).1 (below_in Fence.wide n trivial rfl pa m ca node w)
  have hcol := (callsIn_wide (n := 3)).1 (Collect_in Fence.wide fen_wide 3 W2 89 _ trivial (enters_of Tryz.func89 (by kernel_rfl) rfl) (Few t) (fun xs => xs = belowT t node) (fun q h => Nat.le_trans (few_length h) hl) hit)
  have hcol2 := hcol.mono (R' := fun e WS => ∃ v, e = .returned v ∧ Hid (KRow v (castL (belowT t node)) WS) ∧ Below W2.heap.size W2 WS) (by
    rintro e WS ⟨v, xs, rfl, rfl, hown, hbs⟩
    refine ⟨v, rfl, ?_, hbs⟩
    have e : (belowT t node).map (fun x : Nat => Value.int .i64 (x : Int)) = (castL (belowT t node)).map (Value.int .i64) := by simp [castL]
    rw [e] at hown
    exact own_krowI hown)
  have HC := Lib.hid hcol2
  have HBL := Lib.hid (hbl 3)
  rw [hW2] at HC
  clear hit hcol hcol2 hbl
  go_enter Tryz.func35, Tryz.ntmps35
  go_wp2_with (first
    | (go_at_call 43; refine HBL.out.mono ?_; rintro e w' ⟨rfl, rfl⟩)
    | (go_at_call 39; refine HC.out.mono ?_; rintro e WS ⟨v, rfl, HK, hbs⟩; obtain ⟨pv, cv, ev, fv⟩ := HK.out; obtain ⟨nv, hnv⟩ := hid_ex (castL (belowT t node)).length; rw [hnv.out] at ev; clear fv; subst ev)
    | (go_at_call 84; refine (Values_any pv nv cv WS).mono ?_; rintro e w' ⟨rfl, rfl⟩))
  go_ret
  rw [← hW2] at hbs
  have hbS : Below w.heap.size w WS := hb2.trans (hbs.mono hb2.size)
  refine ⟨WS.heap.size, .slice pv nv cv, rfl, hbS.size, by simp, ?_, HK.out.below ((Below.refl _ _).alloc (Nat.le_refl _) _), hbS.alloc hbS.size _⟩
  rw [World.cell?_alloc_at _ _ _ _ rfl]; rfl
end Go.Proofs.YtkmmcphiijolkaaGreatDoor

set_option linter.unusedVariables false
set_option linter.unusedSimpArgs false
namespace Go.Proofs.YtkmmcphiijolkaaGreatDoor
open Go.RowKit Go.Shelf
open Tr

namespace Tr
/-- Depths of the nodes ahead of i. -/
def dpi (t : List NodeD) (i : Nat) : Nat → Nat := fun j => if j < i then depF t j else 0
theorem dpi_grow0 (t : List NodeD) (i j : Nat) : dpi t i j = grow (dpi t i) i 0 j := by
  by_cases h : j = i <;> simp [grow, h, dpi]
theorem dpi_next (t : List NodeD) (i j : Nat) : grow (dpi t i) i (depF t i) j = dpi t (i + 1) j := by
  by_cases h : j = i
  · simp [grow, h, dpi]
  · by_cases h2 : j < i
    · simp [grow, h, dpi, h2, Nat.lt_succ_of_lt h2]
    · have : ¬ j < i + 1 := by omega
      simp [grow, h, dpi, h2, this]
def dmax (t : List NodeD) (l : List Nat) : Nat := l.foldl (fun a k => max a (depF t k)) 0
theorem dmax_snoc (t : List NodeD) (l : List Nat) (k : Nat) : dmax t (l ++ [k]) = max (dmax t l) (depF t k) := by simp [dmax, List.foldl_append]
theorem dmax_le (t : List NodeD) (i : Nat) (l : List Nat) (h : ∀ k ∈ l, k < i) : dmax t l ≤ i :=
  fold_max_le (depF t) i l 0 (Nat.zero_le _) (fun k hk => by have := depF_le t k; have := h k hk; omega)
end Tr

set_option maxHeartbeats 16000000 in
set_option maxRecDepth 100000 in
theorem depths_any (v : Value) (t : List NodeD) (w : World) (ha : ArgT v t w) (hl : t.length ≤ 900000) (hks : ∀ x ∈ t, x.2.2.2.2.length ≤ 900000) :
    Calls Tryz.prog 29 #[v] w fun e w' => ∃ H : Nat, e = .returned (.slice (some ⟨H, 0, none⟩) t.length t.length) ∧ w.heap.size ≤ H ∧ w'.rowIs H 3 t.length (rowN (depF t)) ∧ Below w.heap.size w w' := by
  have HA := Lib.hid ha
  obtain ⟨pa, ca, rfl, fa⟩ := ha
  have hmk := make_ints t.length (by omega)
  have HL : Hid (t.length ≤ 900000) := hl
  have HKI := Lib.hid hks
  obtain ⟨n, hn⟩ : ∃ n, n = t.length := ⟨_, rfl⟩
  rw [← hn] at hmk hl HA ⊢
  have HN := Lib.hid hn
  have hr0 := World.rowIs_made w (.int .i64 0) n 3
  have hr1 : (w.alloc (.cells (madeCells #[.int .i64 0] n) 3)).rowIs w.heap.size 3 n (rowN (dpi t 0)) := hr0.congr (fun j _ => by simp [rowN, dpi])
  have HR1 := Lib.hid hr1
  clear fa hks hn hr0 hr1
  go_enter Tryz.func29, Tryz.ntmps29
  go_wp2_with fail
  go_loopw [4] (fun v4 wr => ∃ (i : Nat), v4 = .int .i64 (i : Int) ∧ i ≤ n ∧ Hid (wr.rowIs w.heap.size 3 n (rowN (dpi t i))) ∧ Hid (Below w.heap.size w wr)) (fun v4 _ => n - (intOf v4).toNat)
  case atStart => exact ⟨0, rfl, Nat.zero_le _, HR1, (show Below _ _ _ from (Below.refl _ _).alloc (Nat.le_refl _) _)⟩
  case round =>
    obtain ⟨i, rfl, hi, HR, HB⟩ := hrel
    clear HR1
    by_cases hlt : i < n
    · have hlt2 : (i : Int) < (n : Int) := by omega
      have hws : w.heap.size ≤ wr.heap.size := HB.out.size
      have hH := HR.out.lt
      go_upto_region 6 with (go_at_call 30; go_loud (refine (Kids_any _ t wr ((show ArgT _ _ _ from by have := HA.out.below HB.out; exact this)) (by have := HL.out; omega) HKI.out i (by rw [← HN.out]; exact hlt)).mono ?_; rintro e w1 ⟨pr, m, c, rfl, hown, hb1⟩; have HOW := Lib.hid hown; have HB1 := Lib.hid hb1; clear hown hb1))
      have hmlen : Hid (m = (kidN t i).length) := (show _ = _ by have := HOW.out.1; simpa [castL] using this.symm)
      have HK1 := Lib.hid (own_krowI HOW.out)
      have HR0 : Hid (w1.rowIs w.heap.size 3 n (rowN (grow (dpi t i) i 0))) := (show World.rowIs _ _ _ _ _ from (HR.out.of_block (HB1.out.block _ hH)).congr (fun j _ => by simp only [rowN]; rw [dpi_grow0]))
      have HB2 : Hid (Below w.heap.size w w1) := (show Below _ _ _ from HB.out.trans (HB1.out.mono hws))
      have hm6 : m ≤ 900000 := by
        rw [hmlen.out]
        have h1 := HL.out
        have h2 := HN.out
        have h3 : (kidN t i).length ≤ 900000 := by
          unfold kidN
          obtain ⟨x, hx⟩ : ∃ x, t[i]? = some x := ⟨_, List.getElem?_eq_getElem (by rw [← HN.out]; exact hlt)⟩
          have h4 := HKI.out x (List.mem_of_getElem? hx)
          have h5 : (kidsOf i x.2.2.2.2).length ≤ x.2.2.2.2.length := kidsOf_length i _
          unfold nodeAt
          rw [Int.toNat_natCast, hx]
          exact Nat.le_trans h5 h4
        exact h3
      have HGN : Hid (∀ g, (Value.slice pr m c).ownBlock = some g → w.heap.size < g) := (show ∀ g, _ → _ from fun g e => Nat.lt_of_lt_of_le hH (HOW.out.lt g e).1)
      clear HR HB HOW HB1 hH
      go_wp2_with fail
      go_loopw [6] (fun v6 wk => ∃ (j : Nat), v6 = .int .i64 (j : Int) ∧ j ≤ m ∧ Hid (wk.rowIs w.heap.size 3 n (rowN (grow (dpi t i) i (dmax t ((kidN t i).take j))))) ∧ Hid (Below w.heap.size w wk) ∧ Hid (KRow (.slice pr m c) (castL (kidN t i)) wk)) (fun v6 _ => m - (intOf v6).toNat)
      case atStart => exact ⟨0, rfl, Nat.zero_le _, HR0, HB2, HK1⟩
      case round =>
        obtain ⟨j, rfl, hj, HRk, HBk, HKk⟩ := hrel
        clear HR0 HB2 HK1
        by_cases hjm : j < m
        · obtain ⟨k, hk⟩ : ∃ k, (kidN t i)[j]? = some k := ⟨_, List.getElem?_eq_getElem (by rw [← hmlen.out]; exact hjm)⟩
          have hki := kidN_lt t i k (List.mem_of_getElem? hk)
          have hkn : k < n := by omega
          obtain ⟨pk2, ck2, ek, fk, _⟩ := HKk.out
          obtain ⟨gk, ok, ep, hgk, bc⟩ := fk j (k : Int) (by simp [castL, hk])
          injection ek with ek1 ek2 ek3
          rw [← ek1] at ep
          subst ep
          have hts := take_snoc (kidN t i) j _ hk
          have eD : Hid (dmax t ((kidN t i).take (j + 1)) = max (dmax t ((kidN t i).take j)) (depF t k)) := by show _ = _; rw [hts, dmax_snoc]
          obtain ⟨D, hD⟩ := hid_ex (dmax t ((kidN t i).take j))
          have HR2 := HRk
          rw [hD.out] at HR2 eD
          have d1 := HR2.out.cell hlt
          have d2 := HR2.out.cell hkn
          have d3 := HR2.out.frozen i
          rw [show rowN (grow (dpi t i) i D) i = .int .i64 (D : Int) by simp [rowN, grow]] at d1
          rw [show rowN (grow (dpi t i) i D) k = .int .i64 ((depF t k : Nat) : Int) by simp [rowN, grow, Nat.ne_of_lt hki, dpi, hki]] at d2
          obtain ⟨dk, hdk⟩ := hid_ex (depF t k)
          rw [hdk.out] at d2 eD
          have hmx : max (D : Int) (dk : Int) = ((max D dk : Nat) : Int) := by omega
          have hjm2 : (j : Int) < (m : Int) := by omega
          obtain ⟨W1, hW1⟩ : ∃ W1, W1 = (wr.setCell ⟨w.heap.size, i, none⟩ (.int .i64 ((max D dk : Nat) : Int))).drew := ⟨_, rfl⟩
          have HR3 : Hid (W1.rowIs w.heap.size 3 n (rowN (grow (dpi t i) i (max D dk)))) := (show World.rowIs _ _ _ _ _ from by rw [hW1]; exact ((HR2.out.set i (.int .i64 ((max D dk : Nat) : Int))).congr (g := rowN (grow (dpi t i) i (max D dk))) (fun q _ => rowN_grow _ _ _ _ q)).drew)
          have HB3 : Hid (Below w.heap.size w W1) := (show Below _ _ _ from by rw [hW1]; exact (HBk.out.setCell (p := ⟨w.heap.size, i, none⟩) (Nat.le_refl _) (.int .i64 ((max D dk : Nat) : Int))).drew)
          have HK3 : Hid (KRow (.slice (some ⟨gk, ok, none⟩) m c) (castL (kidN t i)) W1) := (show KRow _ _ _ from by
            rw [hW1]
            refine (HKk.out.same (w' := wr.setCell ⟨w.heap.size, i, none⟩ (.int .i64 ((max D dk : Nat) : Int))) (by simp) (fun _ g e _ => Below.heap_setCell wr ⟨w.heap.size, i, none⟩ _ g (by have := HGN.out g e; show g ≠ w.heap.size; omega))).below (Below.refl _ _).drew)
          have HW1 := Lib.hid hW1
          clear hk hts ek1 ek2 ek3 fk HRk HBk HKk hW1 hD hdk
          go_upto_region 9 with fail
          go_region
          rw [← HW1.out]
          clear HW1 d1 d2 d3 hmx bc
          rw [← eD.out] at HR3
          go_wp2_with fail
          go_roundw
          case measure => simp [intOf]; omega
          case rel => exact ⟨j + 1, by go_num, by omega, HR3, HB3, HK3⟩
        · obtain rfl : j = m := by omega
          have hfull : (kidN t i).take j = kidN t i := by rw [hmlen.out, List.take_length]
          have HD0 : Hid (dmax t (kidN t i) + 1 = depF t i) := (show _ = _ by rw [depF_eq]; rfl)
          have hdl := dmax_le t i (kidN t i) (kidN_lt t i)
          have HR2 := HRk
          rw [hfull] at HR2
          obtain ⟨D, hD⟩ := hid_ex (dmax t (kidN t i))
          rw [hD.out] at HR2 hdl HD0
          have d1 := HR2.out.cell hlt
          have d3 := HR2.out.frozen i
          rw [show rowN (grow (dpi t i) i D) i = .int .i64 (D : Int) by simp [rowN, grow]] at d1
          have hdw : IntKind.i64.wrap ((D : Int) + 1) = (D : Int) + 1 := IntWalk.i64_in _ (by omega)
          have HR3 : Hid ((wr.setCell ⟨w.heap.size, i, none⟩ (.int .i64 ((D : Int) + 1))).rowIs w.heap.size 3 n (rowN (dpi t (i + 1)))) := (show World.rowIs _ _ _ _ _ from (HR2.out.set i (.int .i64 ((D : Int) + 1))).congr (fun q _ => by
            have h := rowN_grow (dpi t i) i D (D + 1) q
            rw [show ((D + 1 : Nat) : Int) = (D : Int) + 1 from rfl] at h
            rw [h]
            simp only [rowN]
            rw [HD0.out, dpi_next]))
          have HB3 : Hid (Below w.heap.size w (wr.setCell ⟨w.heap.size, i, none⟩ (.int .i64 ((D : Int) + 1)))) := (show Below _ _ _ from HBk.out.setCell (p := ⟨w.heap.size, i, none⟩) (Nat.le_refl _) _)
          clear hfull HRk HBk HKk HR2 hD HGN hmlen
          go_wp2_with fail
          go_roundw
          case measure => simp [intOf]; omega
          case rel => exact ⟨i + 1, by go_num, by omega, HR3, HB3⟩
    · obtain rfl : i = n := by omega
      have HR3 : Hid (wr.rowIs w.heap.size 3 i (rowN (depF t))) := (show World.rowIs _ _ _ _ _ from HR.out.congr (fun q hq => by simp [rowN, dpi, hq]))
      go_wp2_with fail
      go_ret
      exact ⟨w.heap.size, rfl, Nat.le_refl _, HR3.out, HB.out⟩
end Go.Proofs.YtkmmcphiijolkaaGreatDoor

set_option linter.unusedVariables false
set_option linter.unusedSimpArgs false
namespace Go.Proofs.YtkmmcphiijolkaaGreatDoor
open Go.RowKit Go.Shelf
open Tr

set_option maxHeartbeats 8000000 in
set_option maxRecDepth 100000 in
theorem refDepth_any (v : Value) (t : List NodeD) (w : World) (ha : ArgT v t w) (hl : t.length ≤ 900000) (hks : ∀ x ∈ t, x.2.2.2.2.length ≤ 900000) (node : Int) :
    Calls Tryz.prog 36 #[v, .int .i64 node] w fun e w' => e = .returned (.int .i64 (depthT t node : Int)) ∧ Below w.heap.size w w' := by
  have hD := depths_any v t w ha hl hks
  obtain ⟨pa, ca, rfl, fa⟩ := ha
  obtain ⟨n, hn⟩ : ∃ n, n = t.length := ⟨_, rfl⟩
  rw [← hn] at hD hl ⊢
  have HN := Lib.hid hn
  have HD := Lib.hid hD
  clear fa hn hD
  by_cases h0 : 0 ≤ node ∧ node < (n : Int)
  · obtain ⟨h1, h2⟩ := h0
    obtain ⟨k, rfl⟩ : ∃ k : Nat, node = (k : Int) := ⟨node.toNat, by omega⟩
    have hkn : k < n := by omega
    have HE : Hid (depthT t (k : Int) = depF t k) := (show _ = _ by unfold depthT; rw [if_pos ⟨by omega, by rw [← HN.out]; omega⟩, Int.toNat_natCast])
    have g1 : ¬ (k : Int) < 0 := by omega
    have g2 : ¬ (n : Int) ≤ (k : Int) := by omega
    rw [HE.out]
    go_enter Tryz.func36, Tryz.ntmps36
    go_wp2_with (go_at_call 29; refine HD.out.mono ?_; rintro e w1 ⟨H, rfl, hH, hr, hb⟩; have c1 := hr.cell hkn; simp only [rowN] at c1)
    go_ret
    exact ⟨rfl, hb⟩
  · have HE : Hid (depthT t node = 0) := (show _ = _ by unfold depthT; rw [if_neg (by rw [← HN.out]; exact h0)])
    rw [HE.out]
    by_cases h1 : node < 0
    · go_enter Tryz.func36, Tryz.ntmps36
      go_wp2_with fail
      go_ret
      exact ⟨rfl, Below.refl _ _⟩
    · have h2 : (n : Int) ≤ node := by omega
      go_enter Tryz.func36, Tryz.ntmps36
      go_wp2_with fail
      go_ret
      exact ⟨rfl, Below.refl _ _⟩
end Go.Proofs.YtkmmcphiijolkaaGreatDoor

set_option linter.unusedVariables false
set_option linter.unusedSimpArgs false
namespace Go.Proofs.YtkmmcphiijolkaaGreatDoor
open Go.RowKit Go.Shelf
open Tr

namespace Tr
/-- A node of few bytes and kids. -/
def fewN (x : NodeD) : NodeD := (x.1, x.2.1, x.2.2.1.take 12, x.2.2.2.1, x.2.2.2.2.take 6)
def fewT (k : Nat) (t : List NodeD) : List NodeD := (t.take k).map fewN
theorem fewT_snoc (t : List NodeD) (i : Nat) (x : NodeD) (h : t[i]? = some x) : fewT (i + 1) t = fewT i t ++ [fewN x] := by
  unfold fewT
  rw [List.take_add_one, h]
  simp
theorem fewT_len (k : Nat) (t : List NodeD) : (fewT k t).length = min k t.length := by simp [fewT]
end Tr
theorem KRow.below_lt {v : Value} {ks : List Int} {w : World} (h : KRow v ks w) (hne : ks ≠ []) (g : Nat) (e : v.ownBlock = some g) : g < w.heap.size := by
  obtain ⟨pa, cap, rfl, f, _⟩ := h
  obtain ⟨k, hk⟩ : ∃ k, ks[0]? = some k := by
    cases ks with
    | nil => exact absurd rfl hne
    | cons a l => exact ⟨a, rfl⟩
  obtain ⟨g', o, rfl, hg, _⟩ := f 0 k hk
  simp only [Value.ownBlock, Option.some.injEq] at e
  subst e
  exact hg
theorem KRow.cut {pk : Option Addr} {m ck : Nat} {ks : List Int} {w : World} (h : KRow (.slice pk m ck) ks w) (h6 : 6 ≤ m) : KRow (.slice pk 6 ck) (ks.take 6) w := by
  obtain ⟨pa, cap, e, f, hc⟩ := h
  injection e with e1 e2 e3
  subst e1
  subst e3
  refine ⟨pk, ck, by rw [List.length_take]; congr 1; omega, fun k c hk => f k c ?_, by rw [List.length_take]; omega⟩
  rw [List.getElem?_take] at hk
  split at hk
  · exact hk
  · cases hk

theorem extract12 (l : List UInt8) : (⟨l.toArray⟩ : ByteArray).extract 0 12 = ⟨(l.take 12).toArray⟩ := by
  apply ByteArray.ext
  simp [ByteArray.data_extract]
/-- What a tree's cut tells. -/
def FewR (w : World) (k : Nat) (t : List NodeD) (e : Ending) (w' : World) : Prop := ∃ (p : Option Addr) (i c : Nat) (P : List (NodeD × Value)), e = .returned (.slice p i c) ∧ Hid (TRow w.heap.size (.slice p i c) P w') ∧ P.map (·.1) = fewT k t ∧ i = (fewT k t).length ∧ i ≤ k ∧ Below w.heap.size w w'
set_option maxHeartbeats 16000000 in
set_option maxRecDepth 100000 in
theorem Few_any (v : Value) (t : List NodeD) (w : World) (ha : ArgT v t w) (hl : t.length ≤ maxLen) (k : Nat) (hk : k ≤ 1000) :
    Calls Tryz.prog 9 #[v, .int .i64 (k : Int)] w (FewR w k t) := by
  unfold maxLen at hl
  obtain ⟨pa, ca, rfl, fa⟩ := ha
  have FA := Lib.hid fa
  obtain ⟨n, hn⟩ : ∃ n, n = t.length := ⟨_, rfl⟩
  rw [← hn] at hl ⊢
  have HN := Lib.hid hn
  clear fa hn
  go_enter Tryz.func9, Tryz.ntmps9
  go_wp2_with fail
  go_loopw [5, 6] (fun v5 v6 wr => ∃ (i : Nat) (p : Option Addr) (c : Nat) (P : List (NodeD × Value)), v6 = .int .i64 (i : Int) ∧ v5 = .slice p i c ∧ i ≤ n ∧ i ≤ k ∧ Hid (TRow w.heap.size (.slice p i c) P wr) ∧ Hid (P.length = i) ∧ Hid (P.map (·.1) = fewT i t) ∧ Hid (Below w.heap.size w wr)) (fun _ v6 _ => k - (intOf v6).toNat)
  case atStart => exact ⟨0, none, 0, [], rfl, rfl, by omega, by omega, ⟨World.ownsRow_nil _ _ _ _, fun p h => by simp at h⟩, rfl, rfl, Below.refl _ _⟩
  case round =>
    obtain ⟨i, p, c, P, rfl, rfl, hi, hik, HT, HPL, HP, HB⟩ := hrel
    by_cases hlt : i < n ∧ i < k
    · obtain ⟨h1, h2⟩ := hlt
      have g1 : (i : Int) < (n : Int) := by omega
      have g2 : (i : Int) < (k : Int) := by omega
      obtain ⟨x, hx⟩ : ∃ x, t[i]? = some x := ⟨_, List.getElem?_eq_getElem (by rw [← HN.out]; exact h1)⟩
      have HF : Hid (fewT (i + 1) t = fewT i t ++ [fewN x]) := fewT_snoc t i x hx
      obtain ⟨g, o, vk, rfl, hg, a0, a1, a2, a3, a4, a5⟩ := FA.out i x hx
      obtain ⟨x0, x1, x2, x3, ks⟩ := x
      simp only at a0 a1 a2 a3 a4 a5
      have hbel := HB.out
      have b0 := (hbel.cell (p := ⟨g, o + i * 5, none⟩) hg).trans a0
      have b1 := (hbel.cell (p := ⟨g, o + i * 5 + 1, none⟩) hg).trans a1
      have b2 := (hbel.cell (p := ⟨g, o + i * 5 + 2, none⟩) hg).trans a2
      have b3 := (hbel.cell (p := ⟨g, o + i * 5 + 3, none⟩) hg).trans a3
      have b4 := (hbel.cell (p := ⟨g, o + i * 5 + 4, none⟩) hg).trans a4
      have HK := Lib.hid (a5.below hbel)
      have HKL := Lib.hid (fun hne : ks ≠ [] => KRow.below_lt a5 hne)
      obtain ⟨pk, ck, ek, fk⟩ := a5
      obtain ⟨m, hm⟩ : ∃ m, m = ks.length := ⟨_, rfl⟩
      have hcap := fk.2
      rw [← hm] at ek hcap
      subst ek
      have HM := Lib.hid hm
      have hws : w.heap.size ≤ wr.heap.size := hbel.size
      obtain ⟨q, hq⟩ : ∃ q, q = x2.length := ⟨_, rfl⟩
      have hsz : (⟨x2.toArray⟩ : ByteArray).size = q := by rw [hq]; simp [ByteArray.size]
      have HQ := Lib.hid hq
      have hi6 : i + 1 ≤ 1000000 := by omega
      clear hx a0 a1 a2 a3 a4 fk hm hq hbel
      have hws1 : wr.heap.size < wr.heap.size + 1 := by omega
      go_upto_if 26 with fail
      go_cut [7] (fun v7 wx => v7 = .pointer (some ⟨wr.heap.size, 0, none⟩) ∧ wx.heap[wr.heap.size]? = some (.cells #[.int .i64 x0, .int .i64 x1, .string ⟨(x2.take 12).toArray⟩, .int .i64 x3, .slice pk m ck] 39 (0, 0)) ∧ Below wr.heap.size wr wx)
      case first =>
        have hN := heap_alloc_new wr (.cells #[.int .i64 x0, .int .i64 x1, .string ⟨x2.toArray⟩, .int .i64 x3, .slice pk m ck] 39)
        have hB0 := ((Below.refl wr.heap.size wr).alloc (Nat.le_refl _) (.cells #[.int .i64 x0, .int .i64 x1, .string ⟨x2.toArray⟩, .int .i64 x3, .slice pk m ck] 39))
        by_cases h12 : 12 < q
        · have g12 : (12 : Int) < (q : Int) := by omega
          have hex : (⟨x2.toArray⟩ : ByteArray).extract 0 12 = ⟨(x2.take 12).toArray⟩ := extract12 x2
          have hB1 := hB0.setCell (p := ⟨wr.heap.size, 2, none⟩) (Nat.le_refl _) (.string ⟨(x2.take 12).toArray⟩)
          have hN1 := heap_setCell_same _ wr.heap.size 2 _ _ (Value.string ⟨(x2.take 12).toArray⟩) hN
          go_wp2_with fail
          go_meet
          exact ⟨rfl, heap_alloc_new wr _, (Below.refl wr.heap.size wr).alloc (Nat.le_refl _) _⟩
        · have g12 : ¬ (12 : Int) < (q : Int) := by omega
          have e12 : x2.take 12 = x2 := List.take_of_length_le (by rw [← HQ.out]; omega)
          have E12 := Lib.hid e12
          clear e12
          go_wp2_with fail
          go_meet
          exact ⟨rfl, by rw [E12.out]; exact hN, hB0⟩
      case rest =>
        obtain ⟨rfl, hN, hb⟩ := hcut
        obtain ⟨s12, hs12⟩ := hid_ex (x2.take 12)
        rw [hs12.out] at hN
        obtain ⟨c0, c1, c2, c3, c4⟩ := box5 (w := wr) hN
        go_upto_if 34 with fail
        go_cut [7] (fun v7 wx => v7 = .pointer (some ⟨wr.heap.size, 0, none⟩) ∧ wx.heap[wr.heap.size]? = some (.cells #[.int .i64 x0, .int .i64 x1, .string ⟨s12.toArray⟩, .int .i64 x3, .slice pk (min 6 m) ck] 39 (0, 0)) ∧ Below wr.heap.size wr wx)
        case first =>
          by_cases h6 : 6 < m
          · have g6 : (6 : Int) < (m : Int) := by omega
            have gc : (6 : Int) ≤ (ck : Int) := by omega
            have f4 := frozen_of_block hN 4
            go_wp2_with fail
            go_meet
            rw [show min 6 m = 6 by omega]
            exact ⟨rfl, heap_setCell_same _ _ _ _ _ _ hN, hb.setCell (p := ⟨wr.heap.size, 4, none⟩) (Nat.le_refl _) _⟩
          · have g6 : ¬ (6 : Int) < (m : Int) := by omega
            go_wp2_with fail
            go_meet
            rw [show min 6 m = m by omega]
            exact ⟨rfl, hN, hb⟩
        case rest =>
          obtain ⟨rfl, hN2, hb2⟩ := hcut
          clear hN hb c0 c1 c2 c3 c4
          obtain ⟨c0, c1, c2, c3, c4⟩ := box5 (w := wr) hN2
          obtain ⟨m6, hm6⟩ := hid_ex (min 6 m)
          rw [hm6.out] at c4
          have HT2 : Hid (TRow w.heap.size (.slice p i c) P _) := (show TRow _ _ _ _ from HT.out.below hb2)
          have HB2 := Lib.hid hb2
          have hwc : w.heap.size ≤ wc.heap.size := Nat.le_trans hws hb2.size
          have HK2 : Hid (KRow (.slice pk m6 ck) (ks.take 6) wc) := (show KRow _ _ _ from by
            rw [← hm6.out]
            by_cases h6 : 6 ≤ m
            · rw [Nat.min_eq_left h6]; exact (KRow.cut HK.out h6).below hb2
            · rw [Nat.min_eq_right (by omega), List.take_of_length_le (by rw [← HM.out]; omega)]; exact HK.out.below hb2)
          clear hN2 hb2
          go_wp2_with (at_builtin; go_loud (refine wpList_tapp3 rfl _ _ rfl w.heap.size _ P wc HT2.out hwc [((x0, x1, s12, x3, ks.take 6), Value.slice pk m6 ck)] i 1 HPL.out rfl (by decide) _ (by simp [flatT, flatN]) rfl (by rfl) (by intro q2 hq2; simp only [List.mem_cons, List.not_mem_nil, or_false] at hq2; subst hq2; exact ⟨HK2.out, fun hne g2 e e2 => by have h1 := HKL.out (fun e3 => hne (by simp [e3])) g2 (by cases pk <;> exact e); have h2 := (HT.out.1.lt g2 e2).1; omega⟩) hi6 ?_; intro g5 c5 w5 HT5 HL5 HB5))
          have HFN : Hid (fewN (x0, x1, x2, x3, ks) = (x0, x1, s12, x3, ks.take 6)) := (show _ = _ by simp only [fewN]; rw [hs12.out])
          have HB6 : Hid (Below w.heap.size w w5) := (show Below _ _ _ from (HB.out.trans (HB2.out.mono hws)).trans (HB5.out.below hwc (fun b hb e => by have := (HT.out.1.lt b e).1; omega)))
          go_wp2_with fail
          go_roundw
          case measure => simp [intOf]; omega
          case rel =>
            refine ⟨i + 1, _, c5, P ++ [((x0, x1, s12, x3, ks.take 6), Value.slice pk m6 ck)], by go_num, rfl, by omega, by omega, HT5, HL5, ?_, HB6⟩
            show List.map _ _ = _
            rw [HF.out, List.map_append, HP.out, HFN.out]
            rfl
    · have HE : Hid (fewT i t = fewT k t) := (show _ = _ by
        unfold fewT
        by_cases h : i < k
        · have : i = n := by omega
          rw [List.take_of_length_le (by rw [← HN.out]; omega), List.take_of_length_le (by rw [← HN.out]; omega)]
        · have : i = k := by omega
          rw [this])
      have HLE : Hid (i = (fewT k t).length) := (show _ = _ by rw [← HE.out, ← HP.out, List.length_map, HPL.out])
      by_cases h1 : i < n
      · have g1 : (i : Int) < (n : Int) := by omega
        have g2 : ¬ (i : Int) < (k : Int) := by omega
        go_wp2_with fail
        go_ret
        exact ⟨p, i, c, P, rfl, HT, HP.out.trans HE.out, HLE.out, hik, HB.out⟩
      · have g1 : ¬ (i : Int) < (n : Int) := by omega
        go_wp2_with fail
        go_ret
        exact ⟨p, i, c, P, rfl, HT, HP.out.trans HE.out, HLE.out, hik, HB.out⟩
end Go.Proofs.YtkmmcphiijolkaaGreatDoor
