/-
  What the reference goes over: the walker, at this program.
-/
import Derived.Test.YtkmmcphiijolkaaDoorTreeGG
set_option linter.unusedVariables false
set_option linter.unusedSimpArgs false
namespace Go.Proofs.YtkmmcphiijolkaaDoor
open Go.RowKit Go.Shelf
open Tr

/-- A walker: what it has been at, and in which order. -/
structure OvSt (bW bD base n : Nat) (pre : List Nat) (vout : Value) (W : World) : Prop where
  blk : W.heap[bW]? = some (.cells #[.slice (some ⟨bD, 0, none⟩) n n, vout] 86 (0, 0))
  there : W.rowIs bD 4 n (fun j => .bool (decide (j ∈ pre)))
  out : W.ownsRow base 3 1 vout pre.length ((castL pre).map (Value.int .i64))
  ne : bW < base ∧ bD < base ∧ bW ≠ bD ∧ base ≤ W.heap.size
abbrev OvR (bW bD : Nat) (v : Value) (k : Nat) : Prop := k = bW ∨ k = bD ∨ v.ownBlock = some k
theorem OvSt.below {bW bD base n : Nat} {pre : List Nat} {vout : Value} {W W' : World} (h : OvSt bW bD base n pre vout W) (hb : Below W.heap.size W W') : OvSt bW bD base n pre vout W' := by
  have h1 := h.ne
  have h2 := (Array.getElem?_eq_some_iff.1 h.blk).1
  refine ⟨(hb.block bW h2).trans h.blk, h.there.of_block (hb.block bD h.there.lt), ⟨h.out.1, ?_⟩, h1.1, h1.2.1, h1.2.2.1, Nat.le_trans h1.2.2.2 hb.size⟩
  rcases h.out.2 with e | ⟨g, cap, cur, e, hg, hgb, r⟩
  · exact Or.inl e
  · exact Or.inr ⟨g, cap, cur, e, hg, (hb.block g (Array.getElem?_eq_some_iff.1 hgb).1).trans hgb, r⟩

theorem few_fold {t : List NodeD} (f : Nat) : ∀ (ks q : List Nat), Few t q → (∀ k ∈ ks, k < t.length) → Few t (ks.foldl (goT t f) q)
  | [], q, h, _ => h
  | k :: ks, q, h, hk => few_fold f ks _ (goT_few f q k h (hk k (List.mem_cons_self ..))) (fun y hy => hk y (List.mem_cons_of_mem _ hy))
theorem castL_snoc (l : List Nat) (i : Nat) : castL (l ++ [i]) = castL l ++ [(i : Int)] := by simp [castL]
set_option maxHeartbeats 8000000 in
set_option maxRecDepth 100000 in
theorem over_any (tv : Value) (t : List NodeD) (w0 : World) (ha : ArgT tv t w0) (hl : t.length ≤ 1000000 - 1) (hks : ∀ x ∈ t, x.2.2.2.2.length ≤ 900000) (bW bD base : Nat) (h0W : w0.heap.size ≤ bW) (h0D : w0.heap.size ≤ bD) (h0B : w0.heap.size ≤ base) :
    ∀ (f i : Nat) (pre : List Nat) (vout : Value) (W : World), i < f → i < t.length → OvSt bW bD base t.length pre vout W → Below w0.heap.size w0 W → Few t pre →
    Calls Tryd.prog 69 #[.pointer (some ⟨bW, 0, none⟩), tv, .int .i64 (i : Int)] W fun e W' => e = .returned (.tuple #[]) ∧ ∃ vout', OvSt bW bD base t.length (goT t f pre i) vout' W' ∧ But (OvR bW bD vout) W W' ∧ (vout'.ownBlock = vout.ownBlock ∨ ∃ g, vout'.ownBlock = some g ∧ W.heap.size ≤ g)
  | 0, i, _, _, _, h, _, _, _, _ => absurd h (Nat.not_lt_zero _)
  | f + 1, i, pre, vout, W, hif, hit, hO, hW, hfew => by
    have ih := over_any tv t w0 ha hl hks bW bD base h0W h0D h0B f
    have IH := Lib.hid ih
    have HO := Lib.hid hO
    have HA := Lib.hid ha
    have HKS := Lib.hid hks
    have HL := Lib.hid hl
    have HW := Lib.hid hW
    have HF := Lib.hid hfew
    obtain ⟨pr, c, rfl⟩ := own_formI hO.out
    obtain ⟨pv, cv, rfl, _⟩ := ha
    have hne := hO.ne
    have k0 := cell_of_row _ _ 0 _ _ _ hO.blk
    have k1 := cell_of_row _ _ 1 _ _ _ hO.blk
    simp only [List.getElem?_toArray, List.getElem?_cons_succ, List.getElem?_cons_zero] at k0 k1
    have d0 := hO.there.cell hit
    have df := hO.there.frozen i
    obtain ⟨n, hn⟩ : ∃ n, n = t.length := ⟨_, rfl⟩
    have hpl : pre.length ≤ n := by rw [hn]; exact few_length hfew
    rw [← hn] at hit k0 HO HL hl ⊢
    have HN := Lib.hid hn
    obtain ⟨p, hp⟩ : ∃ p, p = pre.length := ⟨_, rfl⟩
    rw [← hp] at k1 hpl ⊢
    have HP := Lib.hid hp
    have hitI : (i : Int) < (n : Int) := by omega
    by_cases hin : i ∈ pre
    · have HG : Hid (goT t (f + 1) pre i = pre) := (show _ = _ by unfold goT; rw [if_pos hin])
      rw [show decide (i ∈ pre) = true by simpa using hin] at d0
      clear ih hO hW hfew hks hn hp hin
      go_enter Tryd.func69, Tryd.ntmps69
      go_wp2_with fail
      refine bodyPost_ret (results_none rfl _ _ _) rfl ?_
      refine ⟨rfl, .slice pr p c, ?_, Chg.refl _ _, Or.inl rfl⟩
      rw [HG.out, HP.out]
      exact HO.out
    · have HG : Hid (goT t (f + 1) pre i = (kidN t i).foldl (goT t f) (pre ++ [i])) := (show _ = _ by unfold kidN; rw [goT, if_neg hin])
      rw [show decide (i ∈ pre) = false by simpa using hin] at d0
      have HIN := Lib.hid hin
      clear ih hO hW hfew hks hn hp hin
      go_enter Tryd.func69, Tryd.ntmps69
      go_upto_region 2 with fail
      obtain ⟨W1, hW1⟩ : ∃ W1, W1 = W.setCell ⟨bD, i, none⟩ (.bool true) := ⟨_, rfl⟩
      have hblk1 : W1.heap[bW]? = some (.cells #[.slice (some ⟨bD, 0, none⟩) n n, .slice pr p c] 86 (0, 0)) := by
        rw [hW1, heap_setCell_other _ _ _ _ (by exact hne.2.2.1)]
        have := HO.out.blk
        rw [← HP.out] at this
        exact this
      have hr1 : W1.rowIs bD 4 n (fun j => .bool (decide (j ∈ pre ++ [i]))) := by
        rw [hW1]
        refine (HO.out.there.set i (.bool true)).congr (fun j _ => ?_)
        by_cases h : j = i <;> simp [h]
      have ho1 : W1.ownsRow base 3 1 (.slice pr p c) p ((castL pre).map (Value.int .i64)) := by
        have := HO.out.out
        rw [← HP.out] at this
        rw [hW1]
        exact own_set this _ hne.2.1
      have hs1 : W1.heap.size = W.heap.size := by rw [hW1]; simp [World.setCell]
      have hb1 : base ≤ W1.heap.size := by rw [hs1]; exact hne.2.2.2
      have m1 := cell_of_row _ _ 1 _ _ _ hblk1
      simp only [List.getElem?_toArray, List.getElem?_cons_succ, List.getElem?_cons_zero] at m1
      have hown : ∀ g, (Value.slice pr p c).ownBlock = some g → base ≤ g ∧ g < W1.heap.size := fun g e => ho1.lt g e
      have HCF : Hid (∀ w5, But (fun b => (Value.slice pr p c).ownBlock = some b) W1 w5 → w5.heap[bW]? = some (.cells #[.slice (some ⟨bD, 0, none⟩) n n, .slice pr p c] 86 (0, 0)) ∧ w5.rowIs bD 4 n (fun j => .bool (decide (j ∈ pre ++ [i])))) := fun w5 h5 =>
        ⟨(h5.both bW (by omega) (fun e => by have := (hown bW e).1; omega)).1.trans hblk1, hr1.of_block (h5.both bD hr1.lt (fun e => by have := (hown bD e).1; omega)).1⟩
      rw [← hW1]
      have HW1 := Lib.hid hW1
      have HO1 := Lib.hid ho1
      have HS1 := Lib.hid hs1
      clear hW1 ho1 hs1 hown hblk1 hr1 k0 k1 d0 df
      go_upto_region 3 with (at_builtin; refine wpList_iapp rfl _ _ rfl base _ _ _ W1 HO1.out hb1 (i : Int) rfl (by rfl) (by omega) ?_; intro g5 c5 w5 HO5 HB5 HG5; have f5 := frozen_of_block (HCF.out w5 HB5.out).1 1; have m5 := cell_of_row _ _ 1 _ _ _ (HCF.out w5 HB5.out).1; simp only [List.getElem?_toArray, List.getElem?_cons_succ, List.getElem?_cons_zero] at m5)
      obtain ⟨W2, hW2⟩ : ∃ W2, W2 = w5.setCell ⟨bW, 1, none⟩ (.slice (some ⟨g5, 0, none⟩) (p + 1) c5) := ⟨_, rfl⟩
      rw [← hW2]
      have hs2 : W2.heap.size = w5.heap.size := by rw [hW2]; simp [World.setCell]
      have hO2 : OvSt bW bD base n (pre ++ [i]) (.slice (some ⟨g5, 0, none⟩) (p + 1) c5) W2 := by
        refine ⟨?_, ?_, ?_, hne.1, hne.2.1, hne.2.2.1, ?_⟩
        · rw [hW2, heap_setCell_same _ _ _ _ _ _ (HCF.out w5 HB5.out).1]
          rfl
        · rw [hW2]
          exact (HCF.out w5 HB5.out).2.setOther (fun e => hne.2.2.1 e.symm) _
        · rw [castL_snoc, List.length_append, ← HP.out, hW2]
          exact own_set HO5.out _ hne.1
        · rw [hs2]
          exact Nat.le_trans hb1 HB5.out.size
      have hbut2 : But (OvR bW bD (.slice pr p c)) W W2 := by
        have h1 := HB5.out
        have hs := HS1.out
        refine ⟨?_, ?_, ?_, ?_, fun k hk hn => ⟨?_, fun e => hn e⟩⟩
        · rw [hW2]; show w5.os = _; rw [h1.os, HW1.out]; rfl
        · rw [hW2]; show w5.tape = _; rw [h1.tape, HW1.out]; rfl
        · rw [hW2]; show w5.output = _; rw [h1.output, HW1.out]; rfl
        · rw [hs2, ← hs]; exact h1.size
        · rw [hW2, heap_setCell_other _ _ _ _ (fun e => hn (Or.inl e)), (h1.both k (by omega) (fun e => hn (Or.inr (Or.inr e)))).1, HW1.out, heap_setCell_other _ _ _ _ (fun e => hn (Or.inr (Or.inl e)))]
      have hnew : ∀ k, OvR bW bD (Value.slice pr p c) k → w0.heap.size ≤ k := fun k e => by
        rcases e with e | e | e
        · omega
        · omega
        · have := (HO1.out.lt k e).1
          omega
      have hw2 : Below w0.heap.size w0 W2 := HW.out.trans (hbut2.below HW.out.size (fun k hk e => by have := hnew k e; omega))
      have hkids := Kids_any (.slice pv t.length cv) t W2 (HA.out.below hw2) (by rw [← HN.out]; omega) HKS.out i (by rw [← HN.out]; exact hit)
      have HWW := Lib.hid hw2
      clear hnew hw2
      rw [← HN.out] at hkids
      have HO2 := Lib.hid hO2
      have HBUT2 := Lib.hid hbut2
      have hg5 : g5 < W2.heap.size := (hO2.out.lt g5 rfl).2
      have hb2 : base ≤ W2.heap.size := hO2.ne.2.2.2
      have HW2 := Lib.hid hW2
      have HS2 := Lib.hid hs2
      clear hW2 hs2 hO2 hbut2 f5 m5 m1
      go_wp2_with (go_at_call 80; refine hkids.mono ?_; clear hkids; rintro e WK ⟨pk, nk, ck, rfl, HK, HBK⟩)
      have hOK := HO2.out.below HBK
      have hsK := HBK.size
      have hlen : (kidN t i).length = nk := by have := HK.1; simp only [castL, List.length_map, Nat.mul_one] at this; exact this
      have hnk : nk ≤ 900000 := by
        obtain ⟨x, hx⟩ : ∃ x, t[i]? = some x := ⟨_, List.getElem?_eq_getElem (by rw [← HN.out]; exact hit)⟩
        have h1 : kidN t i = kidsOf i x.2.2.2.2 := by unfold kidN nodeAt; rw [Int.toNat_natCast, hx]; rfl
        rw [← hlen, h1]
        exact Nat.le_trans (kidsOf_length i _) (HKS.out x (List.mem_of_getElem? hx))
      have HLEN := Lib.hid hlen
      have HKD := Lib.hid HK
      have HBKD := Lib.hid HBK
      clear HK HBK hlen
      go_loopw [7] (fun v7 wr => ∃ (j : Nat) (vj : Value), v7 = .int .i64 (j : Int) ∧ j ≤ nk ∧ Hid (OvSt bW bD base n (((kidN t i).take j).foldl (goT t f) (pre ++ [i])) vj wr) ∧ Hid (But (fun k => k = bW ∨ k = bD ∨ k = g5) WK wr) ∧ Hid (vj.ownBlock = some g5 ∨ ∃ g, vj.ownBlock = some g ∧ WK.heap.size ≤ g)) (fun v7 _ => nk - (intOf v7).toNat)
      case atStart => exact ⟨0, _, rfl, Nat.zero_le _, hOK, Chg.refl _ _, Or.inl rfl⟩
      case round =>
        obtain ⟨j, vj, rfl, hj, HOJ, HBJ, HVJ⟩ := hrel
        clear hOK
        by_cases hjn : j < nk
        · obtain ⟨y, hy⟩ : ∃ y, (kidN t i)[j]? = some y := ⟨_, List.getElem?_eq_getElem (by rw [HLEN.out]; exact hjn)⟩
          have hyi := kidN_lt t i y (List.mem_of_getElem? hy)
          obtain ⟨gk, rfl, hgk1, hgk2, kc, _⟩ := own_cellI HKD.out (i := j) (k := (y : Int)) (by rw [castL, List.getElem?_map, hy]; rfl)
          have kc2 : wr.cell? ⟨gk, j, none⟩ = some (.int .i64 (y : Int)) := (World.cell?_of_block (a := ⟨gk, j, none⟩) (HBJ.out.both gk hgk2 (by omega)).1).trans kc
          have hfj : Few t (((kidN t i).take j).foldl (goT t f) (pre ++ [i])) := few_fold f _ _ (few_snoc HF.out (by rw [← HN.out]; exact hit) HIN.out) (fun k hk => by have := kidN_lt t i k (List.mem_of_mem_take hk); rw [← HN.out]; omega)
          have hWr : Below w0.heap.size w0 wr := by
            have h1 := HWW.out
            have h2 : Below w0.heap.size w0 WK := h1.trans (HBKD.out.mono (by omega))
            exact h2.trans (HBJ.out.below (by omega) (fun k hk e => by have := (HO2.out.out.lt g5 rfl).1; omega))
          have hrec := IH.out y _ vj wr (by omega) (by rw [← HN.out]; omega) (by rw [← HN.out]; exact HOJ.out) hWr hfj
          rw [← HN.out] at hrec
          have HTK : Hid (((kidN t i).take (j + 1)).foldl (goT t f) (pre ++ [i]) = goT t f (((kidN t i).take j).foldl (goT t f) (pre ++ [i])) y) := (show _ = _ by rw [take_snoc _ _ _ hy, List.foldl_append]; rfl)
          clear kc hfj hWr hy hyi
          go_wp2_with (go_at_call 69; refine hrec.mono ?_; clear hrec; rintro e wr2 ⟨rfl, vj2, HOJ2, HBJ2, HVJ2⟩; have HOJ3 := Lib.hid HOJ2; have HBJ3 := Lib.hid HBJ2; have HVJ3 := Lib.hid HVJ2; clear HOJ2 HBJ2 HVJ2)
          refine ⟨⟨j + 1, vj2, rfl, by omega, ?_, ⟨HBJ3.out.os.trans HBJ.out.os, HBJ3.out.tape.trans HBJ.out.tape, HBJ3.out.output.trans HBJ.out.output, Nat.le_trans HBJ.out.size HBJ3.out.size, fun k hk hn => ⟨?_, fun e => hn e⟩⟩, ?_⟩, by simp [intOf]; omega⟩
          · show OvSt _ _ _ _ _ _ _
            rw [HTK.out]
            exact HOJ3.out
          · refine (HBJ3.out.both k (Nat.lt_of_lt_of_le hk HBJ.out.size) (fun e => ?_)).1.trans (HBJ.out.both k hk hn).1
            rcases e with e | e | e
            · exact hn (Or.inl e)
            · exact hn (Or.inr (Or.inl e))
            · rcases HVJ.out with h | ⟨g, h, hg⟩
              · rw [h] at e
                injection e with e
                exact hn (Or.inr (Or.inr e.symm))
              · rw [h] at e
                injection e with e
                omega
          · show _ ∨ _
            have hs := HBJ.out.size
            rcases HVJ3.out with h | ⟨g, h, hg⟩
            · rw [h]
              exact HVJ.out
            · exact Or.inr ⟨g, h, by omega⟩
        · obtain rfl : j = nk := by omega
          have HOE : Hid (OvSt bW bD base n (goT t (f + 1) pre i) vj wr) := (show OvSt _ _ _ _ _ _ _ by
            have := HOJ.out
            rw [← HLEN.out, List.take_length] at this
            rw [HG.out]
            exact this)
          clear HOJ
          go_wp2_with fail
          refine bodyPost_end (results_none rfl _ _ _) rfl ?_
          have hs2 := HBUT2.out.size
          have hs1 := HS1.out
          have hsj := HBJ.out.size
          refine ⟨rfl, vj, HOE.out, ⟨HBJ.out.os.trans (HBKD.out.os.trans HBUT2.out.os), HBJ.out.tape.trans (HBKD.out.tape.trans HBUT2.out.tape), HBJ.out.output.trans (HBKD.out.output.trans HBUT2.out.output), by omega, fun k hk hn => ⟨?_, fun e => hn e⟩⟩, ?_⟩
          · refine (HBJ.out.both k (by omega) (fun e => ?_)).1.trans ((HBKD.out.block k (by omega)).trans (HBUT2.out.both k hk hn).1)
            rcases e with e | e | e
            · exact hn (Or.inl e)
            · exact hn (Or.inr (Or.inl e))
            · rcases HG5.out.2 with h | h
              · exact hn (Or.inr (Or.inr (by rw [e]; exact h.symm)))
              · omega
          · rcases HVJ.out with h | ⟨g, h, hg⟩
            · rcases HG5.out.2 with h2 | h2
              · exact Or.inl (h.trans h2)
              · exact Or.inr ⟨g5, h, by omega⟩
            · exact Or.inr ⟨g, h, by omega⟩
end Go.Proofs.YtkmmcphiijolkaaDoor
