/-
  Numbers below a node gone over, and left off: All, at this program.
-/
import Derived.Test.YtkmmcphiijolkaaDoorZf
set_option linter.unusedVariables false
set_option linter.unusedSimpArgs false
namespace Go.Proofs.YtkmmcphiijolkaaDoor
open Go.RowKit Go.Shelf
open Tr
attribute [local go_sem] Oper.semAt_some

theorem take_pre (xs : List Nat) (j k : Nat) (h : xs[j]? = some k) : xs.take j ++ [k] <+: xs ∧ xs.take (j + 1) = xs.take j ++ [k] := by
  have e : xs.take (j + 1) = xs.take j ++ [k] := by rw [List.take_add_one, h]; rfl
  exact ⟨by rw [← e]; exact List.take_prefix _ _, e⟩

set_option maxHeartbeats 4000000 in
theorem values_gives (F : Fence) (hd : F.depth = none) (hro : F.round = none) (n : Nat) (hF : F.fn 34) (w0 : World) (v : Value) (xs : List Nat) (hv : KRow v (castL xs) w0) (hkl : xs.length ≤ 1000000) (b1 : Nat) (R : World → Nat → Prop) (w : World) (hD : Dyn R w.heap.size)
    (hb0 : Below w0.heap.size w0 w) (hR0 : ∀ A k, R A k → w0.heap.size ≤ k) (hb1 : b1 < w.heap.size)
    (h1 : w.cell? ⟨b1, 0, none⟩ = some v) :
    GivesR F n Tryd.prog 34 #[.pointer (some ⟨b1, 0, none⟩)] (fun x : Nat => #[.int .i64 (x : Int)]) (fun pre => pre <+: xs) (fun q => q = xs) R w := by
  intro l J Jx W hl hlW hW hnl hr1 hJ hJx hY h0
  obtain ⟨pk, ck, rfl, fk⟩ := hv
  have FK := Lib.hid fk.1
  obtain ⟨m, hm⟩ : ∃ m, m = xs.length := ⟨_, rfl⟩
  have hcl : (castL xs).length = m := by rw [hm]; simp [castL]
  rw [hcl] at h1
  rw [← hm] at hkl
  have HM := Lib.hid hm
  have hw0 := hb0.size
  have hWs := hW.size
  have c1 : W.cell? ⟨b1, 0, none⟩ = some (.slice pk m ck) := (hW.cell (p := ⟨b1, 0, none⟩) hb1).trans h1
  have hbW : Below w0.heap.size w0 W := hb0.trans (hW.mono hw0)
  clear h1 hm fk hcl
  refine callsIn_of_wp Tryd.func34 rfl hF ?_ hro
  simp only [Tryd.ntmps34, List.size_toArray, List.length_cons, List.length_nil, Nat.reduceAdd, Nat.reduceSub, Array.replicate_succ, Array.replicate_zero, List.push_toArray, List.append_toArray, List.nil_append, List.cons_append]
  gi_wp2
  gi_loopw [7] (fun v7 wr => ∃ (j : Nat), v7 = .int .i64 (j : Int) ∧ j ≤ m ∧ J (xs.take j) wr ∧ Chg (fun A k => R A k ∨ k = l) W wr) (fun v7 _ => m - (intOf v7).toNat)
  case atStart => exact ⟨0, rfl, Nat.zero_le _, h0, Chg.refl _ _⟩
  case round =>
    obtain ⟨j, rfl, hj, hJj, hch⟩ := hrel
    have hbr : Below w0.heap.size w0 wr := hbW.trans (hch.below (by omega) (fun k hk h => h.elim (fun h => by have := hR0 _ k h; omega) (fun h => by omega)))
    by_cases hjm : j < m
    · obtain ⟨k, hk⟩ : ∃ k, xs[j]? = some k := ⟨_, List.getElem?_eq_getElem (by rw [← HM.out]; exact hjm)⟩
      obtain ⟨gk, ok, rfl, hgk, ac⟩ := FK.out j (k : Int) (by simp [castL, hk])
      have bc := (hbr.cell (p := ⟨gk, ok + j, none⟩) hgk).trans ac
      obtain ⟨hpre, hks⟩ := take_pre xs j k hk
      have HWS : Hid (W.heap.size ≤ wr.heap.size) := hch.size
      obtain ⟨fn, tmps, assign, body, hy, hRd⟩ := hY _ k wr hJj HWS.out hpre
      rw [← hks] at hRd
      clear ac hk FK c1 hbW hY hpre hks hJj
      gi_wp2_with ((try refine ⟨depthless hd _, ?_⟩); refine hRd.mono ?_; clear hRd; rintro e W3 ⟨hc3, (⟨rfl, hJ3⟩ | ⟨rfl, hJx3⟩)⟩)
      · gi_wp2
        go_roundw
        case rel => exact ⟨j + 1, by go_num, by omega, hJ3, hch.trans hc3⟩
        case measure => simp [intOf]; omega
      · gi_wp2
        refine bodyPost_ret (results_none rfl _ _ _) rfl ?_
        exact ⟨⟨_, rfl⟩, hch.trans hc3, .inr ⟨_, hJx3⟩⟩
    · obtain rfl : j = m := by omega
      clear hY FK
      have hJe : J xs wr := by rw [HM.out, List.take_length] at hJj; exact hJj
      clear HM
      gi_wp2
      go_end0
      exact ⟨⟨_, rfl⟩, hch, .inl ⟨_, rfl, hJe⟩⟩

set_option maxHeartbeats 2000000 in
theorem Values_any (pa : Option Addr) (k c : Nat) (w : World) :
    Calls Tryd.prog 17 #[.slice pa k c] w fun e w' => e = .returned (.func (.func 34) #[] #[.pointer (some ⟨w.heap.size, 0, none⟩)]) ∧ w' = w.alloc (.cells #[.slice pa k c] 22) := by
  go_enter Tryd.func17, Tryd.ntmps17
  go_wp2
  go_ret
  exact ⟨rfl, rfl⟩

set_option maxHeartbeats 8000000 in
theorem All_any (w : World) (tv : Value) (t : List NodeD) (ha : ArgT tv t w) (hl : t.length ≤ 1000000) (hks : ∀ x ∈ t, x.2.2.2.2.length ≤ maxLen) (node : Int) :
    Calls Tryd.prog 8 #[tv, .int .i64 node] w fun e w' => ∃ (b : Nat) (v : Value), e = .returned (.func (.func 34) #[] #[.pointer (some ⟨b, 0, none⟩)]) ∧ w.heap.size ≤ b ∧ b < w'.heap.size ∧ w'.cell? ⟨b, 0, none⟩ = some v ∧ KRow v (castL (belowT t node)) w' ∧ Below w.heap.size w w' := by
  have HA := Lib.hid ha
  obtain ⟨pa, ca, rfl, fa⟩ := ha
  obtain ⟨m, hm⟩ : ∃ m, m = t.length := ⟨_, rfl⟩
  rw [← hm] at HA ⊢
  clear fa hm
  obtain ⟨W2, hW2⟩ : ∃ W2, W2 = (w.alloc (.cells #[.slice pa m ca] 25)).alloc (.cells #[.int .i64 node] 3) := ⟨_, rfl⟩
  have hb2 : Below w.heap.size w W2 := by rw [hW2]; exact ((Below.refl _ w).alloc (Nat.le_refl _) _).alloc (by simp) _
  have hs2 : W2.heap.size = w.heap.size + 2 := by rw [hW2]; simp
  have q2 : W2.cell? ⟨w.heap.size, 0, none⟩ = some (.slice pa m ca) := by
    rw [hW2, World.cell?_alloc_past _ _ _ (by simp), World.cell?_alloc_at _ _ _ _ (by simp)]; rfl
  have q3 : W2.cell? ⟨w.heap.size + 1, 0, none⟩ = some (.int .i64 node) := by
    rw [hW2, World.cell?_alloc_at _ _ _ _ (by simp)]; rfl
  have hit : IterR Fence.wide 36 #[.pointer (some ⟨w.heap.size, 0, none⟩), .pointer (some ⟨w.heap.size + 1, 0, none⟩)] (Few t) (fun xs => xs = belowT t node) W2 :=
    below_iter Fence.wide fen_wide w W2 (.slice pa m ca) t HA.out hl hks node _ _ hb2 (by omega) (by omega) q2 q3
  have hbl := fun n => (callsIn_wide (n := n)).1 (below_in Fence.wide n trivial rfl pa m ca node w)
  have hcol := (callsIn_wide (n := 3)).1 (Collect_in Fence.wide fen_wide 3 W2 36 _ trivial (enters_of Tryd.func36 (by kernel_rfl) rfl) (Few t) (fun xs => xs = belowT t node) (fun q h => Nat.le_trans (few_length h) hl) hit)
  have hcol2 := hcol.mono (R' := fun e WS => ∃ v, e = .returned v ∧ Hid (KRow v (castL (belowT t node)) WS) ∧ Below W2.heap.size W2 WS) (by
    rintro e WS ⟨v, xs, rfl, rfl, hown, hbs⟩
    refine ⟨v, rfl, ?_, hbs⟩
    have e : (belowT t node).map (fun x : Nat => Value.int .i64 (x : Int)) = (castL (belowT t node)).map (Value.int .i64) := by simp [castL]
    rw [e] at hown
    exact own_krowI hown)
  have HC := Lib.hid hcol2
  have HBL := Lib.hid (hbl 3)
  rw [hW2] at HC
  clear hit hcol hcol2 hbl
  go_enter Tryd.func8, Tryd.ntmps8
  go_wp2_with (first
    | (go_at_call 19; refine HBL.out.mono ?_; rintro e w' ⟨rfl, rfl⟩)
    | (go_at_call 18; refine HC.out.mono ?_; rintro e WS ⟨v, rfl, HK, hbs⟩; obtain ⟨pv, cv, ev, fv⟩ := HK.out; obtain ⟨nv, hnv⟩ := hid_ex (castL (belowT t node)).length; rw [hnv.out] at ev; clear fv; subst ev)
    | (go_at_call 17; refine (Values_any pv nv cv WS).mono ?_; rintro e w' ⟨rfl, rfl⟩))
  go_ret
  rw [← hW2] at hbs
  have hbS : Below w.heap.size w WS := hb2.trans (hbs.mono hb2.size)
  refine ⟨WS.heap.size, .slice pv nv cv, rfl, hbS.size, by simp, ?_, HK.out.below ((Below.refl _ _).alloc (Nat.le_refl _) _), hbS.alloc hbS.size _⟩
  rw [World.cell?_alloc_at _ _ _ _ rfl]; rfl
end Go.Proofs.YtkmmcphiijolkaaDoor
