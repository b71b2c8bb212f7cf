/-
  The law's walk: what is below nodes is gone over in order, each once; how many, and how deep, is told.
-/
import Derived.Test.YtkmmcphiijolkaaGreatDoorLwGo
import Derived.Test.YtkmmcphiijolkaaGreatDoorZr
import Derived.Test.YtkmmcphiijolkaaGreatDoorZs
import Derived.Test.YtkmmcphiijolkaaGreatDoorZi
set_option linter.unusedVariables false
set_option linter.unusedSimpArgs false
namespace Go.Proofs.YtkmmcphiijolkaaGreatDoor
open Go.RowKit Go.Shelf
open Tr
theorem wf_small (k : Int) (h1 : -1000000 ≤ k) (h2 : k ≤ 1000000) : (Lit.int .i64 k).wf = true := by
  have e1 : IntKind.i64.min = -9223372036854775808 := by decide
  have e2 : IntKind.i64.max = 9223372036854775807 := by decide
  simp [Lit.wf, e1, e2]
  omega
theorem goes_any (w : World) (tv : Value) (t : List NodeD) (ha : ArgT tv t w) (hl : t.length ≤ 800000) (hks : ∀ x ∈ t, x.2.2.2.2.length ≤ 800000) (node : Int) (hwf : (Lit.int .i64 node).wf = true) :
    Calls Tryz.prog 14 #[tv, .int .i64 node] w fun e w' => e = .returned (.bool true) ∧ Below w.heap.size w w' :=
  (callsIn_wide (n := 3)).1 (goes_in Fence.wide rfl trivial fen_wide trivial trivial trivial 3 w tv t ha hl hks node hwf)
namespace lawLwG

set_option maxHeartbeats 16000000 in
set_option maxRecDepth 100000 in
theorem walk (tv vs : Value) (t : List NodeD) (s : List Int) (node : Int) (w : World) (ha : ArgT tv t w) (htl : t.length ≤ maxLen) (hk : KRow vs s w) (hwf : ∀ x ∈ s, (Lit.int .i64 x).wf = true) (hsl : s.length ≤ maxLen) (hm : (Lit.int .i64 node).wf = true) :
    Calls Tryz.prog 4 #[tv, vs, .int .i64 node] w fun e w' => e = .returned (.bool true) ∧ Below w.heap.size w w' := by
  have HAW := Lib.hid (awake_any w)
  have HFE : Hid (∀ w1, Below w.heap.size w w1 → Calls Tryz.prog 9 #[tv, .int .i64 10] w1 fun e w' => ∃ (p : Option Addr) (i c : Nat) (x : List NodeD), e = .returned (.slice p i c) ∧ i ≤ 10 ∧ Hid (i = x.length) ∧ Hid (ArgT (.slice p i c) x w' ∧ ∀ y ∈ x, y.2.2.2.2.length ≤ 6) ∧ Below w1.heap.size w1 w') := (show ∀ w1, _ → _ from fun w1 hb => (Few_any tv t w1 (ha.below hb) htl 10 (by omega)).mono (by
    rintro e w' ⟨p, i, c, P, rfl, HT, hP, hi, hi10, hb2⟩
    have h2 := HT.out.argT
    rw [hP] at h2
    refine ⟨p, i, c, fewT 10 t, rfl, hi10, hi, ⟨h2, fun y hy => ?_⟩, hb2⟩
    unfold fewT at hy
    obtain ⟨z, _, rfl⟩ := List.mem_map.1 hy
    simp only [fewN, List.length_take]
    omega))
  have HMD : Hid (∀ w1, Below w.heap.size w w1 → Calls Tryz.prog 10 #[vs] w1 fun e w' => ∃ (a : Ast) (pt : Option Addr) (m ct : Nat), e = .returned (.slice pt m ct) ∧ Hid (m = a.size) ∧ 3 ≤ m ∧ m ≤ 100000 ∧ Hid (MadeT (.slice pt m ct) a w') ∧ Below w1.heap.size w1 w') := (show ∀ w1, _ → _ from fun w1 hb => (Made_any vs s w1 (hk.below hb) hwf hsl).mono (by
    rintro e w' ⟨a, pt, m, ct, he, h1, h2, h3, h4, h5⟩
    exact ⟨a, pt, m, ct, he, h1, h2, h3, h4, h5⟩))
  have HRE : Hid (∀ w1 (n : Nat), 1 ≤ n → n ≤ 200000 → Calls Tryz.prog 15 #[.int .i64 node, .int .i64 (n : Int)] w1 fun e w' => ∃ kk : Nat, e = .returned (.int .i64 (kk : Int)) ∧ kk < n ∧ w1 = w') := (show ∀ w1 n, _ → _ → _ from fun w1 n h1 h2 => (rest_any node (n : Int) w1 (by omega) (by omega) hm).mono (by
    rintro e w' ⟨rfl, rfl⟩
    have g1 := Int.emod_nonneg node (show (n : Int) ≠ 0 by omega)
    have g2 := Int.emod_lt_of_pos node (show (0 : Int) < (n : Int) by omega)
    exact ⟨(node % (n : Int)).toNat, by rw [Int.toNat_of_nonneg g1], by omega, rfl⟩))
  have HGX : Hid (∀ w1 w2 p (i c : Nat) (x : List NodeD) (k : Int), i ≤ 10 → i = x.length → (ArgT (.slice p i c) x w1 ∧ ∀ y ∈ x, y.2.2.2.2.length ≤ 6) → Below w1.heap.size w1 w2 → (Lit.int .i64 k).wf = true → Calls Tryz.prog 14 #[.slice p i c, .int .i64 k] w2 fun e w' => e = .returned (.bool true) ∧ Below w2.heap.size w2 w') := (show ∀ w1 w2 p i c x k, _ → _ → _ → _ → _ → _ from fun w1 w2 p i c x k h1 h2 h3 hb hk2 => goes_any w2 _ x (h3.1.below hb) (by omega) (fun y hy => by have := h3.2 y hy; omega) k hk2)
  have HGY : Hid (∀ w1 w2 p (m c : Nat) (a : Ast) (k : Int), MadeT (.slice p m c) a w1 → Below w1.heap.size w1 w2 → (Lit.int .i64 k).wf = true → Calls Tryz.prog 14 #[.slice p m c, .int .i64 k] w2 fun e w' => e = .returned (.bool true) ∧ Below w2.heap.size w2 w') := (show ∀ w1 w2 p m c a k, _ → _ → _ → _ from fun w1 w2 p m c a k h hb hk2 => goes_any w2 _ (a.flat 0) ((h.below hb).arg) (by rw [Ast.flat_length]; have := h.le; omega) (fun y hy => by have := Ast.flat_kids 0 a y hy; have := h.le; omega) k hk2)
  have HM := Lib.hid hm
  obtain ⟨pa, ca, rfl, fa⟩ := ha
  obtain ⟨pv, cv, rfl, fv⟩ := hk
  obtain ⟨q1, hq1⟩ := hid_ex t.length
  obtain ⟨q2, hq2⟩ := hid_ex s.length
  rw [hq1.out] at HFE ⊢
  rw [hq2.out] at HMD ⊢
  clear fa fv hwf hsl hm htl
  go_enter Tryz.func4, Tryz.ntmps4
  go_upto_region 4 with (first
    | (go_at_call 10; go_loud (refine (HMD.out w2 (hw1.trans (hw2.mono hw1.size))).mono ?_; rintro e w3 ⟨a, pt, m, ct, rfl, HMA, hm3, hm5, HMT, hw3⟩))
    | (go_at_call 9; go_loud (refine (HFE.out w1 hw1).mono ?_; rintro e w2 ⟨p, i, c, x, rfl, hi, HIX, HX, hw2⟩))
    | (go_at_call 8; go_loud (refine HAW.out.mono ?_; rintro e w1 ⟨rfl, hw1⟩)))
  have hw02 : Below w.heap.size w w2 := hw1.trans (hw2.mono hw1.size)
  have hw03 : Below w.heap.size w w3 := hw02.trans (hw3.mono hw02.size)
  have HW := Lib.hid hw03
  have HW3 := Lib.hid hw3
  clear hw1 hw2 hw3 hw02 hw03
  go_wp2_with (first
    | (go_at_call 14; go_loud (with_reducible (show Calls _ _ #[Value.slice pt m ct, Value.int _ ((m : Int) - 1)] w6 _); refine (HGY.out w3 w6 pt m ct a ((m : Int) - 1) HMT.out (HW4.out.trans ((HW5.out.mono HW4.out.size).trans (HW6.out.mono (Nat.le_trans HW4.out.size HW5.out.size)))) (wf_small _ (by omega) (by omega))).mono ?_; rintro e w7 ⟨rfl, hw7⟩; have HW7 := Lib.hid hw7; clear hw7))
    | (go_at_call 14; go_loud (with_reducible (show Calls _ _ #[Value.slice pt m ct, Value.int _ (k2 : Int)] w5 _); refine (HGY.out w3 w5 pt m ct a (k2 : Int) HMT.out (HW4.out.trans (HW5.out.mono HW4.out.size)) (wf_small _ (by omega) (by omega))).mono ?_; rintro e w6 ⟨rfl, hw6⟩; have HW6 := Lib.hid hw6; clear hw6))
    | (go_at_call 15; go_loud (refine (HRE.out w5 m (by omega) (by omega)).mono ?_; rintro e w' ⟨k2, rfl, hk2, rfl⟩))
    | (go_at_call 14; go_loud (refine (HGX.out w2 w4 p i c x ((k1 : Int) - 1) hi HIX.out HX.out (HW3.out.trans (HW4.out.mono HW3.out.size)) (wf_small _ (by omega) (by omega))).mono ?_; rintro e w5 ⟨rfl, hw5⟩; have HW5 := Lib.hid hw5; clear hw5))
    | (go_at_call 15; go_loud (refine (HRE.out w4 (i + 2) (by omega) (by omega)).mono ?_; rintro e w' ⟨k1, rfl, hk1, rfl⟩))
    | (go_at_call 14; go_loud (refine (HGX.out w2 w3 p i c x node hi HIX.out HX.out HW3.out HM.out).mono ?_; rintro e w4 ⟨rfl, hw4⟩; have HW4 := Lib.hid hw4; clear hw4)))
  go_ret
  exact ⟨rfl, HW.out.trans ((HW4.out.trans ((HW5.out.mono HW4.out.size).trans ((HW6.out.mono (Nat.le_trans HW4.out.size HW5.out.size)).trans (HW7.out.mono (Nat.le_trans HW4.out.size (Nat.le_trans HW5.out.size HW6.out.size)))))).mono HW.out.size)⟩
end lawLwG
end Go.Proofs.YtkmmcphiijolkaaGreatDoor
