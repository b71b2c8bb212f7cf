/-
  The law's walk over what is below a node, at this program.
-/
import Derived.Test.YtkmmcphiijolkaaGreatDoorZs
import Derived.Test.YtkmmcphiijolkaaGreatDoorZf
import Derived.Test.YtkmmcphiijolkaaGreatDoorZe
import Derived.Deep.RegionHeld3
import Derived.Deep.DrawnRows
set_option linter.unusedVariables false
set_option linter.unusedSimpArgs false
namespace Go.Proofs.YtkmmcphiijolkaaGreatDoor
open Go.RowKit Go.Shelf
open Tr
attribute [local go_sem] Oper.semAt_some
attribute [local go_sem ↓] Go.wp_at_zero Go.wp_at_succ

theorem no_nil_in2 (d : Nat) (k : FuncId) (caps : Array Value) (w : World) : (Op.equalIn (d + 1) 70 (.func (.func k) #[] caps) .nilFunc).run Tryz.prog w = .ok false w := by
  unfold Op.equalIn
  simp [run_underlying, Tryz.underlying70, go_sem]
theorem no_nil2 (k : FuncId) (caps : Array Value) (w : World) : (binOp .eql 70 (.func (.func k) #[] caps) .nilFunc).run Tryz.prog w = .ok (.bool false) w := by
  have h := no_nil_in2 9999 k caps w
  have e : Op.equal 70 (.func (.func k) #[] caps) .nilFunc = Op.equalIn (9999 + 1) 70 (.func (.func k) #[] caps) .nilFunc := rfl
  show (do pure (.bool (← Op.equal 70 (.func (.func k) #[] caps) .nilFunc)) : Sem Value).run Tryz.prog w = _
  rw [e, Sem.run_bind, h]
  rfl
/-- Numbers of a row that lies below block B. -/
def KAt (B : Nat) (pr : Option Addr) (xs : List Nat) (A : World) : Prop := ∀ (j x : Nat), xs[j]? = some x → ∃ g o, pr = some ⟨g, o, none⟩ ∧ g < B ∧ A.cell? ⟨g, o + j, none⟩ = some (.int .i64 (x : Int))
theorem KAt.of {pr : Option Addr} {n c : Nat} {xs : List Nat} {w : World} (h : KRow (.slice pr n c) (castL xs) w) : KAt w.heap.size pr xs w := by
  obtain ⟨pa, cap, e, f, _⟩ := h
  injection e with e1 _ _
  subst e1
  intro j x hx
  exact f j (x : Int) (by simp [castL, hx])
theorem KAt.keep {B B2 : Nat} {pr : Option Addr} {xs : List Nat} {A A' : World} (h : KAt B pr xs A) (hb : Below B2 A A') (hB : B ≤ B2) : KAt B pr xs A' := fun j x hx => by
  obtain ⟨g, o, e, hg, hc⟩ := h j x hx
  exact ⟨g, o, e, hg, (hb.cell (p := ⟨g, o + j, none⟩) (by show g < _; omega)).trans hc⟩

set_option maxHeartbeats 16000000 in
set_option maxRecDepth 100000 in
theorem goes_in (F : Fence) (hFw : F = Fence.wide) (hfl : F.fn 14) (hf : Fen F) (hva : F.fn 106) (hf1 : F.fn 19) (hf3 : F.fn 35) (n : Nat) (w : World) (tv : Value) (t : List NodeD) (ha : ArgT tv t w) (hl : t.length ≤ 800000) (hks : ∀ x ∈ t, x.2.2.2.2.length ≤ 800000) (node : Int) (hwf : (Lit.int .i64 node).wf = true) :
    CallsIn F n Tryz.prog 14 #[tv, .int .i64 node] w fun e w' => e = .returned (.bool true) ∧ Below w.heap.size w w' := by
  have hd := hf.d
  have hro := hf.r
  have HFW := Lib.hid hFw
  have hks9 : ∀ x ∈ t, x.2.2.2.2.length ≤ 900000 := fun x hx => by have := hks x hx; omega
  have hksm : ∀ x ∈ t, x.2.2.2.2.length ≤ maxLen := fun x hx => by have := hks x hx; unfold maxLen; omega
  obtain ⟨xs, hxs⟩ := hid_ex (belowT t node)
  have hxl : xs.length ≤ 1000000 := by rw [← hxs.out]; exact Nat.le_trans (few_length (below_few t node)) (by omega)
  have HRA : Hid (∀ k w1, Below w.heap.size w w1 → CallsIn F k Tryz.prog 19 #[tv, .int .i64 node] w1 fun e w' => ∃ (pr : Option Addr) (nr cr : Nat), e = .returned (.slice pr nr cr) ∧ Hid (nr = xs.length) ∧ Hid (KRow (.slice pr nr cr) (castL xs) w') ∧ Below w1.heap.size w1 w') := (show ∀ k w1, _ → _ from fun k w1 hb => by
    rw [hFw]
    refine callsIn_wide.2 ((refAll_any tv t w1 (ha.below hb) (by omega) hks9 node).mono ?_)
    rintro e w' ⟨v, rfl, hown, hb2⟩
    have hkr := own_krowI hown
    rw [hxs.out] at hkr
    obtain ⟨pr, cr, ev, fv⟩ := hkr
    have hcl : (castL xs).length = xs.length := by simp [castL]
    rw [hcl] at ev
    subst ev
    exact ⟨pr, xs.length, cr, rfl, rfl, (show KRow _ _ _ from ⟨pr, cr, by rw [hcl], fv⟩), hb2⟩)
  have HAL : Hid (∀ k w1, Below w.heap.size w w1 → CallsIn F k Tryz.prog 35 #[tv, .int .i64 node] w1 fun e w' => ∃ (b : Nat) (v : Value), e = .returned (.func (.func 106) #[] #[.pointer (some ⟨b, 0, none⟩)]) ∧ w1.heap.size ≤ b ∧ b < w'.heap.size ∧ Hid (w'.cell? ⟨b, 0, none⟩ = some v) ∧ Hid (KRow v (castL xs) w') ∧ Below w1.heap.size w1 w') := (show ∀ k w1, _ → _ from fun k w1 hb => by
    rw [hFw, ← hxs.out]
    exact callsIn_wide.2 (All_any w1 tv t (ha.below hb) (by omega) hksm node))
  have HSZ : Hid (∀ w1, Below w.heap.size w w1 → Calls Tryz.prog 22 #[tv, .int .i64 node] w1 fun e w' => e = .returned (.int .i64 (xs.length : Int)) ∧ Below w1.heap.size w1 w') := (show ∀ w1, _ → _ from fun w1 hb => by
    rw [← hxs.out]
    exact Size_any w1 tv t (ha.below hb) (by omega) hksm node)
  have HDE : Hid (∀ w1, Below w.heap.size w w1 → Calls Tryz.prog 21 #[tv, .int .i64 node] w1 fun e w' => e = .returned (.int .i64 (depthT t node : Int)) ∧ Below w1.heap.size w1 w') := (show ∀ w1, _ → _ from fun w1 hb => Depth_any w1 tv t (ha.below hb) (by omega) hksm node hwf)
  have HRD : Hid (∀ w1, Below w.heap.size w w1 → Calls Tryz.prog 36 #[tv, .int .i64 node] w1 fun e w' => e = .returned (.int .i64 (depthT t node : Int)) ∧ Below w1.heap.size w1 w') := (show ∀ w1, _ → _ from fun w1 hb => refDepth_any tv t w1 (ha.below hb) (by omega) hks9 node)
  obtain ⟨pa, ca, rfl, fa⟩ := ha
  obtain ⟨m, hm⟩ := hid_ex t.length
  rw [hm.out] at HRA HAL HSZ HDE HRD ⊢
  obtain ⟨dd, hdd⟩ := hid_ex (depthT t node)
  rw [hdd.out] at HDE HRD
  have hnn := no_nil2
  clear fa hks hks9 hksm hl hFw hwf
  refine callsIn_of_wp_marks Tryz.func14 rfl hfl ?_ hro
  simp only [Tryz.ntmps14, List.size_toArray, List.length_cons, List.length_nil, Nat.reduceAdd, Nat.reduceSub, Array.replicate_succ, Array.replicate_zero, List.push_toArray, List.append_toArray, List.nil_append, List.cons_append]
  gi_wp2_with (first
    | ((try refine ⟨depthless hd _, ?_⟩); gi_at_call 35; go_loud (have hb1 := ((Below.refl w.heap.size w).alloc (Nat.le_refl _) (.cells #[.bool false] 4)); have hb2 := (hb1.trans (hw1.mono hb1.size)); have hb3 := hb2.alloc hb2.size (.cells #[.slice pr nr cr] 24); refine (HAL.out _ _ hb3).mono ?_; rintro e w3 ⟨b, v3, rfl, hb4, hb5, HB, HV, hw3⟩))
    | ((try refine ⟨depthless hd _, ?_⟩); gi_at_call 19; go_loud (refine (HRA.out _ _ ((Below.refl _ _).alloc (Nat.le_refl _) _)).mono ?_; rintro e w1 ⟨pr, nr, cr, rfl, hnr, HKR, hw1⟩)))
  obtain ⟨W, hW⟩ : ∃ W, W = w3.alloc (.cells #[.int .i64 0] 3) := ⟨_, rfl⟩
  have hbW3 : Below w3.heap.size w3 W := by rw [hW]; exact (Below.refl _ w3).alloc (Nat.le_refl _) _
  have hsW : W.heap.size = w3.heap.size + 1 := by rw [hW]; simp
  have q0 : W.cell? ⟨w3.heap.size, 0, none⟩ = some (.int .i64 0) := by rw [hW, World.cell?_alloc_at _ _ _ _ rfl]; rfl
  have q0f : W.frozen? ⟨w3.heap.size, 0, none⟩ = false := by rw [hW]; simp [go_sem]
  rw [← hW]
  obtain ⟨WA, hWA⟩ : ∃ WA, WA = w.alloc (.cells #[.bool false] 4) := ⟨_, rfl⟩
  obtain ⟨WB, hWB⟩ : ∃ WB, WB = w1.alloc (.cells #[.slice pr nr cr] 24) := ⟨_, rfl⟩
  rw [← hWA] at hw1
  rw [← hWB] at hw3 hb4
  have hsA : WA.heap.size = w.heap.size + 1 := by rw [hWA]; simp
  have hsB : WB.heap.size = w1.heap.size + 1 := by rw [hWB]; simp
  have hbA0 : Below w.heap.size w WA := by rw [hWA]; exact (Below.refl _ w).alloc (Nat.le_refl _) _
  have hbB1 : Below w1.heap.size w1 WB := by rw [hWB]; exact (Below.refl _ w1).alloc (Nat.le_refl _) _
  have r0 : WA.cell? ⟨w.heap.size, 0, none⟩ = some (.bool false) := by rw [hWA, World.cell?_alloc_at _ _ _ _ rfl]; rfl
  have r0f : WA.frozen? ⟨w.heap.size, 0, none⟩ = false := by rw [hWA]; simp [go_sem]
  have z1 : w.heap.size < w1.heap.size := by have := hw1.size; omega
  have z3 : w1.heap.size < w3.heap.size := by have := hw3.size; omega
  have e0 : WB.cell? ⟨w1.heap.size, 0, none⟩ = some (.slice pr nr cr) := by rw [hWB, World.cell?_alloc_at _ _ _ _ rfl]; rfl
  have e1 : W.cell? ⟨w1.heap.size, 0, none⟩ = some (.slice pr nr cr) := ((hbW3.cell (p := ⟨w1.heap.size, 0, none⟩) (by show w1.heap.size < _; omega)).trans ((hw3.cell (p := ⟨w1.heap.size, 0, none⟩) (by show w1.heap.size < _; omega)).trans e0))
  have hk1 : KAt w1.heap.size pr xs W := ((((KAt.of HKR.out).keep hbB1 (Nat.le_refl _)).keep hw3 (by omega)).keep hbW3 (by omega))
  have hwW : Below w.heap.size w W := hbA0.trans ((hw1.mono (by omega)).trans ((hbB1.mono (by omega)).trans ((hw3.mono (by omega)).trans (hbW3.mono (by omega)))))
  have hw13 : Below WA.heap.size WA W := hw1.trans ((hbB1.mono (by omega)).trans ((hw3.mono (by omega)).trans (hbW3.mono (by omega))))
  have r1 : W.cell? ⟨w.heap.size, 0, none⟩ = some (.bool false) := (hw13.cell (p := ⟨w.heap.size, 0, none⟩) (by show w.heap.size < _; omega)).trans r0
  have r1f : W.frozen? ⟨w.heap.size, 0, none⟩ = false := (hw13.frozen (p := ⟨w.heap.size, 0, none⟩) (by show w.heap.size < _; omega)).trans r0f
  have hg := values_gives F hd hro (n - 1) hva w3 v3 xs HV.out hxl b (fun _ k => k = w3.heap.size) W (Dyn.const _ _) hbW3 (fun _ k e => by omega) (by omega) ((hbW3.cell (p := ⟨b, 0, none⟩) hb5).trans HB.out)
  clear hW hWA hWB HB HV HRA HAL r0 r0f e0 hw1 hw3 hbB1 hbA0 hb4 hb5 hw13 HKR
  refine wpIn_rangeFunc_R hro (depthless hd _) (gf := 106) (lb := #[.pointer (some ⟨b, 0, none⟩)]) rfl hva (enters_of Tryz.func106 (by kernel_rfl) rfl)
    (R := fun _ k => k = w3.heap.size) (Dyn.const _ _) hg (fun _ => rfl)
    (fun q A => A.cell? ⟨w3.heap.size, 0, none⟩ = some (.int .i64 (q.length : Int)) ∧ A.frozen? ⟨w3.heap.size, 0, none⟩ = false ∧ A.cell? ⟨w1.heap.size, 0, none⟩ = some (.slice pr nr cr) ∧ KAt w1.heap.size pr xs A)
    (fun c q A => False) (fun q A _ hs k e => by omega)
    (fun q A B ⟨u1, u2, u3, u4⟩ hST hs => have hB := hST.b
      ⟨(hB.cell (p := ⟨w3.heap.size, 0, none⟩) (by show w3.heap.size < _; omega)).trans u1, (hB.frozen (p := ⟨w3.heap.size, 0, none⟩) (by show w3.heap.size < _; omega)).trans u2, (hB.cell (p := ⟨w1.heap.size, 0, none⟩) (by show w1.heap.size < _; omega)).trans u3, u4.keep hB (by omega)⟩)
    (fun c q A B h hB hs => h) ⟨q0, q0f, e1, hk1⟩
    (fun x => { tmps := #[.slice pa m ca, .int .i64 node, undef, undef, .pointer (some ⟨w.heap.size, 0, none⟩), .pointer (some ⟨w1.heap.size, 0, none⟩), .func (.func 106) #[] #[.pointer (some ⟨b, 0, none⟩)], .pointer (some ⟨w3.heap.size, 0, none⟩), .int .i64 (x : Int), .slice pa m ca, .int .i64 node, .slice pr nr cr, .slice pa m ca, .int .i64 node, .func (.func 106) #[] #[.pointer (some ⟨b, 0, none⟩)], .func (.func 106) #[] #[.pointer (some ⟨b, 0, none⟩)], .bool false, .func (.func 106) #[] #[.pointer (some ⟨b, 0, none⟩)], .int .i64 (x : Int), undef, undef, undef, undef, undef, undef, undef, undef, undef, undef, undef, undef, undef, undef, undef, undef, undef, undef, undef, undef, undef, undef, undef, undef, undef, undef, undef, undef, undef, undef, undef, undef, undef, undef], defers := [] })
    ?assign ?body ?done ?stop
  case assign =>
    intro l x W' K hK
    gi_wp2
    simpa using hK
  case body =>
    rintro l2 q2 x A ⟨u1, u2, u3, u4⟩ hS hsz
    have hle : q2.length + 1 ≤ xs.length := by
      have := hS.length_le
      rwa [List.length_append, List.length_singleton] at this
    have hqx : xs[q2.length]? = some x := by
      obtain ⟨r, hr⟩ := hS
      rw [← hr, List.append_assoc, List.getElem?_append_right (Nat.le_refl _), Nat.sub_self]
      rfl
    obtain ⟨gk, ok, rfl, hgk, kc⟩ := u4 _ _ hqx
    obtain ⟨c, hc⟩ : ∃ c, c = q2.length := ⟨_, rfl⟩
    rw [← hc] at u1 hle kc
    have HC := Lib.hid hc
    have HU4 := Lib.hid u4
    have hcn : c < nr := by have := hnr.out; omega
    clear hc hg hS q0 q0f e1 hk1 u4 hqx r1 r1f
    have hcw : IntKind.i64.wrap ((c : Int) + 1) = (c : Int) + 1 := IntWalk.i64_in _ (by omega)
    have g1 : ¬ (nr : Int) ≤ (c : Int) := by omega
    gi_wp2
    refine ⟨(Chg.refl (fun _ k => k = w3.heap.size) A).setCell (Dyn.const _ 0) (p := ⟨w3.heap.size, 0, none⟩) (Nat.zero_le _) (Nat.zero_le _) (fun _ => rfl) _, ?_, by rw [World.frozen?_setCell]; exact u2, ?_, ?_⟩
    · rw [List.length_append, List.length_singleton, ← HC.out]
      exact World.cell?_setCell_same' _ _ _ (by rw [u1]; rfl)
    · exact (World.cell?_of_block (a := ⟨w1.heap.size, 0, none⟩) (Below.heap_setCell A ⟨w3.heap.size, 0, none⟩ _ w1.heap.size (by show w1.heap.size ≠ w3.heap.size; omega))).trans u3
    · exact HU4.out.keep ((Below.refl w1.heap.size A).setCell (p := ⟨w3.heap.size, 0, none⟩) (by show w1.heap.size ≤ w3.heap.size; omega) _) (Nat.le_refl _)
  case done =>
    rintro q2 A rfl ⟨u1, u2, u3, u4⟩ hcA hK _
    have hbWA : Below w3.heap.size W A := hcA.below (by omega) (fun k hk e => by omega)
    have k3a : A.cell? ⟨w.heap.size, 0, none⟩ = some (.bool false) := (hbWA.cell (p := ⟨w.heap.size, 0, none⟩) (by show w.heap.size < _; omega)).trans r1
    have k4a : A.frozen? ⟨w.heap.size, 0, none⟩ = false := (hbWA.frozen (p := ⟨w.heap.size, 0, none⟩) (by show w.heap.size < _; omega)).trans r1f
    have za : w3.heap.size < A.heap.size := by have := hcA.size; omega
    have Ba : Hid (Below w.heap.size w A) := (show Below _ _ _ from hwW.trans (hbWA.mono (by omega)))
    have HWS : Hid (W.heap.size = w3.heap.size + 1) := hsW
    have HKK := Lib.hid hK
    have k1a := u1
    have k2a := u3
    rw [← hnr.out] at k1a HSZ
    clear hg q0 q0f e1 hk1 r1 r1f u1 u2 u3 u4 hbWA hsW hsA hsB hbW3 hwW hcA hK hva hf1 hf3 hfl hnn
    gi_wp2_with fail
    obtain rfl := HFW.out
    refine wpIn_wide.2 ?_
    clear hf hd hro
    go_region_held3 (fun w' => w'.cell? ⟨w3.heap.size, 0, none⟩ = some (.int .i64 (nr : Int)) ∧ w'.cell? ⟨w1.heap.size, 0, none⟩ = some (.slice pr nr cr)) (first | go_keep | exact ⟨(World.cell?_setCell_far _ _ _ _ (by show w.heap.size ≠ w3.heap.size; omega)).trans k17, (World.cell?_setCell_far _ _ _ _ (by show w.heap.size ≠ w1.heap.size; omega)).trans k27⟩)
      (first
        | (go_at_call 36; go_loud (refine (HRD.out w6 B6.out).mono ?_; rintro e w7 ⟨rfl, hb7⟩; have k17 := (hb7.cell (p := ⟨w3.heap.size, 0, none⟩) (by show w3.heap.size < _; omega)).trans k16; have k27 := (hb7.cell (p := ⟨w1.heap.size, 0, none⟩) (by show w1.heap.size < _; omega)).trans k26; have k37 := (hb7.cell (p := ⟨w.heap.size, 0, none⟩) (by show w.heap.size < _; omega)).trans k36; have k47 := (hb7.frozen (p := ⟨w.heap.size, 0, none⟩) (by show w.heap.size < _; omega)).trans k46; have z7 : w3.heap.size < w7.heap.size := Nat.lt_of_lt_of_le z6 hb7.size; have B7 := Lib.hid (B6.out.trans (hb7.mono (Nat.le_trans (by omega) (Nat.le_of_lt z6))))))
        | (go_at_call 21; go_loud (refine (HDE.out w5 B5.out).mono ?_; rintro e w6 ⟨rfl, hb6⟩; have k16 := (hb6.cell (p := ⟨w3.heap.size, 0, none⟩) (by show w3.heap.size < _; omega)).trans k15; have k26 := (hb6.cell (p := ⟨w1.heap.size, 0, none⟩) (by show w1.heap.size < _; omega)).trans k25; have k36 := (hb6.cell (p := ⟨w.heap.size, 0, none⟩) (by show w.heap.size < _; omega)).trans k35; have k46 := (hb6.frozen (p := ⟨w.heap.size, 0, none⟩) (by show w.heap.size < _; omega)).trans k45; have z6 : w3.heap.size < w6.heap.size := Nat.lt_of_lt_of_le z5 hb6.size; have B6 := Lib.hid (B5.out.trans (hb6.mono (Nat.le_trans (by omega) (Nat.le_of_lt z5))))))
        | (go_at_call 22; go_loud (refine (HSZ.out A.drew Ba.out.drew).mono ?_; rintro e w5 ⟨rfl, hb5⟩; have k15 := (hb5.cell (p := ⟨w3.heap.size, 0, none⟩) (by show w3.heap.size < A.heap.size; omega)).trans k1a; have k25 := (hb5.cell (p := ⟨w1.heap.size, 0, none⟩) (by show w1.heap.size < A.heap.size; omega)).trans k2a; have k35 := (hb5.cell (p := ⟨w.heap.size, 0, none⟩) (by show w.heap.size < A.heap.size; omega)).trans k3a; have k45 := (hb5.frozen (p := ⟨w.heap.size, 0, none⟩) (by show w.heap.size < A.heap.size; omega)).trans k4a; have z5 : w3.heap.size < w5.heap.size := Nat.lt_of_lt_of_le za hb5.size; have B5 := Lib.hid (Ba.out.drew.trans (hb5.mono (Nat.le_trans (by omega) (Nat.le_of_lt za)))))))
    gi_wp2_with fail
    have hlt := (Array.getElem?_eq_some_iff.1 HKK.out).1
    have hK5 := (hb5.block W.heap.size hlt).trans HKK.out
    have hlt5 := (Array.getElem?_eq_some_iff.1 hK5).1
    have hK6 := (hb6.block W.heap.size hlt5).trans hK5
    have hlt6 := (Array.getElem?_eq_some_iff.1 hK6).1
    have hK7 := (hb7.block W.heap.size hlt6).trans hK6
    have hK8 := (Below.heap_setCell w7 ⟨w.heap.size, 0, none⟩ (.bool true) W.heap.size (by have := HWS.out; show W.heap.size ≠ w.heap.size; omega)).trans hK7
    have hcell : ((w7.setCell ⟨w.heap.size, 0, none⟩ (.bool true)).putObj W.heap.size (.deferred none)).cell? ⟨w.heap.size, 0, none⟩ = some (.bool true) := by
      refine (World.cell?_of_block (a := ⟨w.heap.size, 0, none⟩) (World.putObj_heap_other (by have := HWS.out; show w.heap.size ≠ W.heap.size; omega))).trans ?_
      exact World.cell?_setCell_same' _ _ _ (by rw [k37]; rfl)
    refine ⟨by simp, .inl ⟨_, _, rfl, run_takeDeferred hK8, ?_⟩⟩
    refine ⟨.bool true, ?_, rfl, ?_⟩
    · simp [results, go_sem, hcell]
    · exact (B7.out.setCell (p := ⟨w.heap.size, 0, none⟩) (Nat.le_refl _) _).trans ⟨rfl, rfl, rfl, by rw [World.putObj_size]; exact Nat.le_refl _, fun k hk => World.putObj_heap_other (by have := HWS.out; omega)⟩
  case stop =>
    rintro c q2 A h
    exact h.elim
end Go.Proofs.YtkmmcphiijolkaaGreatDoor
