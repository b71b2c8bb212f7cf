/-
  The law's walk: what is below a node of a tree that is made of numbers may be left off; its root goes over all nodes.
-/
import Derived.Test.YtkmmcphiijolkaaDoorZr
import Derived.Test.YtkmmcphiijolkaaDoorZi
set_option linter.unusedVariables false
set_option linter.unusedSimpArgs false
namespace Go.Proofs.YtkmmcphiijolkaaDoor
open Go.RowKit Go.Shelf
open Tr
attribute [local go_sem] Oper.semAt_some
namespace lawLwS

theorem no_nil_in (d : Nat) (k : FuncId) (caps : Array Value) (w : World) : (Op.equalIn (d + 1) 28 (.func (.func k) #[] caps) .nilFunc).run Tryd.prog w = .ok false w := by
  unfold Op.equalIn
  simp [run_underlying, Tryd.underlying28, go_sem]
theorem no_nil (k : FuncId) (caps : Array Value) (w : World) : (binOp .eql 28 (.func (.func k) #[] caps) .nilFunc).run Tryd.prog w = .ok (.bool false) w := by
  have h := no_nil_in 9999 k caps w
  have e : Op.equal 28 (.func (.func k) #[] caps) .nilFunc = Op.equalIn (9999 + 1) 28 (.func (.func k) #[] caps) .nilFunc := rfl
  show (do pure (.bool (← Op.equal 28 (.func (.func k) #[] caps) .nilFunc)) : Sem Value).run Tryd.prog w = _
  rw [e, Sem.run_bind, h]
  rfl
set_option maxHeartbeats 16000000 in
set_option maxRecDepth 100000 in
theorem stops_in (F : Fence) (hFw : F = Fence.wide) (hfl : F.fn 3) (hf : Fen F) (hva : F.fn 34) (hf1 : F.fn 6) (hf2 : F.fn 7) (hf3 : F.fn 8) (hf4 : F.fn 9) (n : Nat) (w : World) (vs : Value) (s : List Int) (many : Int) (hk : KRow vs s w) (hwf : ∀ x ∈ s, (Lit.int .i64 x).wf = true) (hsl : s.length ≤ maxLen) (hm : (Lit.int .i64 many).wf = true) :
    CallsIn F n Tryd.prog 3 #[vs, .int .i64 many] w fun e w' => e = .returned (.bool true) ∧ Below w.heap.size w w' := by
  have hd := hf.d
  have hro := hf.r
  have hf5 := hf.s
  have hnn := no_nil
  have HAW : Hid (∀ k, CallsIn F k Tryd.prog 6 #[] w fun e w' => e = .returned (.bool true) ∧ Below w.heap.size w w') := (show ∀ k, _ from fun k => by rw [hFw]; exact callsIn_wide.2 (awake_any w))
  have HMD : Hid (∀ k w1, Below w.heap.size w w1 → CallsIn F k Tryd.prog 7 #[vs] w1 fun e w' => ∃ (a : Ast) (pt : Option Addr) (m ct : Nat), e = .returned (.slice pt m ct) ∧ Hid (m = a.size) ∧ 3 ≤ m ∧ m ≤ 100000 ∧ Hid (MadeT (.slice pt m ct) a w') ∧ Below w1.heap.size w1 w') := (show ∀ k w1, _ → _ from fun k w1 hb => by
    rw [hFw]
    refine callsIn_wide.2 ((Made_any vs s w1 (hk.below hb) hwf hsl).mono ?_)
    rintro e w' ⟨a, pt, m, ct, he, h1, h2, h3, h4, h5⟩
    exact ⟨a, pt, m, ct, he, h1, h2, h3, h4, h5⟩)
  have HALL : Hid (∀ k w1 pt m ct (a : Ast), m = a.size → MadeT (.slice pt m ct) a w1 → CallsIn F k Tryd.prog 8 #[.slice pt m ct, .int .i64 ((m : Int) - 1)] w1 fun e w' => ∃ (b : Nat) (v : Value), e = .returned (.func (.func 34) #[] #[.pointer (some ⟨b, 0, none⟩)]) ∧ w1.heap.size ≤ b ∧ b < w'.heap.size ∧ Hid (w'.cell? ⟨b, 0, none⟩ = some v) ∧ Hid (KRow v (castL (belowT (a.flat 0) ((a.size : Int) - 1))) w') ∧ Below w1.heap.size w1 w') := (show ∀ k w1 pt m ct a, _ → _ → _ from fun k w1 pt m ct a he h => by
    rw [hFw]
    subst he
    exact callsIn_wide.2 (All_any w1 _ (a.flat 0) h.arg (by rw [Ast.flat_length]; have := h.le; omega) h.kids _))
  have HSZ : Hid (∀ k w1 pt m ct (a : Ast), m = a.size → MadeT (.slice pt m ct) a w1 → CallsIn F k Tryd.prog 10 #[.slice pt m ct, .int .i64 ((m : Int) - 1)] w1 fun e w' => e = .returned (.int .i64 (m : Int)) ∧ Below w1.heap.size w1 w') := (show ∀ k w1 pt m ct a, _ → _ → _ from fun k w1 pt m ct a he h => by
    rw [hFw]
    subst he
    refine callsIn_wide.2 ((Size_any w1 _ (a.flat 0) h.arg (by rw [Ast.flat_length]; have := h.le; omega) h.kids _).mono ?_)
    rintro e w' ⟨rfl, hb⟩
    exact ⟨by rw [flat_below_length], hb⟩)
  have HRE : Hid (∀ k w1 (m : Nat), 3 ≤ m → m ≤ 100000 → CallsIn F k Tryd.prog 9 #[.int .i64 many, .int .i64 ((m : Int) + 2)] w1 fun e w' => ∃ kk : Nat, e = .returned (.int .i64 (kk : Int)) ∧ kk ≤ m + 1 ∧ w1 = w') := (show ∀ k w1 m, _ → _ → _ from fun k w1 m h1 h2 => by
    rw [hFw]
    refine callsIn_wide.2 ((rest_any many ((m : Int) + 2) w1 (by omega) (by omega) hm).mono ?_)
    rintro e w' ⟨rfl, rfl⟩
    have g1 := Int.emod_nonneg many (show (m : Int) + 2 ≠ 0 by omega)
    have g2 := Int.emod_lt_of_pos many (show (0 : Int) < (m : Int) + 2 by omega)
    exact ⟨(many % ((m : Int) + 2)).toNat, by rw [Int.toNat_of_nonneg g1], by omega, rfl⟩)
  obtain ⟨pv, cv, rfl, fv⟩ := hk
  obtain ⟨q, hq⟩ : ∃ q, q = s.length := ⟨_, rfl⟩
  rw [← hq] at HMD ⊢
  clear fv hwf hsl hm hFw hq
  refine callsIn_of_wp_marks Tryd.func3 rfl hfl ?_ hro
  simp only [Tryd.ntmps3, List.size_toArray, List.length_cons, List.length_nil, Nat.reduceAdd, Nat.reduceSub, Array.replicate_succ, Array.replicate_zero, List.push_toArray, List.append_toArray, List.nil_append, List.cons_append]
  gi_wp2_with (first
    | ((try refine ⟨depthless hd _, ?_⟩); gi_at_call 9; refine (HRE.out _ _ m hm3 hm5).mono ?_; rintro e w' ⟨kk, rfl, hkk, rfl⟩)
    | ((try refine ⟨depthless hd _, ?_⟩); gi_at_call 8; refine (HALL.out _ w2 pt m ct a HMA.out HMT.out).mono ?_; rintro e w3 ⟨b, v3, rfl, hb3, hb4, HB, HV, hw3⟩)
    | ((try refine ⟨depthless hd _, ?_⟩); gi_at_call 7; refine (HMD.out _ w1 hw1).mono ?_; rintro e w2 ⟨a, pt, m, ct, rfl, HMA, hm3, hm5, HMT, hw2⟩)
    | ((try refine ⟨depthless hd _, ?_⟩); gi_at_call 6; refine (HAW.out _).mono ?_; rintro e w1 ⟨rfl, hw1⟩))
  obtain ⟨W, hW⟩ : ∃ W, W = (w3.alloc (.cells #[.int .i64 (kk : Int)] 3)).alloc (.cells #[.int .i64 0] 3) := ⟨_, rfl⟩
  have hbW3 : Below w3.heap.size w3 W := by rw [hW]; exact ((Below.refl _ w3).alloc (Nat.le_refl _) _).alloc (by simp) _
  have hsW : W.heap.size = w3.heap.size + 2 := by rw [hW]; simp
  have k0 : W.cell? ⟨w3.heap.size, 0, none⟩ = some (.int .i64 (kk : Int)) := by
    rw [hW, World.cell?_alloc_past _ _ _ (by simp), World.cell?_alloc_at _ _ _ _ rfl]; rfl
  have q0 : W.cell? ⟨w3.heap.size + 1, 0, none⟩ = some (.int .i64 0) := by
    rw [hW, World.cell?_alloc_at _ _ _ _ (by simp)]; rfl
  have q0f : W.frozen? ⟨w3.heap.size + 1, 0, none⟩ = false := by rw [hW]; simp [go_sem]
  rw [← hW]
  have hw03 : Below w.heap.size w w3 := hw1.trans ((hw2.mono hw1.size).trans (hw3.mono (Nat.le_trans hw1.size hw2.size)))
  have hbW : Below w.heap.size w W := hw03.trans (hbW3.mono hw03.size)
  have hml := flat_below_length a
  have hmT : MadeT (.slice pt m ct) a W := HMT.out.below (hw3.trans (hbW3.mono hw3.size))
  have HMW := Lib.hid hmT
  have hg := values_gives F hd hro (n - 1) hva w3 v3 _ HV.out (by rw [hml]; have := HMA.out; omega) b (fun _ k => k = w3.heap.size + 1) W (Dyn.const _ _) hbW3 (fun _ k e => by omega) (by omega) ((hbW3.cell (p := ⟨b, 0, none⟩) hb4).trans HB.out)
  obtain ⟨xs, hxs⟩ := hid_ex (belowT (a.flat 0) ((a.size : Int) - 1))
  rw [hxs.out] at hg hml
  have HML : Hid (xs.length = m) := (show _ = _ from hml.trans HMA.out.symm)
  clear hW hml hmT HB HV HMD HALL HRE HAW
  refine wpIn_rangeFunc_R hro (depthless hd _) (gf := 34) (lb := #[.pointer (some ⟨b, 0, none⟩)]) rfl hva (enters_of Tryd.func34 (by kernel_rfl) rfl)
    (R := fun _ k => k = w3.heap.size + 1) (Dyn.const _ _) hg (fun _ => rfl)
    (fun q A => A.cell? ⟨w3.heap.size + 1, 0, none⟩ = some (.int .i64 (q.length : Int)) ∧ A.frozen? ⟨w3.heap.size + 1, 0, none⟩ = false ∧ q.length ≤ kk ∧ A.cell? ⟨w3.heap.size, 0, none⟩ = some (.int .i64 (kk : Int)))
    (fun c q A => c = .exit 0 ∧ A.cell? ⟨w3.heap.size + 1, 0, none⟩ = some (.int .i64 (kk : Int)) ∧ kk < m ∧ A.cell? ⟨w3.heap.size, 0, none⟩ = some (.int .i64 (kk : Int))) (fun q A _ hs k e => by omega)
    (fun q A B ⟨u1, u2, u3, u4⟩ hST hs => have hB := hST.b
      ⟨(hB.cell (p := ⟨w3.heap.size + 1, 0, none⟩) (by show w3.heap.size + 1 < _; omega)).trans u1, (hB.frozen (p := ⟨w3.heap.size + 1, 0, none⟩) (by show w3.heap.size + 1 < _; omega)).trans u2, u3, (hB.cell (p := ⟨w3.heap.size, 0, none⟩) (by show w3.heap.size < _; omega)).trans u4⟩)
    (fun c q A B ⟨u0, u1, u3, u4⟩ hB hs => ⟨u0, (hB.cell (p := ⟨w3.heap.size + 1, 0, none⟩) (by show w3.heap.size + 1 < _; omega)).trans u1, u3, (hB.cell (p := ⟨w3.heap.size, 0, none⟩) (by show w3.heap.size < _; omega)).trans u4⟩) ⟨q0, q0f, Nat.zero_le _, k0⟩
    (fun x => { tmps := #[.slice pv q cv, .int .i64 many, undef, undef, .bool false, .bool true, .slice pt m ct, .func (.func 34) #[] #[.pointer (some ⟨b, 0, none⟩)], .pointer (some ⟨w3.heap.size, 0, none⟩), .pointer (some ⟨w3.heap.size + 1, 0, none⟩), .bool true, .slice pv q cv, .slice pt m ct, .slice pt m ct, .slice pt m ct, .int .i64 (m : Int), .int .i64 ((m : Int) - 1), .func (.func 34) #[] #[.pointer (some ⟨b, 0, none⟩)], .func (.func 34) #[] #[.pointer (some ⟨b, 0, none⟩)], .bool false, .int .i64 many, .slice pt m ct, .int .i64 (m : Int), .int .i64 ((m : Int) + 2), .int .i64 (kk : Int), .func (.func 34) #[] #[.pointer (some ⟨b, 0, none⟩)], .int .i64 (x : Int), undef, undef, undef, undef, undef, undef, undef, undef, undef, undef, undef, undef, undef, undef, undef, undef, undef, undef, undef, undef, undef, undef, undef, undef], defers := [] })
    ?assign ?body ?done ?stop
  case assign =>
    intro l x W' K hK
    gi_wp2
    simpa using hK
  case body =>
    rintro l2 q2 x A ⟨u1, u2, u3, u4⟩ hS hsz
    have hle : q2.length + 1 ≤ m := by
      have := hS.length_le
      rw [List.length_append, List.length_singleton, HML.out] at this
      exact this
    obtain ⟨c, hc⟩ : ∃ c, c = q2.length := ⟨_, rfl⟩
    rw [← hc] at u1 u3 hle
    have HC := Lib.hid hc
    clear hc hg hS k0 q0 q0f
    have hcw : IntKind.i64.wrap ((c : Int) + 1) = (c : Int) + 1 := IntWalk.i64_in _ (by omega)
    by_cases hck : c = kk
    · subst hck
      gi_wp2
      exact ⟨Chg.refl _ _, rfl, u1, by omega, u4⟩
    · have hne : ¬ (c : Int) = (kk : Int) := by omega
      gi_wp2
      refine ⟨(Chg.refl (fun _ k => k = w3.heap.size + 1) A).setCell (Dyn.const _ 0) (p := ⟨w3.heap.size + 1, 0, none⟩) (Nat.zero_le _) (Nat.zero_le _) (fun _ => rfl) _, ?_, by rw [World.frozen?_setCell]; exact u2, ?_, ?_⟩
      · rw [List.length_append, List.length_singleton, ← HC.out]
        exact World.cell?_setCell_same' _ _ _ (by rw [u1]; rfl)
      · rw [List.length_append, List.length_singleton, ← HC.out]; omega
      · exact (World.cell?_of_block (a := ⟨w3.heap.size, 0, none⟩) (Below.heap_setCell A ⟨w3.heap.size + 1, 0, none⟩ _ w3.heap.size (by show w3.heap.size ≠ w3.heap.size + 1; omega))).trans u4
  case done =>
    rintro q2 A rfl ⟨u1, u2, u3, u4⟩ hcA hK _
    have hbA : Below w.heap.size w A := hbW.trans (hcA.below (by have := hw03.size; omega) (fun k hk e => by have := hw03.size; omega))
    have hmk : m ≤ kk := by rw [← HML.out]; exact u3
    have HLE : Hid (w.heap.size ≤ W.heap.size) := hbW.size
    have hmA : Below w2.heap.size w2 A := (hw3.trans (hbW3.mono hw3.size)).trans (hcA.below (by have := hw3.size; omega) (fun k hk e => by have := hw3.size; omega))
    have HS2 := Lib.hid (HSZ.out (n - 1) A pt m ct a HMA.out (HMT.out.below hmA))
    rw [HML.out] at u1
    clear hg k0 q0 q0f u2 HSZ hsW hbW3 hb3 hb4 hw1 hw2 hw3 hw03 hbW
    have hmin : min (kk : Int) (m : Int) = (m : Int) := by omega
    gi_wp2_with ((try refine ⟨depthless hd _, ?_⟩); gi_at_call 10; refine HS2.out.mono ?_; rintro e w5 ⟨rfl, hw5⟩)
    have hlt := (Array.getElem?_eq_some_iff.1 hK).1
    have hK5 := (hw5.block W.heap.size hlt).trans hK
    refine ⟨by simp, .inl ⟨_, _, rfl, run_takeDeferred hK5, ?_⟩⟩
    exact ⟨_, results_tmp rfl _ _ _, rfl, (hbA.trans (hw5.mono hbA.size)).trans ⟨rfl, rfl, rfl, by rw [World.putObj_size]; exact Nat.le_refl _, fun k hk => World.putObj_heap_other (by have := HLE.out; omega)⟩⟩
  case stop =>
    rintro c q2 A ⟨rfl, u1, u3, u4⟩ hcA hK
    have hbA : Below w.heap.size w A := hbW.trans (hcA.below (by have := hw03.size; omega) (fun k hk e => by have := hw03.size; omega))
    have HLE : Hid (w.heap.size ≤ W.heap.size) := hbW.size
    have hmA : Below w2.heap.size w2 A := (hw3.trans (hbW3.mono hw3.size)).trans (hcA.below (by have := hw3.size; omega) (fun k hk e => by have := hw3.size; omega))
    have HS2 := Lib.hid (HSZ.out (n - 1) A pt m ct a HMA.out (HMT.out.below hmA))
    clear hg k0 q0 q0f HSZ hsW hbW3 hb3 hb4 hw1 hw2 hw3 hw03 hbW
    have hmin : min (kk : Int) (m : Int) = (kk : Int) := by omega
    refine wpIn_exit ?_
    gi_wp2_with ((try refine ⟨depthless hd _, ?_⟩); gi_at_call 10; refine HS2.out.mono ?_; rintro e w5 ⟨rfl, hw5⟩)
    have hlt := (Array.getElem?_eq_some_iff.1 hK).1
    have hK5 := (hw5.block W.heap.size hlt).trans hK
    refine ⟨by simp, .inl ⟨_, _, rfl, run_takeDeferred hK5, ?_⟩⟩
    exact ⟨_, results_tmp rfl _ _ _, rfl, (hbA.trans (hw5.mono hbA.size)).trans ⟨rfl, rfl, rfl, by rw [World.putObj_size]; exact Nat.le_refl _, fun k hk => World.putObj_heap_other (by have := HLE.out; omega)⟩⟩
theorem walk (vs : Value) (s : List Int) (many : Int) (w : World) (hk : KRow vs s w) (hwf : ∀ x ∈ s, (Lit.int .i64 x).wf = true) (hsl : s.length ≤ maxLen) (hm : (Lit.int .i64 many).wf = true) :
    Calls Tryd.prog 3 #[vs, .int .i64 many] w fun e w' => e = .returned (.bool true) ∧ Below w.heap.size w w' :=
  (callsIn_wide (n := 3)).1 (stops_in Fence.wide rfl trivial fen_wide trivial trivial trivial trivial trivial 3 w vs s many hk hwf hsl hm)
end lawLwS
end Go.Proofs.YtkmmcphiijolkaaDoor
