/-
  The reference's maker of trees: a statement, at this program (in full, number 8).
-/
import Derived.Test.YtkmmcphiijolkaaGreatDoorZq
set_option linter.unusedVariables false
set_option linter.unusedSimpArgs false
namespace Go.Proofs.YtkmmcphiijolkaaGreatDoor
open Go.RowKit Go.Shelf
open Tr
attribute [local go_sem ↓] Go.wp_at_zero Go.wp_at_succ

set_option maxHeartbeats 40000000 in
set_option maxRecDepth 100000 in
theorem stmtF8_of {base M : Nat} {vs : Value} {s : List Int} (hE1 : ExprC base M vs s 1) (hE2 : ExprC base M vs s 2) (hE3 : ExprC base M vs s 3) {d : Nat} (hB : StmtC base M vs s (SOk 0) d) (hd : d ≤ 4) (σ : St) (w : World) (f l c : Bool) (hS : MkS base M vs s σ w) (hP : σ.P.length ≤ 500000) (hlf : σ.P.length < 160)
    (hnext : Calls Tryz.prog 23 #[.pointer (some ⟨M, 0, none⟩), .int .i64 40] (w.alloc (.cells #[.bool f, .bool l, .bool c] 57)) fun e w' => ∃ (r : Nat) (σ' : St), e = .returned (.int .i64 (r : Int)) ∧ (r = 8) ∧ Hid (To base M vs s σ (w.alloc (.cells #[.bool f, .bool l, .bool c] 57)) σ' w' [])) :
    Calls Tryz.prog 24 #[.pointer (some ⟨M, 0, none⟩), .int .i64 ((d : Int) + 1), .agg #[.bool f, .bool l, .bool c]] w fun e w' => ∃ (a : Ast) (σ' : St), e = .returned (.int .i64 ((σ.P.length + a.size - 1 : Nat) : Int)) ∧ Hid (To base M vs s σ w σ' w' [a]) ∧ SOk 0 (d + 1) a ∧ Few σ.P.length a.size (d + 1) := by
  have HS := Lib.hid hS
  have HE1 := Lib.hid hE1
  have HE2 := Lib.hid hE2
  have HE3 := Lib.hid hE3
  have HB := Lib.hid hB
  have hml := hS.lt
  have hbw : base ≤ w.heap.size := by have := hS.hb; omega
  obtain ⟨p, hp⟩ := hid_ex σ.P.length
  rw [hp.out] at hP hlf ⊢
  have hd0 : ¬ (d : Int) + 1 ≤ 0 := by omega
  have hl0 : ¬ 160 - (p : Int) ≤ 0 := by omega
  clear hS hE1 hE2 hE3 hB
  go_enter Tryz.func24, Tryz.ntmps24
  go_upto_region 4 with (go_at_call 23; go_loud (refine hnext.mono ?_; clear hnext; rintro e w1 ⟨r, σ1, rfl, hr, H1'⟩; have H1 := Lib.hid (To.after HS.out ((Below.refl _ _).alloc (Nat.le_refl _) _) H1'.out); have HPx := Plc.one HS.out H1'.out; obtain ⟨HPa, HMa⟩ := HPx; have HP1 := Lib.hid HPa; have HMW := Lib.hid HMa; have HPy := HPa.cells; obtain ⟨c1a, c1b, c1c⟩ := HPy; clear HPa HMa; have c3 := H1.out.st.cell 3; simp only [List.getElem?_toArray, List.getElem?_cons_succ, List.getElem?_cons_zero] at c3; rw [H1.out.len, hp.out] at c3; simp only [sizes, Nat.add_zero] at c3))
  clear c3 hl0 hd0
  obtain rfl := hr
  all_goals go_upto_region 20 with (go_at_call 48; go_loud (refine (target_at H1.out w1 (Below.refl _ _) (by rw [hp.out]; (try simp only [List.nil_append, List.cons_append, List.append_assoc, sizes, sizes_append, size_mk]); omega)).mono ?_; rintro e w2 ⟨t, σ2, rfl, H2, HAt, hat, H2'⟩; rw [hp.out]))
  all_goals go_region_law (first
    | (go_simp; go_at_call 25; go_loud (first | (with_reducible (show Calls _ _ #[_, _, _, _, Value.slice (some ⟨w4.heap.size, 0, none⟩) 2 2] (w4.alloc _) _); have hl := lit_at H4.out #[.int .i64 ((p + sizes [] + t.size - 1 : Nat) : Int), .int .i64 ((p + sizes [t] + a.size - 1 : Nat) : Int)] (by rw [hp.out]; simp [rootsA, sizes, Nat.add_assoc]) 2 rfl; refine (add_at H4.out _ (by first | exact (Below.refl _ _).alloc (Nat.le_refl _) _ | exact ((Below.refl _ _).alloc (Nat.le_refl _) _).drew) 44 0 ⟨x.toArray⟩ _ hl.1 (fun _ => hl.2) (by rw [hp.out]; simp only [List.nil_append, List.cons_append, sizes, size_mk]; omega) (by simp)).mono ?_; rintro e w5 ⟨σ5, rfl, H5⟩; rw [hp.out]) | (with_reducible (show Calls _ _ #[_, _, _, _, Value.slice (some ⟨w4.heap.size, 0, none⟩) 2 2] ((w4.alloc _).alloc _) _); have hl := lit_at H4.out #[.int .i64 ((p + sizes [] + t.size - 1 : Nat) : Int), .int .i64 ((p + sizes [t] + a.size - 1 : Nat) : Int)] (by rw [hp.out]; simp [rootsA, sizes, Nat.add_assoc]) 2 rfl; refine (add_at H4.out _ (by first | exact ((Below.refl _ _).alloc (Nat.le_refl _) _).alloc (by simp) _ | exact (((Below.refl _ _).alloc (Nat.le_refl _) _).alloc (by simp) _).drew) 44 0 ⟨x.toArray⟩ _ (hl.1.below ((Below.refl _ _).alloc (Nat.le_refl _) _)) (fun _ => hl.2) (by rw [hp.out]; simp only [List.nil_append, List.cons_append, sizes, size_mk]; omega) (by simp)).mono ?_; rintro e w5 ⟨σ5, rfl, H5⟩; rw [hp.out]) | (with_reducible (show Calls _ _ #[_, _, _, _, Value.slice (some ⟨w4.heap.size + 1, 0, none⟩) 2 2] ((w4.alloc _).alloc _) _); have hl := lit_at H4L.out #[.int .i64 ((p + sizes [] + t.size - 1 : Nat) : Int), .int .i64 ((p + sizes [t] + a.size - 1 : Nat) : Int)] (by rw [hp.out]; simp [rootsA, sizes, Nat.add_assoc]) 2 rfl; rw [show (w4.alloc (.cells #[Value.string ⟨#[43]⟩, Value.string ⟨#[45]⟩, Value.string ⟨#[42]⟩] 9)).heap.size = w4.heap.size + 1 by simp] at hl; refine (add_at H4L.out _ (by first | exact (Below.refl _ _).alloc (Nat.le_refl _) _ | exact ((Below.refl _ _).alloc (Nat.le_refl _) _).drew) 44 0 ⟨x.toArray⟩ _ hl.1 (fun _ => hl.2) (by rw [hp.out]; simp only [List.nil_append, List.cons_append, sizes, size_mk]; omega) (by simp)).mono ?_; rintro e w5 ⟨σ5, rfl, H5⟩; rw [hp.out])))
    | (go_simp; go_at_call 47; go_loud (refine (expr_at (d := 2) HE2.out H3.out _ (by first | exact Below.refl _ _ | exact (Below.refl _ _).drew | exact (Below.refl _ _).alloc (Nat.le_refl _) _ | exact ((Below.refl _ _).alloc (Nat.le_refl _) _).drew) (by rw [hp.out]; show _ + 64 ≤ _; simp only [List.nil_append, List.cons_append, sizes, size_mk]; omega)).mono ?_; rintro e w4 ⟨a, σ4, rfl, H4, HA3, ha2, H4'⟩; rw [hp.out]; have ha64 : a.size < 64 := ha2; clear ha2; have H4L := Lib.hid (H4.out.below ((Below.refl _ _).alloc (Nat.le_refl _) (.cells #[Value.string ⟨#[43]⟩, Value.string ⟨#[45]⟩, Value.string ⟨#[42]⟩] 9))); have hq1 := lit3s_new w4 r3 (by omega); rw [hx.out] at hq1; have hq2 := alloc_far hq1 (by simp); have hq3 := (fun o => lit3s_new2 w4 o r3 (by omega)); simp only [hx.out] at hq3; first | (have hf4 := H4'.out.far HF.out.2.2 HF.out.2.1 HF.out.1; have hc4 := (World.cell?_of_block (a := ⟨w2.heap.size, r3, none⟩) hf4.1).trans hc; have hc4' := alloc_far hc4 (Nat.lt_of_lt_of_le HF.out.2.2 H4'.out.but.size); clear hf4) | (have hf4 := lit3s_far H3.out.st H4'.out (heap_alloc_new w3 _) r3 (by omega); rw [hx.out] at hf4; have hc4 := hf4.1; have hc4' := alloc_far hc4 hf4.2.2.2; clear hf4) | skip))
    | (go_simp; go_at_call 23; go_loud (refine (next_at H2.out _ (by first | exact Below.refl _ _ | exact (Below.refl _ _).drew | exact (Below.refl _ _).alloc (Nat.le_refl _) _ | exact ((Below.refl _ _).alloc (Nat.le_refl _) _).drew) 3 (by omega) (by omega)).mono ?_; rintro e w3 ⟨r3, σ3, rfl, hr3, H3, H3'⟩; obtain ⟨x, hx⟩ := hid_ex (ar3.getD r3 []); have hq0 := (fun W => lit3s_new W r3 (by omega)); simp only [hx.out] at hq0; first | (have hf3 := lit3s_far H2.out.st H3'.out (heap_alloc_new w2 _) r3 (by omega); rw [hx.out] at hf3; have hc := hf3.1; have HF := Lib.hid hf3.2; clear hf3) | skip)))
  all_goals go_wp2_with fail
  all_goals go_ret
  all_goals first
    | (refine ⟨.mk 44 x 0 [t, a], σ5, ?_, (by have := H5; simpa using this), SOk.aug _ _ _ _ (by rw [← hx.out]; exact ar3_ok _ (ar3_getD r3 (by omega))) HAt (HA3.le (by omega)), few_leaf (by rw [size_mk]; simp only [sizes]; omega)⟩; rw [size_mk]; simp [sizes, Nat.add_assoc]; omega)
    | (refine ⟨.mk 44 x 0 [t, a], ?_, ⟨σ5, (by have := H5; simpa using this)⟩, SOk.aug _ _ _ _ (by rw [← hx.out]; exact ar3_ok _ (ar3_getD r3 (by omega))) HAt (HA3.le (by omega)), few_leaf (by rw [size_mk]; simp only [sizes]; omega)⟩; rw [size_mk]; simp [sizes, Nat.add_assoc]; omega)
end Go.Proofs.YtkmmcphiijolkaaGreatDoor
