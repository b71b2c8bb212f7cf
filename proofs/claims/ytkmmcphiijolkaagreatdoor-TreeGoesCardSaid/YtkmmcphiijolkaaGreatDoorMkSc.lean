/-
  The reference's maker of trees: a statement, at this program (in full, numbers 0, 1, 2, 3, 4, 5, 6, 7, 9, 10, 11, 12, 13).
-/
import Derived.Test.YtkmmcphiijolkaaGreatDoorZo
set_option linter.unusedVariables false
set_option linter.unusedSimpArgs false
namespace Go.Proofs.YtkmmcphiijolkaaGreatDoor
open Go.RowKit Go.Shelf
open Tr

set_option maxHeartbeats 40000000 in
set_option maxRecDepth 100000 in
theorem stmtA_of {base M : Nat} {vs : Value} {s : List Int} (hE1 : ExprC base M vs s 1) (hE2 : ExprC base M vs s 2) (hE3 : ExprC base M vs s 3) {d : Nat} (hB : StmtC base M vs s (SOk 0) d) (hd : d ≤ 4) (σ : St) (w : World) (f l c : Bool) (hS : MkS base M vs s σ w) (hP : σ.P.length ≤ 500000) (hlf : σ.P.length < 160)
    (hnext : Calls Tryz.prog 23 #[.pointer (some ⟨M, 0, none⟩), .int .i64 40] (w.alloc (.cells #[.bool f, .bool l, .bool c] 57)) fun e w' => ∃ (r : Nat) (σ' : St), e = .returned (.int .i64 (r : Int)) ∧ (r = 0 ∨ r = 1 ∨ r = 2 ∨ r = 3 ∨ r = 4 ∨ r = 5 ∨ r = 6 ∨ r = 7 ∨ r = 9 ∨ r = 10 ∨ r = 11 ∨ r = 12 ∨ r = 13) ∧ Hid (To base M vs s σ (w.alloc (.cells #[.bool f, .bool l, .bool c] 57)) σ' w' [])) :
    Calls Tryz.prog 24 #[.pointer (some ⟨M, 0, none⟩), .int .i64 ((d : Int) + 1), .agg #[.bool f, .bool l, .bool c]] w fun e w' => ∃ (a : Ast) (σ' : St), e = .returned (.int .i64 ((σ.P.length + a.size - 1 : Nat) : Int)) ∧ Hid (To base M vs s σ w σ' w' [a]) ∧ SOk 0 (d + 1) a ∧ Few σ.P.length a.size (d + 1) := by
  have HS := Lib.hid hS
  have HE1 := Lib.hid hE1
  have HE2 := Lib.hid hE2
  have HE3 := Lib.hid hE3
  have HB := Lib.hid hB
  have hml := hS.lt
  have hbw : base ≤ w.heap.size := by have := hS.hb; omega
  obtain ⟨p, hp⟩ := hid_ex σ.P.length
  rw [hp.out] at hP hlf ⊢
  have hd0 : ¬ (d : Int) + 1 ≤ 0 := by omega
  have hl0 : ¬ 160 - (p : Int) ≤ 0 := by omega
  clear hS hE1 hE2 hE3 hB
  go_enter Tryz.func24, Tryz.ntmps24
  go_upto_region 4 with (go_at_call 23; go_loud (refine hnext.mono ?_; clear hnext; rintro e w1 ⟨r, σ1, rfl, hr, H1'⟩; have H1 := Lib.hid (To.after HS.out ((Below.refl _ _).alloc (Nat.le_refl _) _) H1'.out); have HPx := Plc.one HS.out H1'.out; obtain ⟨HPa, HMa⟩ := HPx; have HP1 := Lib.hid HPa; have HMW := Lib.hid HMa; have HPy := HPa.cells; obtain ⟨c1a, c1b, c1c⟩ := HPy; clear HPa HMa; have c3 := H1.out.st.cell 3; simp only [List.getElem?_toArray, List.getElem?_cons_succ, List.getElem?_cons_zero] at c3; rw [H1.out.len, hp.out] at c3; simp only [sizes, Nat.add_zero] at c3))
  clear c3 hl0 hd0
  rcases hr with rfl | rfl | rfl | rfl | rfl | rfl | rfl | rfl | rfl | rfl | rfl | rfl | rfl
  · go_wp2_with (first
      | (go_at_call 25; have hl := lit_at H3.out #[.int .i64 ((p + sizes [] + t.size - 1 : Nat) : Int), .int .i64 ((p + sizes ([] ++ [t]) + a.size - 1 : Nat) : Int)] (by rw [hp.out]; simp [rootsA, sizes, Ast.size, Nat.add_assoc]) 2 rfl; refine (add_at H3.out _ ((Below.refl _ _).alloc (Nat.le_refl _) _) (43) 0 ⟨#[]⟩ _ hl.1 (fun _ => hl.2) (by rw [hp.out]; simp only [List.nil_append, List.cons_append, List.append_assoc, sizes, sizes_append, size_mk]; omega) (by simp)).mono ?_; rintro e w4 ⟨σ4, rfl, H4⟩; rw [hp.out])
      | (go_at_call 47; refine (expr_at (d := 3) HE3.out H2.out w2 (Below.refl _ _) (by rw [hp.out]; show _ + 256 ≤ _; simp only [List.nil_append, List.cons_append, List.append_assoc, sizes, sizes_append, size_mk]; omega)).mono ?_; rintro e w3 ⟨a, σ3, rfl, H3, HAa, haa, H3'⟩; rw [hp.out]; have haab : a.size < 256 := haa; clear haa)
      | (go_at_call 46; refine (targets_at H1.out w1 (Below.refl _ _) (by rw [hp.out]; simp only [List.nil_append, List.cons_append, List.append_assoc, sizes, sizes_append, size_mk]; omega)).mono ?_; rintro e w2 ⟨t, σ2, rfl, H2, HAt, hat, H2'⟩; rw [hp.out]))
    go_ret
    refine ⟨_, σ4, ?_, H4, SOk.assign _ _ _ HAt HAa, few_leaf (by rw [size_mk]; simp only [List.nil_append, List.cons_append, List.append_assoc, sizes, sizes_append, size_mk]; omega)⟩
    rw [size_mk]; rfl
  · go_wp2_with (first
      | (go_at_call 25; have hl := lit_at H3.out #[.int .i64 ((p + sizes [] + t.size - 1 : Nat) : Int), .int .i64 ((p + sizes ([] ++ [t]) + a.size - 1 : Nat) : Int)] (by rw [hp.out]; simp [rootsA, sizes, Ast.size, Nat.add_assoc]) 2 rfl; refine (add_at H3.out _ ((Below.refl _ _).alloc (Nat.le_refl _) _) (43) 0 ⟨#[]⟩ _ hl.1 (fun _ => hl.2) (by rw [hp.out]; simp only [List.nil_append, List.cons_append, List.append_assoc, sizes, sizes_append, size_mk]; omega) (by simp)).mono ?_; rintro e w4 ⟨σ4, rfl, H4⟩; rw [hp.out])
      | (go_at_call 47; refine (expr_at (d := 3) HE3.out H2.out w2 (Below.refl _ _) (by rw [hp.out]; show _ + 256 ≤ _; simp only [List.nil_append, List.cons_append, List.append_assoc, sizes, sizes_append, size_mk]; omega)).mono ?_; rintro e w3 ⟨a, σ3, rfl, H3, HAa, haa, H3'⟩; rw [hp.out]; have haab : a.size < 256 := haa; clear haa)
      | (go_at_call 46; refine (targets_at H1.out w1 (Below.refl _ _) (by rw [hp.out]; simp only [List.nil_append, List.cons_append, List.append_assoc, sizes, sizes_append, size_mk]; omega)).mono ?_; rintro e w2 ⟨t, σ2, rfl, H2, HAt, hat, H2'⟩; rw [hp.out]))
    go_ret
    refine ⟨_, σ4, ?_, H4, SOk.assign _ _ _ HAt HAa, few_leaf (by rw [size_mk]; simp only [List.nil_append, List.cons_append, List.append_assoc, sizes, sizes_append, size_mk]; omega)⟩
    rw [size_mk]; rfl
  · go_wp2_with (first
      | (go_at_call 25; have hl := lit_at H3.out #[.int .i64 ((p + sizes [] + t.size - 1 : Nat) : Int), .int .i64 ((p + sizes ([] ++ [t]) + a.size - 1 : Nat) : Int)] (by rw [hp.out]; simp [rootsA, sizes, Ast.size, Nat.add_assoc]) 2 rfl; refine (add_at H3.out _ ((Below.refl _ _).alloc (Nat.le_refl _) _) (43) 0 ⟨#[]⟩ _ hl.1 (fun _ => hl.2) (by rw [hp.out]; simp only [List.nil_append, List.cons_append, List.append_assoc, sizes, sizes_append, size_mk]; omega) (by simp)).mono ?_; rintro e w4 ⟨σ4, rfl, H4⟩; rw [hp.out])
      | (go_at_call 47; refine (expr_at (d := 3) HE3.out H2.out w2 (Below.refl _ _) (by rw [hp.out]; show _ + 256 ≤ _; simp only [List.nil_append, List.cons_append, List.append_assoc, sizes, sizes_append, size_mk]; omega)).mono ?_; rintro e w3 ⟨a, σ3, rfl, H3, HAa, haa, H3'⟩; rw [hp.out]; have haab : a.size < 256 := haa; clear haa)
      | (go_at_call 46; refine (targets_at H1.out w1 (Below.refl _ _) (by rw [hp.out]; simp only [List.nil_append, List.cons_append, List.append_assoc, sizes, sizes_append, size_mk]; omega)).mono ?_; rintro e w2 ⟨t, σ2, rfl, H2, HAt, hat, H2'⟩; rw [hp.out]))
    go_ret
    refine ⟨_, σ4, ?_, H4, SOk.assign _ _ _ HAt HAa, few_leaf (by rw [size_mk]; simp only [List.nil_append, List.cons_append, List.append_assoc, sizes, sizes_append, size_mk]; omega)⟩
    rw [size_mk]; rfl
  · go_wp2_with (first
      | (go_at_call 25; have hl := lit_at H3.out #[.int .i64 ((p + sizes [] + t.size - 1 : Nat) : Int), .int .i64 ((p + sizes ([] ++ [t]) + a.size - 1 : Nat) : Int)] (by rw [hp.out]; simp [rootsA, sizes, Ast.size, Nat.add_assoc]) 2 rfl; refine (add_at H3.out _ ((Below.refl _ _).alloc (Nat.le_refl _) _) (43) 0 ⟨#[]⟩ _ hl.1 (fun _ => hl.2) (by rw [hp.out]; simp only [List.nil_append, List.cons_append, List.append_assoc, sizes, sizes_append, size_mk]; omega) (by simp)).mono ?_; rintro e w4 ⟨σ4, rfl, H4⟩; rw [hp.out])
      | (go_at_call 47; refine (expr_at (d := 3) HE3.out H2.out w2 (Below.refl _ _) (by rw [hp.out]; show _ + 256 ≤ _; simp only [List.nil_append, List.cons_append, List.append_assoc, sizes, sizes_append, size_mk]; omega)).mono ?_; rintro e w3 ⟨a, σ3, rfl, H3, HAa, haa, H3'⟩; rw [hp.out]; have haab : a.size < 256 := haa; clear haa)
      | (go_at_call 46; refine (targets_at H1.out w1 (Below.refl _ _) (by rw [hp.out]; simp only [List.nil_append, List.cons_append, List.append_assoc, sizes, sizes_append, size_mk]; omega)).mono ?_; rintro e w2 ⟨t, σ2, rfl, H2, HAt, hat, H2'⟩; rw [hp.out]))
    go_ret
    refine ⟨_, σ4, ?_, H4, SOk.assign _ _ _ HAt HAa, few_leaf (by rw [size_mk]; simp only [List.nil_append, List.cons_append, List.append_assoc, sizes, sizes_append, size_mk]; omega)⟩
    rw [size_mk]; rfl
  · go_wp2_with (first
      | (go_at_call 25; have hl := lit_at H3.out #[.int .i64 ((p + sizes [] + t.size - 1 : Nat) : Int), .int .i64 ((p + sizes ([] ++ [t]) + a.size - 1 : Nat) : Int)] (by rw [hp.out]; simp [rootsA, sizes, Ast.size, Nat.add_assoc]) 2 rfl; refine (add_at H3.out _ ((Below.refl _ _).alloc (Nat.le_refl _) _) (43) 0 ⟨#[]⟩ _ hl.1 (fun _ => hl.2) (by rw [hp.out]; simp only [List.nil_append, List.cons_append, List.append_assoc, sizes, sizes_append, size_mk]; omega) (by simp)).mono ?_; rintro e w4 ⟨σ4, rfl, H4⟩; rw [hp.out])
      | (go_at_call 47; refine (expr_at (d := 3) HE3.out H2.out w2 (Below.refl _ _) (by rw [hp.out]; show _ + 256 ≤ _; simp only [List.nil_append, List.cons_append, List.append_assoc, sizes, sizes_append, size_mk]; omega)).mono ?_; rintro e w3 ⟨a, σ3, rfl, H3, HAa, haa, H3'⟩; rw [hp.out]; have haab : a.size < 256 := haa; clear haa)
      | (go_at_call 46; refine (targets_at H1.out w1 (Below.refl _ _) (by rw [hp.out]; simp only [List.nil_append, List.cons_append, List.append_assoc, sizes, sizes_append, size_mk]; omega)).mono ?_; rintro e w2 ⟨t, σ2, rfl, H2, HAt, hat, H2'⟩; rw [hp.out]))
    go_ret
    refine ⟨_, σ4, ?_, H4, SOk.assign _ _ _ HAt HAa, few_leaf (by rw [size_mk]; simp only [List.nil_append, List.cons_append, List.append_assoc, sizes, sizes_append, size_mk]; omega)⟩
    rw [size_mk]; rfl
  · go_wp2_with (first
      | (go_at_call 25; have hl := lit_at H4.out #[.int .i64 ((p : Int) + ((sizes ([] ++ [Ast.mk 6 (⟨#[112, 114, 105, 110, 116]⟩ : ByteArray).data.toList 0 []] ++ [a]) : Nat) : Int))] (by rw [hp.out]; simp [rootsA, sizes, Ast.size, Nat.add_assoc]; omega) 1 rfl; refine (add_at H4.out _ ((Below.refl _ _).alloc (Nat.le_refl _) _) (42) 0 ⟨#[]⟩ _ hl.1 (fun _ => hl.2) (by rw [hp.out]; simp only [List.nil_append, List.cons_append, List.append_assoc, sizes, sizes_append, size_mk]; omega) (by simp)).mono ?_; rintro e w5 ⟨σ5, rfl, H5⟩; rw [hp.out])
      | (go_at_call 25; have hl := lit_at H3.out #[.int .i64 ((p : Int) + ((sizes [] : Nat) : Int)), .int .i64 ((p + sizes ([] ++ [Ast.mk 6 (⟨#[112, 114, 105, 110, 116]⟩ : ByteArray).data.toList 0 []]) + a.size - 1 : Nat) : Int)] (by rw [hp.out]; simp [rootsA, sizes, Ast.size, Nat.add_assoc]) 2 rfl; refine (add_at H3.out _ ((Below.refl _ _).alloc (Nat.le_refl _) _) (17) 0 ⟨#[]⟩ _ hl.1 (fun _ => hl.2) (by rw [hp.out]; simp only [List.nil_append, List.cons_append, List.append_assoc, sizes, sizes_append, size_mk]; omega) (by simp)).mono ?_; rintro e w4 ⟨σ4, rfl, H4⟩; rw [hp.out])
      | (go_at_call 47; refine (expr_at (d := 2) HE2.out H2.out w2 (Below.refl _ _) (by rw [hp.out]; show _ + 64 ≤ _; simp only [List.nil_append, List.cons_append, List.append_assoc, sizes, sizes_append, size_mk]; omega)).mono ?_; rintro e w3 ⟨a, σ3, rfl, H3, HAa, haa, H3'⟩; rw [hp.out]; have haab : a.size < 64 := haa; clear haa)
      | (go_at_call 25; refine (leaf_at H1.out w1 (Below.refl _ _) (6) 0 ⟨#[112, 114, 105, 110, 116]⟩ (by rw [hp.out]; simp only [List.nil_append, List.cons_append, List.append_assoc, sizes, sizes_append, size_mk]; omega)).mono ?_; rintro e w2 ⟨σ2, rfl, H2, H2'⟩; rw [hp.out]))
    go_ret
    refine ⟨_, σ5, ?_, H5, SOk.expr _ _ (EOk.call _ _ (by simp) (by
        intro y hy
        simp only [List.nil_append, List.cons_append, List.mem_cons, List.not_mem_nil, or_false] at hy
        rcases hy with rfl | rfl
        · exact EOk.name _ _ (Or.inr (by decide))
        · exact HAa)), few_leaf (by rw [size_mk]; simp only [List.nil_append, List.cons_append, List.append_assoc, sizes, sizes_append, size_mk]; omega)⟩
    rw [size_mk]; rfl
  · go_wp2_with (first
      | (go_at_call 25; have hl := lit_at H4.out #[.int .i64 ((p : Int) + ((sizes ([] ++ [Ast.mk 6 (⟨#[112, 114, 105, 110, 116]⟩ : ByteArray).data.toList 0 []] ++ [a]) : Nat) : Int))] (by rw [hp.out]; simp [rootsA, sizes, Ast.size, Nat.add_assoc]; omega) 1 rfl; refine (add_at H4.out _ ((Below.refl _ _).alloc (Nat.le_refl _) _) (42) 0 ⟨#[]⟩ _ hl.1 (fun _ => hl.2) (by rw [hp.out]; simp only [List.nil_append, List.cons_append, List.append_assoc, sizes, sizes_append, size_mk]; omega) (by simp)).mono ?_; rintro e w5 ⟨σ5, rfl, H5⟩; rw [hp.out])
      | (go_at_call 25; have hl := lit_at H3.out #[.int .i64 ((p : Int) + ((sizes [] : Nat) : Int)), .int .i64 ((p + sizes ([] ++ [Ast.mk 6 (⟨#[112, 114, 105, 110, 116]⟩ : ByteArray).data.toList 0 []]) + a.size - 1 : Nat) : Int)] (by rw [hp.out]; simp [rootsA, sizes, Ast.size, Nat.add_assoc]) 2 rfl; refine (add_at H3.out _ ((Below.refl _ _).alloc (Nat.le_refl _) _) (17) 0 ⟨#[]⟩ _ hl.1 (fun _ => hl.2) (by rw [hp.out]; simp only [List.nil_append, List.cons_append, List.append_assoc, sizes, sizes_append, size_mk]; omega) (by simp)).mono ?_; rintro e w4 ⟨σ4, rfl, H4⟩; rw [hp.out])
      | (go_at_call 47; refine (expr_at (d := 2) HE2.out H2.out w2 (Below.refl _ _) (by rw [hp.out]; show _ + 64 ≤ _; simp only [List.nil_append, List.cons_append, List.append_assoc, sizes, sizes_append, size_mk]; omega)).mono ?_; rintro e w3 ⟨a, σ3, rfl, H3, HAa, haa, H3'⟩; rw [hp.out]; have haab : a.size < 64 := haa; clear haa)
      | (go_at_call 25; refine (leaf_at H1.out w1 (Below.refl _ _) (6) 0 ⟨#[112, 114, 105, 110, 116]⟩ (by rw [hp.out]; simp only [List.nil_append, List.cons_append, List.append_assoc, sizes, sizes_append, size_mk]; omega)).mono ?_; rintro e w2 ⟨σ2, rfl, H2, H2'⟩; rw [hp.out]))
    go_ret
    refine ⟨_, σ5, ?_, H5, SOk.expr _ _ (EOk.call _ _ (by simp) (by
        intro y hy
        simp only [List.nil_append, List.cons_append, List.mem_cons, List.not_mem_nil, or_false] at hy
        rcases hy with rfl | rfl
        · exact EOk.name _ _ (Or.inr (by decide))
        · exact HAa)), few_leaf (by rw [size_mk]; simp only [List.nil_append, List.cons_append, List.append_assoc, sizes, sizes_append, size_mk]; omega)⟩
    rw [size_mk]; rfl
  · go_wp2_with (first
      | (go_at_call 25; have hl := lit_at H2.out #[.int .i64 ((p + sizes [] + a.size - 1 : Nat) : Int)] (by rw [hp.out]; simp [rootsA, sizes, Ast.size, Nat.add_assoc]) 1 rfl; refine (add_at H2.out _ ((Below.refl _ _).alloc (Nat.le_refl _) _) (42) 0 ⟨#[]⟩ _ hl.1 (fun _ => hl.2) (by rw [hp.out]; simp only [List.nil_append, List.cons_append, List.append_assoc, sizes, sizes_append, size_mk]; omega) (by simp)).mono ?_; rintro e w3 ⟨σ3, rfl, H3⟩; rw [hp.out])
      | (go_at_call 47; refine (expr_at (d := 3) HE3.out H1.out w1 (Below.refl _ _) (by rw [hp.out]; show _ + 256 ≤ _; simp only [List.nil_append, List.cons_append, List.append_assoc, sizes, sizes_append, size_mk]; omega)).mono ?_; rintro e w2 ⟨a, σ2, rfl, H2, HAa, haa, H2'⟩; rw [hp.out]; have haab : a.size < 256 := haa; clear haa))
    go_ret
    refine ⟨_, σ3, ?_, H3, SOk.expr _ _ HAa, few_leaf (by rw [size_mk]; simp only [List.nil_append, List.cons_append, List.append_assoc, sizes, sizes_append, size_mk]; omega)⟩
    rw [size_mk]; rfl
  · go_wp2_with (first
      | (go_at_call 25; refine (leaf_at H1.out w1 (Below.refl _ _) (50) 0 ⟨#[]⟩ (by rw [hp.out]; simp only [List.nil_append, List.cons_append, List.append_assoc, sizes, sizes_append, size_mk]; omega)).mono ?_; rintro e w2 ⟨σ2, rfl, H2, H2'⟩; rw [hp.out]))
    go_ret
    refine ⟨.mk 50 [] 0 [], σ2, ?_, H2, SOk.lone _ _ (by omega), few_leaf (by rw [size_mk]; simp only [List.nil_append, List.cons_append, List.append_assoc, sizes, sizes_append, size_mk]; omega)⟩
    rw [size_mk]; rfl
  · go_wp2_with (first
      | (go_at_call 25; have hl := lit_at H2.out #[.int .i64 ((p + sizes [] + t.size - 1 : Nat) : Int)] (by rw [hp.out]; simp [rootsA, sizes, Ast.size, Nat.add_assoc]) 1 rfl; refine (add_at H2.out _ ((Below.refl _ _).alloc (Nat.le_refl _) _) (60) 0 ⟨#[]⟩ _ hl.1 (fun _ => hl.2) (by rw [hp.out]; simp only [List.nil_append, List.cons_append, List.append_assoc, sizes, sizes_append, size_mk]; omega) (by simp)).mono ?_; rintro e w3 ⟨σ3, rfl, H3⟩; rw [hp.out])
      | (go_at_call 48; refine (target_at H1.out w1 (Below.refl _ _) (by rw [hp.out]; simp only [List.nil_append, List.cons_append, List.append_assoc, sizes, sizes_append, size_mk]; omega)).mono ?_; rintro e w2 ⟨t, σ2, rfl, H2, HAt, hat, H2'⟩; rw [hp.out]))
    go_ret
    refine ⟨_, σ3, ?_, H3, SOk.del _ _ HAt, few_leaf (by rw [size_mk]; simp only [List.nil_append, List.cons_append, List.append_assoc, sizes, sizes_append, size_mk]; omega)⟩
    rw [size_mk]; rfl
  · go_wp2_with (first
      | (go_at_call 25; have hl := lit_at H2.out #[.int .i64 ((p + sizes [] + a.size - 1 : Nat) : Int)] (by rw [hp.out]; simp [rootsA, sizes, Ast.size, Nat.add_assoc]) 1 rfl; refine (add_at H2.out _ ((Below.refl _ _).alloc (Nat.le_refl _) _) (61) 0 ⟨#[]⟩ _ hl.1 (fun _ => hl.2) (by rw [hp.out]; simp only [List.nil_append, List.cons_append, List.append_assoc, sizes, sizes_append, size_mk]; omega) (by simp)).mono ?_; rintro e w3 ⟨σ3, rfl, H3⟩; rw [hp.out])
      | (go_at_call 47; refine (expr_at (d := 2) HE2.out H1.out w1 (Below.refl _ _) (by rw [hp.out]; show _ + 64 ≤ _; simp only [List.nil_append, List.cons_append, List.append_assoc, sizes, sizes_append, size_mk]; omega)).mono ?_; rintro e w2 ⟨a, σ2, rfl, H2, HAa, haa, H2'⟩; rw [hp.out]; have haab : a.size < 64 := haa; clear haa))
    go_ret
    refine ⟨_, σ3, ?_, H3, SOk.one _ _ _ (by omega) (HAa.le (by omega)), few_leaf (by rw [size_mk]; simp only [List.nil_append, List.cons_append, List.append_assoc, sizes, sizes_append, size_mk]; omega)⟩
    rw [size_mk]; rfl
  · go_wp2_with (first
      | (go_at_call 25; have hl := lit_at H4.out #[.int .i64 ((p : Int) + ((sizes [] : Nat) : Int))] (by rw [hp.out]; simp [rootsA, sizes, Ast.size, Nat.add_assoc]) 1 rfl; refine (add_at H4.out _ ((Below.refl _ _).alloc (Nat.le_refl _) _) (54) 0 ⟨#[]⟩ _ hl.1 (fun _ => hl.2) (by rw [hp.out]; simp only [List.nil_append, List.cons_append, List.append_assoc, sizes, sizes_append, size_mk]; omega) (by simp)).mono ?_; rintro e w5 ⟨σ5, rfl, H5⟩; rw [hp.out])
      | (go_at_call 25; refine (leaf_at H3.out w3 (Below.refl _ _) (6) 0 ⟨x.toArray⟩ (by rw [hp.out]; simp only [List.nil_append, List.cons_append, List.append_assoc, sizes, sizes_append, size_mk]; omega)).mono ?_; rintro e w4 ⟨σ4, rfl, H4, H4'⟩; rw [hp.out])
      | (go_at_call 23; refine (next_at H2.out _ ((Below.refl _ _).alloc (Nat.le_refl _) _) 5 (by omega) (by omega)).mono ?_; rintro e w3 ⟨r3, σ3, rfl, hr3, H3, H3'⟩; have hpk := pick_text H2.out.st H3'.out ra5 rfl r3 (by show r3 < 5; omega); obtain ⟨x, hx, hcx⟩ := hpk; have HXx := Lib.hid hx; clear hx)
      | (go_at_call 25; refine (leaf_at H2.out w2 (Below.refl _ _) (54) 0 ⟨#[]⟩ (by rw [hp.out]; simp only [List.nil_append, List.cons_append, List.append_assoc, sizes, sizes_append, size_mk]; omega)).mono ?_; rintro e w3 ⟨σ3, rfl, H3, H3'⟩; rw [hp.out])
      | (go_at_call 23; refine (next_at H1.out w1 (Below.refl _ _) 4 (by omega) (by omega)).mono ?_; rintro e w2 ⟨r2, σ2, rfl, hr2, H2, H2'⟩))
    · go_ret
      refine ⟨.mk 54 [] 0 [], σ3, ?_, H3, SOk.lone _ _ (by omega), few_leaf (by rw [size_mk]; simp only [List.nil_append, List.cons_append, List.append_assoc, sizes, sizes_append, size_mk]; omega)⟩
      rw [size_mk]; rfl
    · go_ret
      refine ⟨.mk 54 [] 0 [.mk 6 x 0 []], σ5, ?_, (by have := H5; simpa using this), SOk.one _ _ _ (by omega) (EOk.name _ _ (ra5_ok x HXx.out)), few_leaf (by rw [size_mk]; simp only [List.nil_append, List.cons_append, List.append_assoc, sizes, sizes_append, size_mk]; omega)⟩
      rw [size_mk]; simp [sizes, size_mk]
  · cases l with
    | true =>
      go_wp2_with (first
        | (go_at_call 25; refine (leaf_at H2.out w2 (Below.refl _ _) (x) 0 ⟨#[]⟩ (by rw [hp.out]; simp only [List.nil_append, List.cons_append, List.append_assoc, sizes, sizes_append, size_mk]; omega)).mono ?_; rintro e w3 ⟨σ3, rfl, H3, H3'⟩; rw [hp.out])
        | (go_at_call 23; refine (next_at H1.out _ ((Below.refl _ _).alloc (Nat.le_refl _) _) 2 (by omega) (by omega)).mono ?_; rintro e w2 ⟨r2, σ2, rfl, hr2, H2, H2'⟩; have hpk := pick_int H1.out.st H2'.out bc2 rfl r2 (by show r2 < 2; omega); obtain ⟨x, hx, hcx⟩ := hpk; have HXx := Lib.hid hx; clear hx))
      go_ret
      refine ⟨.mk x [] 0 [], σ3, ?_, H3, SOk.lone _ _ (by have := HXx.out; simp [bc2] at this; omega), few_leaf (by rw [size_mk]; simp only [List.nil_append, List.cons_append, List.append_assoc, sizes, sizes_append, size_mk]; omega)⟩
      rw [size_mk]; rfl
    | false =>
      cases f with
      | true =>
        go_wp2_with (first
          | (go_at_call 25; have hl := lit_at H2.out #[.int .i64 ((p + sizes [] + a.size - 1 : Nat) : Int)] (by rw [hp.out]; simp [rootsA, sizes, Ast.size, Nat.add_assoc]) 1 rfl; refine (add_at H2.out _ ((Below.refl _ _).alloc (Nat.le_refl _) _) (53) 0 ⟨#[]⟩ _ hl.1 (fun _ => hl.2) (by rw [hp.out]; simp only [List.nil_append, List.cons_append, List.append_assoc, sizes, sizes_append, size_mk]; omega) (by simp)).mono ?_; rintro e w3 ⟨σ3, rfl, H3⟩; rw [hp.out])
          | (go_at_call 47; refine (expr_at (d := 2) HE2.out H1.out w1 (Below.refl _ _) (by rw [hp.out]; show _ + 64 ≤ _; simp only [List.nil_append, List.cons_append, List.append_assoc, sizes, sizes_append, size_mk]; omega)).mono ?_; rintro e w2 ⟨a, σ2, rfl, H2, HAa, haa, H2'⟩; rw [hp.out]; have haab : a.size < 64 := haa; clear haa))
        go_ret
        refine ⟨_, σ3, ?_, H3, SOk.one _ _ _ (by omega) (HAa.le (by omega)), few_leaf (by rw [size_mk]; simp only [List.nil_append, List.cons_append, List.append_assoc, sizes, sizes_append, size_mk]; omega)⟩
        rw [size_mk]; rfl
      | false =>
        go_wp2_with (first
          | (go_at_call 25; refine (leaf_at H1.out w1 (Below.refl _ _) (50) 0 ⟨#[]⟩ (by rw [hp.out]; simp only [List.nil_append, List.cons_append, List.append_assoc, sizes, sizes_append, size_mk]; omega)).mono ?_; rintro e w2 ⟨σ2, rfl, H2, H2'⟩; rw [hp.out]))
        go_ret
        refine ⟨.mk 50 [] 0 [], σ2, ?_, H2, SOk.lone _ _ (by omega), few_leaf (by rw [size_mk]; simp only [List.nil_append, List.cons_append, List.append_assoc, sizes, sizes_append, size_mk]; omega)⟩
        rw [size_mk]; rfl
end Go.Proofs.YtkmmcphiijolkaaGreatDoor
