/-
  The reference's maker of trees: a statement, at this program (in full, numbers 33, 34, 35, 36, 37, 38, 39).
-/
import Derived.Test.YtkmmcphiijolkaaGreatDoorZo
set_option linter.unusedVariables false
set_option linter.unusedSimpArgs false
namespace Go.Proofs.YtkmmcphiijolkaaGreatDoor
open Go.RowKit Go.Shelf
open Tr

set_option maxHeartbeats 40000000 in
set_option maxRecDepth 100000 in
theorem stmtD_of {base M : Nat} {vs : Value} {s : List Int} (hE1 : ExprC base M vs s 1) (hE2 : ExprC base M vs s 2) (hE3 : ExprC base M vs s 3) {d : Nat} (hB : StmtC base M vs s (SOk 0) d) (hd : d ≤ 4) (σ : St) (w : World) (f l c : Bool) (hS : MkS base M vs s σ w) (hP : σ.P.length ≤ 500000) (hlf : σ.P.length < 160)
    (hnext : Calls Tryz.prog 23 #[.pointer (some ⟨M, 0, none⟩), .int .i64 40] (w.alloc (.cells #[.bool f, .bool l, .bool c] 57)) fun e w' => ∃ (r : Nat) (σ' : St), e = .returned (.int .i64 (r : Int)) ∧ (r = 33 ∨ r = 34 ∨ r = 35 ∨ r = 36 ∨ r = 37 ∨ r = 38 ∨ r = 39) ∧ Hid (To base M vs s σ (w.alloc (.cells #[.bool f, .bool l, .bool c] 57)) σ' w' [])) :
    Calls Tryz.prog 24 #[.pointer (some ⟨M, 0, none⟩), .int .i64 ((d : Int) + 1), .agg #[.bool f, .bool l, .bool c]] w fun e w' => ∃ (a : Ast) (σ' : St), e = .returned (.int .i64 ((σ.P.length + a.size - 1 : Nat) : Int)) ∧ Hid (To base M vs s σ w σ' w' [a]) ∧ SOk 0 (d + 1) a ∧ Few σ.P.length a.size (d + 1) := by
  have HS := Lib.hid hS
  have HE1 := Lib.hid hE1
  have HE2 := Lib.hid hE2
  have HE3 := Lib.hid hE3
  have HB := Lib.hid hB
  have hml := hS.lt
  have hbw : base ≤ w.heap.size := by have := hS.hb; omega
  obtain ⟨p, hp⟩ := hid_ex σ.P.length
  rw [hp.out] at hP hlf ⊢
  have hd0 : ¬ (d : Int) + 1 ≤ 0 := by omega
  have hl0 : ¬ 160 - (p : Int) ≤ 0 := by omega
  clear hS hE1 hE2 hE3 hB
  go_enter Tryz.func24, Tryz.ntmps24
  go_upto_region 4 with (go_at_call 23; go_loud (refine hnext.mono ?_; clear hnext; rintro e w1 ⟨r, σ1, rfl, hr, H1'⟩; have H1 := Lib.hid (To.after HS.out ((Below.refl _ _).alloc (Nat.le_refl _) _) H1'.out); have HPx := Plc.one HS.out H1'.out; obtain ⟨HPa, HMa⟩ := HPx; have HP1 := Lib.hid HPa; have HMW := Lib.hid HMa; have HPy := HPa.cells; obtain ⟨c1a, c1b, c1c⟩ := HPy; clear HPa HMa; have c3 := H1.out.st.cell 3; simp only [List.getElem?_toArray, List.getElem?_cons_succ, List.getElem?_cons_zero] at c3; rw [H1.out.len, hp.out] at c3; simp only [sizes, Nat.add_zero] at c3))
  clear c3 hl0 hd0
  rcases hr with rfl | rfl | rfl | rfl | rfl | rfl | rfl
  · cases f with
    | true =>
      go_wp2_with (first
        | (go_at_call 25; have hl := lit_at H2.out #[.int .i64 ((p + sizes [] + a.size - 1 : Nat) : Int)] (by rw [hp.out]; simp [rootsA, sizes, Ast.size, Nat.add_assoc]) 1 rfl; refine (add_at H2.out _ ((Below.refl _ _).alloc (Nat.le_refl _) _) (62) 0 ⟨#[]⟩ _ hl.1 (fun _ => hl.2) (by rw [hp.out]; (try simp only [List.nil_append, List.cons_append, List.append_assoc, sizes, sizes_append, size_mk]); omega) (by simp)).mono ?_; rintro e w3 ⟨σ3, rfl, H3⟩; rw [hp.out])
        | (go_at_call 47; refine (expr_at (d := 2) HE2.out H1.out w1 (Below.refl _ _) (by rw [hp.out]; show _ + 64 ≤ _; (try simp only [List.nil_append, List.cons_append, List.append_assoc, sizes, sizes_append, size_mk]); omega)).mono ?_; rintro e w2 ⟨a, σ2, rfl, H2, HAa, haa, H2'⟩; rw [hp.out]; have haab : a.size < 64 := haa; clear haa))
      go_ret
      refine ⟨_, σ3, ?_, H3, SOk.one _ _ _ (by omega) (HAa.le (by omega)), few_leaf (by rw [size_mk]; (try simp only [List.nil_append, List.cons_append, List.append_assoc, sizes, sizes_append, size_mk]); omega)⟩
      rw [size_mk]; rfl
    | false =>
      go_wp2_with (first
        | (go_at_call 25; have hl := lit_at H2.out #[.int .i64 ((p + sizes [] + a.size - 1 : Nat) : Int)] (by rw [hp.out]; simp [rootsA, sizes, Ast.size, Nat.add_assoc]) 1 rfl; refine (add_at H2.out _ ((Below.refl _ _).alloc (Nat.le_refl _) _) (42) 0 ⟨#[]⟩ _ hl.1 (fun _ => hl.2) (by rw [hp.out]; (try simp only [List.nil_append, List.cons_append, List.append_assoc, sizes, sizes_append, size_mk]); omega) (by simp)).mono ?_; rintro e w3 ⟨σ3, rfl, H3⟩; rw [hp.out])
        | (go_at_call 47; refine (expr_at (d := 3) HE3.out H1.out w1 (Below.refl _ _) (by rw [hp.out]; show _ + 256 ≤ _; (try simp only [List.nil_append, List.cons_append, List.append_assoc, sizes, sizes_append, size_mk]); omega)).mono ?_; rintro e w2 ⟨a, σ2, rfl, H2, HAa, haa, H2'⟩; rw [hp.out]; have haab : a.size < 256 := haa; clear haa))
      go_ret
      refine ⟨_, σ3, ?_, H3, SOk.expr _ _ HAa, few_leaf (by rw [size_mk]; (try simp only [List.nil_append, List.cons_append, List.append_assoc, sizes, sizes_append, size_mk]); omega)⟩
      rw [size_mk]; rfl
  · cases f with
    | true =>
      go_wp2_with (first
        | (go_at_call 25; have hl := lit_at H2.out #[.int .i64 ((p + sizes [] + a.size - 1 : Nat) : Int)] (by rw [hp.out]; simp [rootsA, sizes, Ast.size, Nat.add_assoc]) 1 rfl; refine (add_at H2.out _ ((Below.refl _ _).alloc (Nat.le_refl _) _) (62) 0 ⟨#[]⟩ _ hl.1 (fun _ => hl.2) (by rw [hp.out]; (try simp only [List.nil_append, List.cons_append, List.append_assoc, sizes, sizes_append, size_mk]); omega) (by simp)).mono ?_; rintro e w3 ⟨σ3, rfl, H3⟩; rw [hp.out])
        | (go_at_call 47; refine (expr_at (d := 2) HE2.out H1.out w1 (Below.refl _ _) (by rw [hp.out]; show _ + 64 ≤ _; (try simp only [List.nil_append, List.cons_append, List.append_assoc, sizes, sizes_append, size_mk]); omega)).mono ?_; rintro e w2 ⟨a, σ2, rfl, H2, HAa, haa, H2'⟩; rw [hp.out]; have haab : a.size < 64 := haa; clear haa))
      go_ret
      refine ⟨_, σ3, ?_, H3, SOk.one _ _ _ (by omega) (HAa.le (by omega)), few_leaf (by rw [size_mk]; (try simp only [List.nil_append, List.cons_append, List.append_assoc, sizes, sizes_append, size_mk]); omega)⟩
      rw [size_mk]; rfl
    | false =>
      go_wp2_with (first
        | (go_at_call 25; have hl := lit_at H2.out #[.int .i64 ((p + sizes [] + a.size - 1 : Nat) : Int)] (by rw [hp.out]; simp [rootsA, sizes, Ast.size, Nat.add_assoc]) 1 rfl; refine (add_at H2.out _ ((Below.refl _ _).alloc (Nat.le_refl _) _) (42) 0 ⟨#[]⟩ _ hl.1 (fun _ => hl.2) (by rw [hp.out]; (try simp only [List.nil_append, List.cons_append, List.append_assoc, sizes, sizes_append, size_mk]); omega) (by simp)).mono ?_; rintro e w3 ⟨σ3, rfl, H3⟩; rw [hp.out])
        | (go_at_call 47; refine (expr_at (d := 3) HE3.out H1.out w1 (Below.refl _ _) (by rw [hp.out]; show _ + 256 ≤ _; (try simp only [List.nil_append, List.cons_append, List.append_assoc, sizes, sizes_append, size_mk]); omega)).mono ?_; rintro e w2 ⟨a, σ2, rfl, H2, HAa, haa, H2'⟩; rw [hp.out]; have haab : a.size < 256 := haa; clear haa))
      go_ret
      refine ⟨_, σ3, ?_, H3, SOk.expr _ _ HAa, few_leaf (by rw [size_mk]; (try simp only [List.nil_append, List.cons_append, List.append_assoc, sizes, sizes_append, size_mk]); omega)⟩
      rw [size_mk]; rfl
  · cases f with
    | true =>
      go_wp2_with (first
        | (go_at_call 25; have hl := lit_at H2.out #[.int .i64 ((p + sizes [] + a.size - 1 : Nat) : Int)] (by rw [hp.out]; simp [rootsA, sizes, Ast.size, Nat.add_assoc]) 1 rfl; refine (add_at H2.out _ ((Below.refl _ _).alloc (Nat.le_refl _) _) (62) 0 ⟨#[]⟩ _ hl.1 (fun _ => hl.2) (by rw [hp.out]; (try simp only [List.nil_append, List.cons_append, List.append_assoc, sizes, sizes_append, size_mk]); omega) (by simp)).mono ?_; rintro e w3 ⟨σ3, rfl, H3⟩; rw [hp.out])
        | (go_at_call 47; refine (expr_at (d := 2) HE2.out H1.out w1 (Below.refl _ _) (by rw [hp.out]; show _ + 64 ≤ _; (try simp only [List.nil_append, List.cons_append, List.append_assoc, sizes, sizes_append, size_mk]); omega)).mono ?_; rintro e w2 ⟨a, σ2, rfl, H2, HAa, haa, H2'⟩; rw [hp.out]; have haab : a.size < 64 := haa; clear haa))
      go_ret
      refine ⟨_, σ3, ?_, H3, SOk.one _ _ _ (by omega) (HAa.le (by omega)), few_leaf (by rw [size_mk]; (try simp only [List.nil_append, List.cons_append, List.append_assoc, sizes, sizes_append, size_mk]); omega)⟩
      rw [size_mk]; rfl
    | false =>
      go_wp2_with (first
        | (go_at_call 25; have hl := lit_at H2.out #[.int .i64 ((p + sizes [] + a.size - 1 : Nat) : Int)] (by rw [hp.out]; simp [rootsA, sizes, Ast.size, Nat.add_assoc]) 1 rfl; refine (add_at H2.out _ ((Below.refl _ _).alloc (Nat.le_refl _) _) (42) 0 ⟨#[]⟩ _ hl.1 (fun _ => hl.2) (by rw [hp.out]; (try simp only [List.nil_append, List.cons_append, List.append_assoc, sizes, sizes_append, size_mk]); omega) (by simp)).mono ?_; rintro e w3 ⟨σ3, rfl, H3⟩; rw [hp.out])
        | (go_at_call 47; refine (expr_at (d := 3) HE3.out H1.out w1 (Below.refl _ _) (by rw [hp.out]; show _ + 256 ≤ _; (try simp only [List.nil_append, List.cons_append, List.append_assoc, sizes, sizes_append, size_mk]); omega)).mono ?_; rintro e w2 ⟨a, σ2, rfl, H2, HAa, haa, H2'⟩; rw [hp.out]; have haab : a.size < 256 := haa; clear haa))
      go_ret
      refine ⟨_, σ3, ?_, H3, SOk.expr _ _ HAa, few_leaf (by rw [size_mk]; (try simp only [List.nil_append, List.cons_append, List.append_assoc, sizes, sizes_append, size_mk]); omega)⟩
      rw [size_mk]; rfl
  · cases f with
    | true =>
      go_wp2_with (first
        | (go_at_call 25; refine (leaf_at H1.out w1 (Below.refl _ _) (53) 0 ⟨#[]⟩ (by rw [hp.out]; (try simp only [List.nil_append, List.cons_append, List.append_assoc, sizes, sizes_append, size_mk]); omega)).mono ?_; rintro e w2 ⟨σ2, rfl, H2, H2'⟩; rw [hp.out]))
      go_ret
      refine ⟨.mk 53 [] 0 [], σ2, ?_, H2, SOk.lone _ _ (by omega), few_leaf (by rw [size_mk]; (try simp only [List.nil_append, List.cons_append, List.append_assoc, sizes, sizes_append, size_mk]); omega)⟩
      rw [size_mk]; rfl
    | false =>
      go_wp2_with (first
        | (go_at_call 25; have hl := lit_at H2.out #[.int .i64 ((p + sizes [] + a.size - 1 : Nat) : Int)] (by rw [hp.out]; simp [rootsA, sizes, Ast.size, Nat.add_assoc]) 1 rfl; refine (add_at H2.out _ ((Below.refl _ _).alloc (Nat.le_refl _) _) (42) 0 ⟨#[]⟩ _ hl.1 (fun _ => hl.2) (by rw [hp.out]; (try simp only [List.nil_append, List.cons_append, List.append_assoc, sizes, sizes_append, size_mk]); omega) (by simp)).mono ?_; rintro e w3 ⟨σ3, rfl, H3⟩; rw [hp.out])
        | (go_at_call 47; refine (expr_at (d := 3) HE3.out H1.out w1 (Below.refl _ _) (by rw [hp.out]; show _ + 256 ≤ _; (try simp only [List.nil_append, List.cons_append, List.append_assoc, sizes, sizes_append, size_mk]); omega)).mono ?_; rintro e w2 ⟨a, σ2, rfl, H2, HAa, haa, H2'⟩; rw [hp.out]; have haab : a.size < 256 := haa; clear haa))
      go_ret
      refine ⟨_, σ3, ?_, H3, SOk.expr _ _ HAa, few_leaf (by rw [size_mk]; (try simp only [List.nil_append, List.cons_append, List.append_assoc, sizes, sizes_append, size_mk]); omega)⟩
      rw [size_mk]; rfl
  · go_wp2_with (first
      | (go_at_call 25; have hl := lit_at H2.out #[.int .i64 ((p + sizes [] + a.size - 1 : Nat) : Int)] (by rw [hp.out]; simp [rootsA, sizes, Ast.size, Nat.add_assoc]) 1 rfl; refine (add_at H2.out _ ((Below.refl _ _).alloc (Nat.le_refl _) _) (42) 0 ⟨#[]⟩ _ hl.1 (fun _ => hl.2) (by rw [hp.out]; (try simp only [List.nil_append, List.cons_append, List.append_assoc, sizes, sizes_append, size_mk]); omega) (by simp)).mono ?_; rintro e w3 ⟨σ3, rfl, H3⟩; rw [hp.out])
      | (go_at_call 47; refine (expr_at (d := 3) HE3.out H1.out w1 (Below.refl _ _) (by rw [hp.out]; show _ + 256 ≤ _; (try simp only [List.nil_append, List.cons_append, List.append_assoc, sizes, sizes_append, size_mk]); omega)).mono ?_; rintro e w2 ⟨a, σ2, rfl, H2, HAa, haa, H2'⟩; rw [hp.out]; have haab : a.size < 256 := haa; clear haa))
    go_ret
    refine ⟨_, σ3, ?_, H3, SOk.expr _ _ HAa, few_leaf (by rw [size_mk]; (try simp only [List.nil_append, List.cons_append, List.append_assoc, sizes, sizes_append, size_mk]); omega)⟩
    rw [size_mk]; rfl
  · go_wp2_with (first
      | (go_at_call 25; have hl := lit_at H2.out #[.int .i64 ((p + sizes [] + a.size - 1 : Nat) : Int)] (by rw [hp.out]; simp [rootsA, sizes, Ast.size, Nat.add_assoc]) 1 rfl; refine (add_at H2.out _ ((Below.refl _ _).alloc (Nat.le_refl _) _) (42) 0 ⟨#[]⟩ _ hl.1 (fun _ => hl.2) (by rw [hp.out]; (try simp only [List.nil_append, List.cons_append, List.append_assoc, sizes, sizes_append, size_mk]); omega) (by simp)).mono ?_; rintro e w3 ⟨σ3, rfl, H3⟩; rw [hp.out])
      | (go_at_call 47; refine (expr_at (d := 3) HE3.out H1.out w1 (Below.refl _ _) (by rw [hp.out]; show _ + 256 ≤ _; (try simp only [List.nil_append, List.cons_append, List.append_assoc, sizes, sizes_append, size_mk]); omega)).mono ?_; rintro e w2 ⟨a, σ2, rfl, H2, HAa, haa, H2'⟩; rw [hp.out]; have haab : a.size < 256 := haa; clear haa))
    go_ret
    refine ⟨_, σ3, ?_, H3, SOk.expr _ _ HAa, few_leaf (by rw [size_mk]; (try simp only [List.nil_append, List.cons_append, List.append_assoc, sizes, sizes_append, size_mk]); omega)⟩
    rw [size_mk]; rfl
  · go_wp2_with (first
      | (go_at_call 25; have hl := lit_at H2.out #[.int .i64 ((p + sizes [] + a.size - 1 : Nat) : Int)] (by rw [hp.out]; simp [rootsA, sizes, Ast.size, Nat.add_assoc]) 1 rfl; refine (add_at H2.out _ ((Below.refl _ _).alloc (Nat.le_refl _) _) (42) 0 ⟨#[]⟩ _ hl.1 (fun _ => hl.2) (by rw [hp.out]; (try simp only [List.nil_append, List.cons_append, List.append_assoc, sizes, sizes_append, size_mk]); omega) (by simp)).mono ?_; rintro e w3 ⟨σ3, rfl, H3⟩; rw [hp.out])
      | (go_at_call 47; refine (expr_at (d := 3) HE3.out H1.out w1 (Below.refl _ _) (by rw [hp.out]; show _ + 256 ≤ _; (try simp only [List.nil_append, List.cons_append, List.append_assoc, sizes, sizes_append, size_mk]); omega)).mono ?_; rintro e w2 ⟨a, σ2, rfl, H2, HAa, haa, H2'⟩; rw [hp.out]; have haab : a.size < 256 := haa; clear haa))
    go_ret
    refine ⟨_, σ3, ?_, H3, SOk.expr _ _ HAa, few_leaf (by rw [size_mk]; (try simp only [List.nil_append, List.cons_append, List.append_assoc, sizes, sizes_append, size_mk]); omega)⟩
    rw [size_mk]; rfl
end Go.Proofs.YtkmmcphiijolkaaGreatDoor
