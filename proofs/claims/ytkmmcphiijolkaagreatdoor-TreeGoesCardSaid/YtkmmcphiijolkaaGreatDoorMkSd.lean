/-
  The reference's maker of trees: a statement, at this program (in full, numbers 14, 15, 16, 17, 18, 19, 20, 21).
-/
import Derived.Test.YtkmmcphiijolkaaGreatDoorZo
set_option linter.unusedVariables false
set_option linter.unusedSimpArgs false
namespace Go.Proofs.YtkmmcphiijolkaaGreatDoor
open Go.RowKit Go.Shelf
open Tr

set_option maxHeartbeats 40000000 in
set_option maxRecDepth 100000 in
theorem stmtB_of {base M : Nat} {vs : Value} {s : List Int} (hE1 : ExprC base M vs s 1) (hE2 : ExprC base M vs s 2) (hE3 : ExprC base M vs s 3) {d : Nat} (hB : StmtC base M vs s (SOk 0) d) (hd : d ≤ 4) (σ : St) (w : World) (f l c : Bool) (hS : MkS base M vs s σ w) (hP : σ.P.length ≤ 500000) (hlf : σ.P.length < 160)
    (hnext : Calls Tryz.prog 23 #[.pointer (some ⟨M, 0, none⟩), .int .i64 40] (w.alloc (.cells #[.bool f, .bool l, .bool c] 57)) fun e w' => ∃ (r : Nat) (σ' : St), e = .returned (.int .i64 (r : Int)) ∧ (r = 14 ∨ r = 15 ∨ r = 16 ∨ r = 17 ∨ r = 18 ∨ r = 19 ∨ r = 20 ∨ r = 21) ∧ Hid (To base M vs s σ (w.alloc (.cells #[.bool f, .bool l, .bool c] 57)) σ' w' [])) :
    Calls Tryz.prog 24 #[.pointer (some ⟨M, 0, none⟩), .int .i64 ((d : Int) + 1), .agg #[.bool f, .bool l, .bool c]] w fun e w' => ∃ (a : Ast) (σ' : St), e = .returned (.int .i64 ((σ.P.length + a.size - 1 : Nat) : Int)) ∧ Hid (To base M vs s σ w σ' w' [a]) ∧ SOk 0 (d + 1) a ∧ Few σ.P.length a.size (d + 1) := by
  have HS := Lib.hid hS
  have HE1 := Lib.hid hE1
  have HE2 := Lib.hid hE2
  have HE3 := Lib.hid hE3
  have HB := Lib.hid hB
  have hml := hS.lt
  have hbw : base ≤ w.heap.size := by have := hS.hb; omega
  obtain ⟨p, hp⟩ := hid_ex σ.P.length
  rw [hp.out] at hP hlf ⊢
  have hd0 : ¬ (d : Int) + 1 ≤ 0 := by omega
  have hl0 : ¬ 160 - (p : Int) ≤ 0 := by omega
  clear hS hE1 hE2 hE3 hB
  go_enter Tryz.func24, Tryz.ntmps24
  go_upto_region 4 with (go_at_call 23; go_loud (refine hnext.mono ?_; clear hnext; rintro e w1 ⟨r, σ1, rfl, hr, H1'⟩; have H1 := Lib.hid (To.after HS.out ((Below.refl _ _).alloc (Nat.le_refl _) _) H1'.out); have HPx := Plc.one HS.out H1'.out; obtain ⟨HPa, HMa⟩ := HPx; have HP1 := Lib.hid HPa; have HMW := Lib.hid HMa; have HPy := HPa.cells; obtain ⟨c1a, c1b, c1c⟩ := HPy; clear HPa HMa; have c3 := H1.out.st.cell 3; simp only [List.getElem?_toArray, List.getElem?_cons_succ, List.getElem?_cons_zero] at c3; rw [H1.out.len, hp.out] at c3; simp only [sizes, Nat.add_zero] at c3))
  clear c3 hl0 hd0
  rcases hr with rfl | rfl | rfl | rfl | rfl | rfl | rfl | rfl
  · go_wp2_with (first
      | (go_at_call 25; have hl := lit_at H5.out #[.int .i64 ((p + sizes [] + t.size - 1 : Nat) : Int), .int .i64 ((p + sizes ([] ++ [t]) + b.size - 1 : Nat) : Int), .int .i64 ((p + sizes ([] ++ [t] ++ [b]) + b2.size - 1 : Nat) : Int)] (by rw [hp.out]; simp [rootsA, sizes, Ast.size, Nat.add_assoc]) 3 rfl; refine (add_at H5.out _ ((Below.refl _ _).alloc (Nat.le_refl _) _) (45) 0 ⟨#[]⟩ _ hl.1 (fun _ => hl.2) (by rw [hp.out]; (try simp only [List.nil_append, List.cons_append, List.append_assoc, sizes, sizes_append, size_mk]); omega) (by simp)).mono ?_; rintro e w6 ⟨σ6, rfl, H6⟩; rw [hp.out])
      | (go_at_call 49; refine (block_at HB.out hd H4.out w4 (Below.refl _ _) (by rw [hp.out]; (try simp only [List.nil_append, List.cons_append, List.append_assoc, sizes, sizes_append, size_mk]); omega) f l c).mono ?_; rintro e w5 ⟨b2, σ5, rfl, H5, HAb2, HFb2, hab2, H5'⟩; rw [hp.out]; rw [hp.out] at HFb2)
      | (go_at_call 25; have hl := lit_at H4.out #[.int .i64 ((p + sizes [] + t.size - 1 : Nat) : Int), .int .i64 ((p + sizes ([] ++ [t]) + b.size - 1 : Nat) : Int)] (by rw [hp.out]; simp [rootsA, sizes, Ast.size, Nat.add_assoc]) 2 rfl; refine (add_at H4.out _ ((Below.refl _ _).alloc (Nat.le_refl _) _) (45) 0 ⟨#[]⟩ _ hl.1 (fun _ => hl.2) (by rw [hp.out]; (try simp only [List.nil_append, List.cons_append, List.append_assoc, sizes, sizes_append, size_mk]); omega) (by simp)).mono ?_; rintro e w5 ⟨σ5, rfl, H5⟩; rw [hp.out])
      | (go_at_call 23; refine (next_at H3.out w3 (Below.refl _ _) 2 (by omega) (by omega)).mono ?_; rintro e w4 ⟨r4, σ4, rfl, hr4, H4, H4'⟩; have HP4 := Lib.hid (HP3.out.to HMW.out (Below.refl _ _) H4'.out); have HPy := HP4.out.cells; obtain ⟨c4a, c4b, c4c⟩ := HPy)
      | (go_at_call 49; refine (block_at HB.out hd H2.out w2 (Below.refl _ _) (by rw [hp.out]; (try simp only [List.nil_append, List.cons_append, List.append_assoc, sizes, sizes_append, size_mk]); omega) f l c).mono ?_; rintro e w3 ⟨b, σ3, rfl, H3, HAb, HFb, hab, H3'⟩; rw [hp.out]; rw [hp.out] at HFb; have HP3 := Lib.hid (HP2.out.to HMW.out (Below.refl _ _) H3'.out); have HPy := HP3.out.cells; obtain ⟨c3a, c3b, c3c⟩ := HPy)
      | (go_at_call 47; refine (expr_at (d := 2) HE2.out H1.out w1 (Below.refl _ _) (by rw [hp.out]; show _ + 64 ≤ _; (try simp only [List.nil_append, List.cons_append, List.append_assoc, sizes, sizes_append, size_mk]); omega)).mono ?_; rintro e w2 ⟨t, σ2, rfl, H2, HAt, hat, H2'⟩; rw [hp.out]; have hatb : t.size < 64 := hat; clear hat; have HP2 := Lib.hid (HP1.out.to HMW.out (Below.refl _ _) H2'.out); have HPy := HP2.out.cells; obtain ⟨c2a, c2b, c2c⟩ := HPy))
    · go_ret
      refine ⟨_, σ5, ?_, H5, SOk.if2 _ _ _ (HAt.le (by omega)) HAb, few_deep hlf (by rw [size_mk]; have hb := HFb.out; unfold FewB at hb; simp only [List.nil_append, List.cons_append, List.append_assoc, sizes, sizes_append, size_mk] at hb ⊢; omega)⟩
      rw [size_mk]; rfl
    · go_ret
      refine ⟨_, σ6, ?_, H6, SOk.if3 _ _ _ _ (HAt.le (by omega)) HAb HAb2, few_deep hlf (by rw [size_mk]; have hb := HFb.out; have hb2 := HFb2.out; unfold FewB at hb hb2; simp only [List.nil_append, List.cons_append, List.append_assoc, sizes, sizes_append, size_mk] at hb hb2 ⊢; omega)⟩
      rw [size_mk]; rfl
  · go_wp2_with (first
      | (go_at_call 25; have hl := lit_at H5.out #[.int .i64 ((p + sizes [] + t.size - 1 : Nat) : Int), .int .i64 ((p + sizes ([] ++ [t]) + b.size - 1 : Nat) : Int), .int .i64 ((p + sizes ([] ++ [t] ++ [b]) + b2.size - 1 : Nat) : Int)] (by rw [hp.out]; simp [rootsA, sizes, Ast.size, Nat.add_assoc]) 3 rfl; refine (add_at H5.out _ ((Below.refl _ _).alloc (Nat.le_refl _) _) (45) 0 ⟨#[]⟩ _ hl.1 (fun _ => hl.2) (by rw [hp.out]; (try simp only [List.nil_append, List.cons_append, List.append_assoc, sizes, sizes_append, size_mk]); omega) (by simp)).mono ?_; rintro e w6 ⟨σ6, rfl, H6⟩; rw [hp.out])
      | (go_at_call 49; refine (block_at HB.out hd H4.out w4 (Below.refl _ _) (by rw [hp.out]; (try simp only [List.nil_append, List.cons_append, List.append_assoc, sizes, sizes_append, size_mk]); omega) f l c).mono ?_; rintro e w5 ⟨b2, σ5, rfl, H5, HAb2, HFb2, hab2, H5'⟩; rw [hp.out]; rw [hp.out] at HFb2)
      | (go_at_call 25; have hl := lit_at H4.out #[.int .i64 ((p + sizes [] + t.size - 1 : Nat) : Int), .int .i64 ((p + sizes ([] ++ [t]) + b.size - 1 : Nat) : Int)] (by rw [hp.out]; simp [rootsA, sizes, Ast.size, Nat.add_assoc]) 2 rfl; refine (add_at H4.out _ ((Below.refl _ _).alloc (Nat.le_refl _) _) (45) 0 ⟨#[]⟩ _ hl.1 (fun _ => hl.2) (by rw [hp.out]; (try simp only [List.nil_append, List.cons_append, List.append_assoc, sizes, sizes_append, size_mk]); omega) (by simp)).mono ?_; rintro e w5 ⟨σ5, rfl, H5⟩; rw [hp.out])
      | (go_at_call 23; refine (next_at H3.out w3 (Below.refl _ _) 2 (by omega) (by omega)).mono ?_; rintro e w4 ⟨r4, σ4, rfl, hr4, H4, H4'⟩; have HP4 := Lib.hid (HP3.out.to HMW.out (Below.refl _ _) H4'.out); have HPy := HP4.out.cells; obtain ⟨c4a, c4b, c4c⟩ := HPy)
      | (go_at_call 49; refine (block_at HB.out hd H2.out w2 (Below.refl _ _) (by rw [hp.out]; (try simp only [List.nil_append, List.cons_append, List.append_assoc, sizes, sizes_append, size_mk]); omega) f l c).mono ?_; rintro e w3 ⟨b, σ3, rfl, H3, HAb, HFb, hab, H3'⟩; rw [hp.out]; rw [hp.out] at HFb; have HP3 := Lib.hid (HP2.out.to HMW.out (Below.refl _ _) H3'.out); have HPy := HP3.out.cells; obtain ⟨c3a, c3b, c3c⟩ := HPy)
      | (go_at_call 47; refine (expr_at (d := 2) HE2.out H1.out w1 (Below.refl _ _) (by rw [hp.out]; show _ + 64 ≤ _; (try simp only [List.nil_append, List.cons_append, List.append_assoc, sizes, sizes_append, size_mk]); omega)).mono ?_; rintro e w2 ⟨t, σ2, rfl, H2, HAt, hat, H2'⟩; rw [hp.out]; have hatb : t.size < 64 := hat; clear hat; have HP2 := Lib.hid (HP1.out.to HMW.out (Below.refl _ _) H2'.out); have HPy := HP2.out.cells; obtain ⟨c2a, c2b, c2c⟩ := HPy))
    · go_ret
      refine ⟨_, σ5, ?_, H5, SOk.if2 _ _ _ (HAt.le (by omega)) HAb, few_deep hlf (by rw [size_mk]; have hb := HFb.out; unfold FewB at hb; simp only [List.nil_append, List.cons_append, List.append_assoc, sizes, sizes_append, size_mk] at hb ⊢; omega)⟩
      rw [size_mk]; rfl
    · go_ret
      refine ⟨_, σ6, ?_, H6, SOk.if3 _ _ _ _ (HAt.le (by omega)) HAb HAb2, few_deep hlf (by rw [size_mk]; have hb := HFb.out; have hb2 := HFb2.out; unfold FewB at hb hb2; simp only [List.nil_append, List.cons_append, List.append_assoc, sizes, sizes_append, size_mk] at hb hb2 ⊢; omega)⟩
      rw [size_mk]; rfl
  · go_wp2_with (first
      | (go_at_call 25; have hl := lit_at H5.out #[.int .i64 ((p + sizes [] + t.size - 1 : Nat) : Int), .int .i64 ((p + sizes ([] ++ [t]) + b.size - 1 : Nat) : Int), .int .i64 ((p + sizes ([] ++ [t] ++ [b]) + b2.size - 1 : Nat) : Int)] (by rw [hp.out]; simp [rootsA, sizes, Ast.size, Nat.add_assoc]) 3 rfl; refine (add_at H5.out _ ((Below.refl _ _).alloc (Nat.le_refl _) _) (45) 0 ⟨#[]⟩ _ hl.1 (fun _ => hl.2) (by rw [hp.out]; (try simp only [List.nil_append, List.cons_append, List.append_assoc, sizes, sizes_append, size_mk]); omega) (by simp)).mono ?_; rintro e w6 ⟨σ6, rfl, H6⟩; rw [hp.out])
      | (go_at_call 49; refine (block_at HB.out hd H4.out w4 (Below.refl _ _) (by rw [hp.out]; (try simp only [List.nil_append, List.cons_append, List.append_assoc, sizes, sizes_append, size_mk]); omega) f l c).mono ?_; rintro e w5 ⟨b2, σ5, rfl, H5, HAb2, HFb2, hab2, H5'⟩; rw [hp.out]; rw [hp.out] at HFb2)
      | (go_at_call 25; have hl := lit_at H4.out #[.int .i64 ((p + sizes [] + t.size - 1 : Nat) : Int), .int .i64 ((p + sizes ([] ++ [t]) + b.size - 1 : Nat) : Int)] (by rw [hp.out]; simp [rootsA, sizes, Ast.size, Nat.add_assoc]) 2 rfl; refine (add_at H4.out _ ((Below.refl _ _).alloc (Nat.le_refl _) _) (45) 0 ⟨#[]⟩ _ hl.1 (fun _ => hl.2) (by rw [hp.out]; (try simp only [List.nil_append, List.cons_append, List.append_assoc, sizes, sizes_append, size_mk]); omega) (by simp)).mono ?_; rintro e w5 ⟨σ5, rfl, H5⟩; rw [hp.out])
      | (go_at_call 23; refine (next_at H3.out w3 (Below.refl _ _) 2 (by omega) (by omega)).mono ?_; rintro e w4 ⟨r4, σ4, rfl, hr4, H4, H4'⟩; have HP4 := Lib.hid (HP3.out.to HMW.out (Below.refl _ _) H4'.out); have HPy := HP4.out.cells; obtain ⟨c4a, c4b, c4c⟩ := HPy)
      | (go_at_call 49; refine (block_at HB.out hd H2.out w2 (Below.refl _ _) (by rw [hp.out]; (try simp only [List.nil_append, List.cons_append, List.append_assoc, sizes, sizes_append, size_mk]); omega) f l c).mono ?_; rintro e w3 ⟨b, σ3, rfl, H3, HAb, HFb, hab, H3'⟩; rw [hp.out]; rw [hp.out] at HFb; have HP3 := Lib.hid (HP2.out.to HMW.out (Below.refl _ _) H3'.out); have HPy := HP3.out.cells; obtain ⟨c3a, c3b, c3c⟩ := HPy)
      | (go_at_call 47; refine (expr_at (d := 2) HE2.out H1.out w1 (Below.refl _ _) (by rw [hp.out]; show _ + 64 ≤ _; (try simp only [List.nil_append, List.cons_append, List.append_assoc, sizes, sizes_append, size_mk]); omega)).mono ?_; rintro e w2 ⟨t, σ2, rfl, H2, HAt, hat, H2'⟩; rw [hp.out]; have hatb : t.size < 64 := hat; clear hat; have HP2 := Lib.hid (HP1.out.to HMW.out (Below.refl _ _) H2'.out); have HPy := HP2.out.cells; obtain ⟨c2a, c2b, c2c⟩ := HPy))
    · go_ret
      refine ⟨_, σ5, ?_, H5, SOk.if2 _ _ _ (HAt.le (by omega)) HAb, few_deep hlf (by rw [size_mk]; have hb := HFb.out; unfold FewB at hb; simp only [List.nil_append, List.cons_append, List.append_assoc, sizes, sizes_append, size_mk] at hb ⊢; omega)⟩
      rw [size_mk]; rfl
    · go_ret
      refine ⟨_, σ6, ?_, H6, SOk.if3 _ _ _ _ (HAt.le (by omega)) HAb HAb2, few_deep hlf (by rw [size_mk]; have hb := HFb.out; have hb2 := HFb2.out; unfold FewB at hb hb2; simp only [List.nil_append, List.cons_append, List.append_assoc, sizes, sizes_append, size_mk] at hb hb2 ⊢; omega)⟩
      rw [size_mk]; rfl
  · go_wp2_with (first
      | (go_at_call 25; have hl := lit_at H3.out #[.int .i64 ((p + sizes [] + t.size - 1 : Nat) : Int), .int .i64 ((p + sizes ([] ++ [t]) + b.size - 1 : Nat) : Int)] (by rw [hp.out]; simp [rootsA, sizes, Ast.size, Nat.add_assoc]) 2 rfl; refine (add_at H3.out _ ((Below.refl _ _).alloc (Nat.le_refl _) _) (46) 0 ⟨#[]⟩ _ hl.1 (fun _ => hl.2) (by rw [hp.out]; (try simp only [List.nil_append, List.cons_append, List.append_assoc, sizes, sizes_append, size_mk]); omega) (by simp)).mono ?_; rintro e w4 ⟨σ4, rfl, H4⟩; rw [hp.out])
      | (go_at_call 49; refine (block_at HB.out hd H2.out w2 (Below.refl _ _) (by rw [hp.out]; (try simp only [List.nil_append, List.cons_append, List.append_assoc, sizes, sizes_append, size_mk]); omega) f true c).mono ?_; rintro e w3 ⟨b, σ3, rfl, H3, HAb, HFb, hab, H3'⟩; rw [hp.out]; rw [hp.out] at HFb)
      | (go_at_call 47; refine (expr_at (d := 2) HE2.out H1.out w1 (Below.refl _ _) (by rw [hp.out]; show _ + 64 ≤ _; (try simp only [List.nil_append, List.cons_append, List.append_assoc, sizes, sizes_append, size_mk]); omega)).mono ?_; rintro e w2 ⟨t, σ2, rfl, H2, HAt, hat, H2'⟩; rw [hp.out]; have hatb : t.size < 64 := hat; clear hat; have HP2 := Lib.hid (HP1.out.to HMW.out (Below.refl _ _) H2'.out); have HPy := HP2.out.cells; obtain ⟨c2a, c2b, c2c⟩ := HPy))
    go_ret
    refine ⟨_, σ4, ?_, H4, SOk.whil _ _ _ (HAt.le (by omega)) HAb, few_deep hlf (by rw [size_mk]; have hb := HFb.out; unfold FewB at hb; simp only [List.nil_append, List.cons_append, List.append_assoc, sizes, sizes_append, size_mk] at hb ⊢; omega)⟩
    rw [size_mk]; rfl
  · go_wp2_with (first
      | (go_at_call 25; have hl := lit_at H3.out #[.int .i64 ((p + sizes [] + t.size - 1 : Nat) : Int), .int .i64 ((p + sizes ([] ++ [t]) + b.size - 1 : Nat) : Int)] (by rw [hp.out]; simp [rootsA, sizes, Ast.size, Nat.add_assoc]) 2 rfl; refine (add_at H3.out _ ((Below.refl _ _).alloc (Nat.le_refl _) _) (46) 0 ⟨#[]⟩ _ hl.1 (fun _ => hl.2) (by rw [hp.out]; (try simp only [List.nil_append, List.cons_append, List.append_assoc, sizes, sizes_append, size_mk]); omega) (by simp)).mono ?_; rintro e w4 ⟨σ4, rfl, H4⟩; rw [hp.out])
      | (go_at_call 49; refine (block_at HB.out hd H2.out w2 (Below.refl _ _) (by rw [hp.out]; (try simp only [List.nil_append, List.cons_append, List.append_assoc, sizes, sizes_append, size_mk]); omega) f true c).mono ?_; rintro e w3 ⟨b, σ3, rfl, H3, HAb, HFb, hab, H3'⟩; rw [hp.out]; rw [hp.out] at HFb)
      | (go_at_call 47; refine (expr_at (d := 2) HE2.out H1.out w1 (Below.refl _ _) (by rw [hp.out]; show _ + 64 ≤ _; (try simp only [List.nil_append, List.cons_append, List.append_assoc, sizes, sizes_append, size_mk]); omega)).mono ?_; rintro e w2 ⟨t, σ2, rfl, H2, HAt, hat, H2'⟩; rw [hp.out]; have hatb : t.size < 64 := hat; clear hat; have HP2 := Lib.hid (HP1.out.to HMW.out (Below.refl _ _) H2'.out); have HPy := HP2.out.cells; obtain ⟨c2a, c2b, c2c⟩ := HPy))
    go_ret
    refine ⟨_, σ4, ?_, H4, SOk.whil _ _ _ (HAt.le (by omega)) HAb, few_deep hlf (by rw [size_mk]; have hb := HFb.out; unfold FewB at hb; simp only [List.nil_append, List.cons_append, List.append_assoc, sizes, sizes_append, size_mk] at hb ⊢; omega)⟩
    rw [size_mk]; rfl
  · go_wp2_with (first
      | (go_at_call 25; have hl := lit_at H4.out #[.int .i64 ((p + sizes [] + t.size - 1 : Nat) : Int), .int .i64 ((p + sizes ([] ++ [t]) + a.size - 1 : Nat) : Int), .int .i64 ((p + sizes ([] ++ [t] ++ [a]) + b.size - 1 : Nat) : Int)] (by rw [hp.out]; simp [rootsA, sizes, Ast.size, Nat.add_assoc]) 3 rfl; refine (add_at H4.out _ ((Below.refl _ _).alloc (Nat.le_refl _) _) (47) 0 ⟨#[]⟩ _ hl.1 (fun _ => hl.2) (by rw [hp.out]; (try simp only [List.nil_append, List.cons_append, List.append_assoc, sizes, sizes_append, size_mk]); omega) (by simp)).mono ?_; rintro e w5 ⟨σ5, rfl, H5⟩; rw [hp.out])
      | (go_at_call 49; refine (block_at HB.out hd H3.out w3 (Below.refl _ _) (by rw [hp.out]; (try simp only [List.nil_append, List.cons_append, List.append_assoc, sizes, sizes_append, size_mk]); omega) f true c).mono ?_; rintro e w4 ⟨b, σ4, rfl, H4, HAb, HFb, hab, H4'⟩; rw [hp.out]; rw [hp.out] at HFb)
      | (go_at_call 47; refine (expr_at (d := 2) HE2.out H2.out w2 (Below.refl _ _) (by rw [hp.out]; show _ + 64 ≤ _; (try simp only [List.nil_append, List.cons_append, List.append_assoc, sizes, sizes_append, size_mk]); omega)).mono ?_; rintro e w3 ⟨a, σ3, rfl, H3, HAa, haa, H3'⟩; rw [hp.out]; have haab : a.size < 64 := haa; clear haa; have HP3 := Lib.hid (HP2.out.to HMW.out (Below.refl _ _) H3'.out); have HPy := HP3.out.cells; obtain ⟨c3a, c3b, c3c⟩ := HPy)
      | (go_at_call 46; refine (targets_at H1.out w1 (Below.refl _ _) (by rw [hp.out]; (try simp only [List.nil_append, List.cons_append, List.append_assoc, sizes, sizes_append, size_mk]); omega)).mono ?_; rintro e w2 ⟨t, σ2, rfl, H2, HAt, hat, H2'⟩; rw [hp.out]; have HP2 := Lib.hid (HP1.out.to HMW.out (Below.refl _ _) H2'.out); have HPy := HP2.out.cells; obtain ⟨c2a, c2b, c2c⟩ := HPy))
    go_ret
    refine ⟨_, σ5, ?_, H5, SOk.forr _ _ _ _ HAt (HAa.le (by omega)) HAb, few_deep hlf (by rw [size_mk]; have hb := HFb.out; unfold FewB at hb; simp only [List.nil_append, List.cons_append, List.append_assoc, sizes, sizes_append, size_mk] at hb ⊢; omega)⟩
    rw [size_mk]; rfl
  · go_wp2_with (first
      | (go_at_call 25; have hl := lit_at H4.out #[.int .i64 ((p + sizes [] + t.size - 1 : Nat) : Int), .int .i64 ((p + sizes ([] ++ [t]) + a.size - 1 : Nat) : Int), .int .i64 ((p + sizes ([] ++ [t] ++ [a]) + b.size - 1 : Nat) : Int)] (by rw [hp.out]; simp [rootsA, sizes, Ast.size, Nat.add_assoc]) 3 rfl; refine (add_at H4.out _ ((Below.refl _ _).alloc (Nat.le_refl _) _) (47) 0 ⟨#[]⟩ _ hl.1 (fun _ => hl.2) (by rw [hp.out]; (try simp only [List.nil_append, List.cons_append, List.append_assoc, sizes, sizes_append, size_mk]); omega) (by simp)).mono ?_; rintro e w5 ⟨σ5, rfl, H5⟩; rw [hp.out])
      | (go_at_call 49; refine (block_at HB.out hd H3.out w3 (Below.refl _ _) (by rw [hp.out]; (try simp only [List.nil_append, List.cons_append, List.append_assoc, sizes, sizes_append, size_mk]); omega) f true c).mono ?_; rintro e w4 ⟨b, σ4, rfl, H4, HAb, HFb, hab, H4'⟩; rw [hp.out]; rw [hp.out] at HFb)
      | (go_at_call 47; refine (expr_at (d := 2) HE2.out H2.out w2 (Below.refl _ _) (by rw [hp.out]; show _ + 64 ≤ _; (try simp only [List.nil_append, List.cons_append, List.append_assoc, sizes, sizes_append, size_mk]); omega)).mono ?_; rintro e w3 ⟨a, σ3, rfl, H3, HAa, haa, H3'⟩; rw [hp.out]; have haab : a.size < 64 := haa; clear haa; have HP3 := Lib.hid (HP2.out.to HMW.out (Below.refl _ _) H3'.out); have HPy := HP3.out.cells; obtain ⟨c3a, c3b, c3c⟩ := HPy)
      | (go_at_call 46; refine (targets_at H1.out w1 (Below.refl _ _) (by rw [hp.out]; (try simp only [List.nil_append, List.cons_append, List.append_assoc, sizes, sizes_append, size_mk]); omega)).mono ?_; rintro e w2 ⟨t, σ2, rfl, H2, HAt, hat, H2'⟩; rw [hp.out]; have HP2 := Lib.hid (HP1.out.to HMW.out (Below.refl _ _) H2'.out); have HPy := HP2.out.cells; obtain ⟨c2a, c2b, c2c⟩ := HPy))
    go_ret
    refine ⟨_, σ5, ?_, H5, SOk.forr _ _ _ _ HAt (HAa.le (by omega)) HAb, few_deep hlf (by rw [size_mk]; have hb := HFb.out; unfold FewB at hb; simp only [List.nil_append, List.cons_append, List.append_assoc, sizes, sizes_append, size_mk] at hb ⊢; omega)⟩
    rw [size_mk]; rfl
  · go_wp2_with (first
      | (go_at_call 25; have hl := lit_at H4.out #[.int .i64 ((p + sizes [] + t.size - 1 : Nat) : Int), .int .i64 ((p + sizes ([] ++ [t]) + a.size - 1 : Nat) : Int), .int .i64 ((p + sizes ([] ++ [t] ++ [a]) + b.size - 1 : Nat) : Int)] (by rw [hp.out]; simp [rootsA, sizes, Ast.size, Nat.add_assoc]) 3 rfl; refine (add_at H4.out _ ((Below.refl _ _).alloc (Nat.le_refl _) _) (47) 0 ⟨#[]⟩ _ hl.1 (fun _ => hl.2) (by rw [hp.out]; (try simp only [List.nil_append, List.cons_append, List.append_assoc, sizes, sizes_append, size_mk]); omega) (by simp)).mono ?_; rintro e w5 ⟨σ5, rfl, H5⟩; rw [hp.out])
      | (go_at_call 49; refine (block_at HB.out hd H3.out w3 (Below.refl _ _) (by rw [hp.out]; (try simp only [List.nil_append, List.cons_append, List.append_assoc, sizes, sizes_append, size_mk]); omega) f true c).mono ?_; rintro e w4 ⟨b, σ4, rfl, H4, HAb, HFb, hab, H4'⟩; rw [hp.out]; rw [hp.out] at HFb)
      | (go_at_call 47; refine (expr_at (d := 2) HE2.out H2.out w2 (Below.refl _ _) (by rw [hp.out]; show _ + 64 ≤ _; (try simp only [List.nil_append, List.cons_append, List.append_assoc, sizes, sizes_append, size_mk]); omega)).mono ?_; rintro e w3 ⟨a, σ3, rfl, H3, HAa, haa, H3'⟩; rw [hp.out]; have haab : a.size < 64 := haa; clear haa; have HP3 := Lib.hid (HP2.out.to HMW.out (Below.refl _ _) H3'.out); have HPy := HP3.out.cells; obtain ⟨c3a, c3b, c3c⟩ := HPy)
      | (go_at_call 46; refine (targets_at H1.out w1 (Below.refl _ _) (by rw [hp.out]; (try simp only [List.nil_append, List.cons_append, List.append_assoc, sizes, sizes_append, size_mk]); omega)).mono ?_; rintro e w2 ⟨t, σ2, rfl, H2, HAt, hat, H2'⟩; rw [hp.out]; have HP2 := Lib.hid (HP1.out.to HMW.out (Below.refl _ _) H2'.out); have HPy := HP2.out.cells; obtain ⟨c2a, c2b, c2c⟩ := HPy))
    go_ret
    refine ⟨_, σ5, ?_, H5, SOk.forr _ _ _ _ HAt (HAa.le (by omega)) HAb, few_deep hlf (by rw [size_mk]; have hb := HFb.out; unfold FewB at hb; simp only [List.nil_append, List.cons_append, List.append_assoc, sizes, sizes_append, size_mk] at hb ⊢; omega)⟩
    rw [size_mk]; rfl
end Go.Proofs.YtkmmcphiijolkaaGreatDoor
