/-
  Texts of the tree package put behind one another: MkHc, MkHd.
-/
import Derived.Test.YtkmmcphiijolkaaGreatDoorZk
set_option linter.unusedVariables false
set_option linter.unusedSimpArgs false
namespace Go.Proofs.YtkmmcphiijolkaaGreatDoor
open Go.RowKit Go.Shelf
open Tr

set_option maxHeartbeats 4000000 in
set_option maxRecDepth 100000 in
theorem exprC_of {base M : Nat} {vs : Value} {s : List Int} {d : Nat} (hE : ExprC base M vs s d) (hE0 : ExprC base M vs s 0) (σ : St) (w : World) (hS : MkS base M vs s σ w) (hP : σ.P.length + sz (d + 1) ≤ 1000000) (hd : d ≤ 100) (hlf : σ.P.length < 160)
    (hnext : Calls Tryz.prog 23 #[.pointer (some ⟨M, 0, none⟩), .int .i64 30] w fun e w' => ∃ (r : Nat) (σ' : St), e = .returned (.int .i64 (r : Int)) ∧ (r = 14 ∨ r = 15 ∨ r = 16 ∨ r = 18 ∨ r = 19 ∨ r = 20 ∨ r = 21 ∨ r = 22 ∨ r = 23) ∧ Hid (To base M vs s σ w σ' w' [])) :
    Calls Tryz.prog 47 #[.pointer (some ⟨M, 0, none⟩), .int .i64 ((d : Int) + 1)] w fun e w' => ∃ (a : Ast) (σ' : St), e = .returned (.int .i64 ((σ.P.length + a.size - 1 : Nat) : Int)) ∧ Hid (To base M vs s σ w σ' w' [a]) ∧ EOk (d + 1) a ∧ a.size < sz (d + 1) := by
  have HE := Lib.hid hE
  have HE0 := Lib.hid hE0
  have hz4 := sz_pos d
  obtain ⟨S, hSz⟩ := hid_ex (sz d)
  have HZ : Hid (sz (d + 1) = 4 * S) := (show _ = _ by rw [← hSz.out]; rfl)
  rw [HZ.out] at hP ⊢
  rw [hSz.out] at hz4
  have hdw : IntKind.i64.wrap ((d : Int) + 1 - 1) = (d : Int) + 1 - 1 := IntWalk.i64_in _ (by omega)
  obtain ⟨p, hp⟩ := hid_ex σ.P.length
  rw [hp.out] at hP hlf ⊢
  have hd0 : ¬ (d : Int) + 1 ≤ 0 := by omega
  have hl0 : ¬ 160 - (p : Int) ≤ 0 := by omega
  clear hS hE hE0
  go_enter Tryz.func47, Tryz.ntmps47
  go_upto_region 4 with (go_at_call 23; refine hnext.mono ?_; clear hnext; rintro e w1 ⟨r, σ1, rfl, hr, H1⟩; have c3 := H1.out.st.cell 3; simp only [List.getElem?_toArray, List.getElem?_cons_succ, List.getElem?_cons_zero] at c3; rw [H1.out.len, hp.out] at c3; simp only [sizes, Nat.add_zero] at c3)
  rcases hr with rfl | rfl | rfl | rfl | rfl | rfl | rfl | rfl | rfl
  · clear c3 hl0 hlf hd0
    go_wp2_with (first
      | (go_at_call 25; refine (add_at H2.out w2 (Below.refl _ _) (7) 0 ⟨#[]⟩ _ (by rw [hp.out]; have := own_krowI HO.out.row; simpa [sizes] using this) (fun _ => HO.out.neM) (by rw [hp.out]; simp only [List.nil_append, List.cons_append, sizes, size_mk]; omega) (by rw [List.nil_append, ← HI.out]; omega)).mono ?_; rintro e w3 ⟨σ3, rfl, H3⟩; rw [hp.out])
      | (go_at_call 93; refine (row_at HE.out H1.out w1 (Below.refl _ _) (by rw [hp.out, hSz.out]; simp only [List.nil_append, List.cons_append, sizes, size_mk]; omega) hd 4 (by omega) (by omega)).mono ?_; rintro e w2 ⟨bl, σ2, i, p5, c5, rfl, hi, hin, H2, H2', HO, HEA, HBZ⟩; have HI := Lib.hid hi; clear hi; rw [hp.out] at HO; have hz3 : sizes bl ≤ 3 * S := Nat.le_trans HBZ.out (by rw [hSz.out]; exact Nat.mul_le_mul_right S (by omega))))
    go_ret
    refine ⟨_, σ3, ?_, H3, EOk.row _ _ _ (by omega) HEA.out, by rw [size_mk]; simp only [List.nil_append, List.cons_append, sizes, size_mk]; omega⟩
    rw [size_mk]; rfl
  · clear c3 hl0 hlf hd0
    go_wp2_with (first
      | (go_at_call 25; refine (add_at H2.out w2 (Below.refl _ _) (7) 0 ⟨#[]⟩ _ (by rw [hp.out]; have := own_krowI HO.out.row; simpa [sizes] using this) (fun _ => HO.out.neM) (by rw [hp.out]; simp only [List.nil_append, List.cons_append, sizes, size_mk]; omega) (by rw [List.nil_append, ← HI.out]; omega)).mono ?_; rintro e w3 ⟨σ3, rfl, H3⟩; rw [hp.out])
      | (go_at_call 93; refine (row_at HE.out H1.out w1 (Below.refl _ _) (by rw [hp.out, hSz.out]; simp only [List.nil_append, List.cons_append, sizes, size_mk]; omega) hd 4 (by omega) (by omega)).mono ?_; rintro e w2 ⟨bl, σ2, i, p5, c5, rfl, hi, hin, H2, H2', HO, HEA, HBZ⟩; have HI := Lib.hid hi; clear hi; rw [hp.out] at HO; have hz3 : sizes bl ≤ 3 * S := Nat.le_trans HBZ.out (by rw [hSz.out]; exact Nat.mul_le_mul_right S (by omega))))
    go_ret
    refine ⟨_, σ3, ?_, H3, EOk.row _ _ _ (by omega) HEA.out, by rw [size_mk]; simp only [List.nil_append, List.cons_append, sizes, size_mk]; omega⟩
    rw [size_mk]; rfl
  · clear c3 hl0 hlf hd0
    go_wp2_with (first
      | (go_at_call 25; refine (add_at H2.out w2 (Below.refl _ _) (8) 0 ⟨#[]⟩ _ (by rw [hp.out]; have := own_krowI HO.out.row; simpa [sizes] using this) (fun _ => HO.out.neM) (by rw [hp.out]; simp only [List.nil_append, List.cons_append, sizes, size_mk]; omega) (by rw [List.nil_append, ← HI.out]; omega)).mono ?_; rintro e w3 ⟨σ3, rfl, H3⟩; rw [hp.out])
      | (go_at_call 93; refine (row_at HE.out H1.out w1 (Below.refl _ _) (by rw [hp.out, hSz.out]; simp only [List.nil_append, List.cons_append, sizes, size_mk]; omega) hd 3 (by omega) (by omega)).mono ?_; rintro e w2 ⟨bl, σ2, i, p5, c5, rfl, hi, hin, H2, H2', HO, HEA, HBZ⟩; have HI := Lib.hid hi; clear hi; rw [hp.out] at HO; have hz3 : sizes bl ≤ 3 * S := Nat.le_trans HBZ.out (by rw [hSz.out]; exact Nat.mul_le_mul_right S (by omega))))
    go_ret
    refine ⟨_, σ3, ?_, H3, EOk.row _ _ _ (by omega) HEA.out, by rw [size_mk]; simp only [List.nil_append, List.cons_append, sizes, size_mk]; omega⟩
    rw [size_mk]; rfl
  · clear c3 hl0 hlf hd0
    go_wp2_with (first
      | (go_at_call 25; refine (add_at H5.out w5 (Below.refl _ _) 17 0 ⟨#[]⟩ _ (by rw [hp.out]; have := own_krowI HK5.out; simpa [rootsA, sizes, size_mk, Nat.add_assoc] using this) (fun _ g e => by simp only [Value.ownBlock, Option.some.injEq] at e; subst e; exact HG5.out.2.elim (fun e => HL4.out.neM _ e.symm) (fun e => by have := H4.out.st.lt; omega)) (by rw [hp.out]; simp only [List.nil_append, List.cons_append, sizes, sizes_append, size_mk]; omega) (by simp only [List.nil_append, List.cons_append, List.length_cons, ← HI.out]; omega)).mono ?_; rintro e w6 ⟨σ6, rfl, H6⟩; rw [hp.out])
      | (at_builtin; refine wpList_kapp2 rfl _ _ rfl w3.heap.size _ 1 i _ _ _ _ w4 HL4.out.row (by omega) hbs4 HO.out.row rfl (by rfl) (by omega) ?_; intro g5 c5' w5 HK5 HB5 HG5; have H5 := Lib.hid (To.kapp H4.out HL4.out H3.out.but.size HB5.out))
      | (go_at_call 93; refine (row_at HE.out H3.out _ ((Below.refl _ _).alloc (Nat.le_refl _) _) (by rw [hp.out, hSz.out]; simp only [List.nil_append, List.cons_append, sizes, size_mk]; omega) hd 3 (by omega) (by omega)).mono ?_; rintro e w4 ⟨bl, σ4, i, p5, c5, rfl, hi, hin, H4, H4', HO, HEA, HBZ⟩; have HI := Lib.hid hi; clear hi; rw [hp.out] at HO; have hz3 : sizes bl ≤ 3 * S := Nat.le_trans HBZ.out (by rw [hSz.out]; exact Nat.mul_le_mul_right S (by omega)); have HL4 := Lib.hid ((Ow.lit H3.out.st ((p : Int) + ((sizes [] : Nat) : Int))).to H4'.out); have hbs4 : w3.heap.size ≤ w4.heap.size := Nat.le_trans ((Below.refl w3.heap.size w3).alloc (Nat.le_refl _) (.cells #[.int .i64 ((p : Int) + ((sizes [] : Nat) : Int))] 3)).size H4'.out.but.size)
      | (go_at_call 25; refine (leaf_at H2.out w2 (Below.refl _ _) (6) 0 ⟨x.toArray⟩ (by rw [hp.out]; simp only [List.nil_append, List.cons_append, sizes, size_mk]; omega)).mono ?_; rintro e w3 ⟨σ3, rfl, H3, H3'⟩; rw [hp.out])
      | (go_at_call 23; refine (next_at H1.out _ ((Below.refl _ _).alloc (Nat.le_refl _) _) 3 (by omega) (by omega)).mono ?_; rintro e w2 ⟨r2, σ2, rfl, hr2, H2, H2'⟩; obtain ⟨x, hx, hc⟩ := pick_text H1.out.st H2'.out fgk rfl r2 (by show r2 < 3; omega); have HX := Lib.hid hx; clear hx))
    go_ret
    refine ⟨_, σ6, ?_, H6, EOk.call _ _ (by simp) (by
      intro y hy
      simp only [List.nil_append, List.cons_append, List.mem_cons] at hy
      rcases hy with rfl | hy
      · exact EOk.name _ _ (Or.inl (fgk_nm8 x HX.out))
      · exact HEA.out y hy), by rw [size_mk]; simp only [List.nil_append, List.cons_append, sizes, sizes_append, size_mk]; omega⟩
    rw [size_mk]; rfl
  · clear c3 hl0 hlf hd0
    go_wp2_with (first
      | (go_at_call 25; refine (add_at H5.out w5 (Below.refl _ _) 17 0 ⟨#[]⟩ _ (by rw [hp.out]; have := own_krowI HK5.out; simpa [rootsA, sizes, size_mk, Nat.add_assoc] using this) (fun _ g e => by simp only [Value.ownBlock, Option.some.injEq] at e; subst e; exact HG5.out.2.elim (fun e => HL4.out.neM _ e.symm) (fun e => by have := H4.out.st.lt; omega)) (by rw [hp.out]; simp only [List.nil_append, List.cons_append, sizes, sizes_append, size_mk]; omega) (by simp only [List.nil_append, List.cons_append, List.length_cons, ← HI.out]; omega)).mono ?_; rintro e w6 ⟨σ6, rfl, H6⟩; rw [hp.out])
      | (at_builtin; refine wpList_kapp2 rfl _ _ rfl w3.heap.size _ 1 i _ _ _ _ w4 HL4.out.row (by omega) hbs4 HO.out.row rfl (by rfl) (by omega) ?_; intro g5 c5' w5 HK5 HB5 HG5; have H5 := Lib.hid (To.kapp H4.out HL4.out H3.out.but.size HB5.out))
      | (go_at_call 93; refine (row_at HE.out H3.out _ ((Below.refl _ _).alloc (Nat.le_refl _) _) (by rw [hp.out, hSz.out]; simp only [List.nil_append, List.cons_append, sizes, size_mk]; omega) hd 3 (by omega) (by omega)).mono ?_; rintro e w4 ⟨bl, σ4, i, p5, c5, rfl, hi, hin, H4, H4', HO, HEA, HBZ⟩; have HI := Lib.hid hi; clear hi; rw [hp.out] at HO; have hz3 : sizes bl ≤ 3 * S := Nat.le_trans HBZ.out (by rw [hSz.out]; exact Nat.mul_le_mul_right S (by omega)); have HL4 := Lib.hid ((Ow.lit H3.out.st ((p : Int) + ((sizes [] : Nat) : Int))).to H4'.out); have hbs4 : w3.heap.size ≤ w4.heap.size := Nat.le_trans ((Below.refl w3.heap.size w3).alloc (Nat.le_refl _) (.cells #[.int .i64 ((p : Int) + ((sizes [] : Nat) : Int))] 3)).size H4'.out.but.size)
      | (go_at_call 25; refine (leaf_at H2.out w2 (Below.refl _ _) (6) 0 ⟨x.toArray⟩ (by rw [hp.out]; simp only [List.nil_append, List.cons_append, sizes, size_mk]; omega)).mono ?_; rintro e w3 ⟨σ3, rfl, H3, H3'⟩; rw [hp.out])
      | (go_at_call 23; refine (next_at H1.out _ ((Below.refl _ _).alloc (Nat.le_refl _) _) 3 (by omega) (by omega)).mono ?_; rintro e w2 ⟨r2, σ2, rfl, hr2, H2, H2'⟩; obtain ⟨x, hx, hc⟩ := pick_text H1.out.st H2'.out fgk rfl r2 (by show r2 < 3; omega); have HX := Lib.hid hx; clear hx))
    go_ret
    refine ⟨_, σ6, ?_, H6, EOk.call _ _ (by simp) (by
      intro y hy
      simp only [List.nil_append, List.cons_append, List.mem_cons] at hy
      rcases hy with rfl | hy
      · exact EOk.name _ _ (Or.inl (fgk_nm8 x HX.out))
      · exact HEA.out y hy), by rw [size_mk]; simp only [List.nil_append, List.cons_append, sizes, sizes_append, size_mk]; omega⟩
    rw [size_mk]; rfl
  · clear c3 hl0 hlf hd0
    go_wp2_with (first
      | (go_at_call 25; refine (add_at H5.out w5 (Below.refl _ _) 17 0 ⟨#[]⟩ _ (by rw [hp.out]; have := own_krowI HK5.out; simpa [rootsA, sizes, size_mk, Nat.add_assoc] using this) (fun _ g e => by simp only [Value.ownBlock, Option.some.injEq] at e; subst e; exact HG5.out.2.elim (fun e => HL4.out.neM _ e.symm) (fun e => by have := H4.out.st.lt; omega)) (by rw [hp.out]; simp only [List.nil_append, List.cons_append, sizes, sizes_append, size_mk]; omega) (by simp only [List.nil_append, List.cons_append, List.length_cons, ← HI.out]; omega)).mono ?_; rintro e w6 ⟨σ6, rfl, H6⟩; rw [hp.out])
      | (at_builtin; refine wpList_kapp2 rfl _ _ rfl w3.heap.size _ 1 i _ _ _ _ w4 HL4.out.row (by omega) hbs4 HO.out.row rfl (by rfl) (by omega) ?_; intro g5 c5' w5 HK5 HB5 HG5; have H5 := Lib.hid (To.kapp H4.out HL4.out H3.out.but.size HB5.out))
      | (go_at_call 93; refine (row_at HE.out H3.out _ ((Below.refl _ _).alloc (Nat.le_refl _) _) (by rw [hp.out, hSz.out]; simp only [List.nil_append, List.cons_append, sizes, size_mk]; omega) hd 3 (by omega) (by omega)).mono ?_; rintro e w4 ⟨bl, σ4, i, p5, c5, rfl, hi, hin, H4, H4', HO, HEA, HBZ⟩; have HI := Lib.hid hi; clear hi; rw [hp.out] at HO; have hz3 : sizes bl ≤ 3 * S := Nat.le_trans HBZ.out (by rw [hSz.out]; exact Nat.mul_le_mul_right S (by omega)); have HL4 := Lib.hid ((Ow.lit H3.out.st ((p : Int) + ((sizes [] : Nat) : Int))).to H4'.out); have hbs4 : w3.heap.size ≤ w4.heap.size := Nat.le_trans ((Below.refl w3.heap.size w3).alloc (Nat.le_refl _) (.cells #[.int .i64 ((p : Int) + ((sizes [] : Nat) : Int))] 3)).size H4'.out.but.size)
      | (go_at_call 25; refine (leaf_at H2.out w2 (Below.refl _ _) (6) 0 ⟨x.toArray⟩ (by rw [hp.out]; simp only [List.nil_append, List.cons_append, sizes, size_mk]; omega)).mono ?_; rintro e w3 ⟨σ3, rfl, H3, H3'⟩; rw [hp.out])
      | (go_at_call 23; refine (next_at H1.out _ ((Below.refl _ _).alloc (Nat.le_refl _) _) 3 (by omega) (by omega)).mono ?_; rintro e w2 ⟨r2, σ2, rfl, hr2, H2, H2'⟩; obtain ⟨x, hx, hc⟩ := pick_text H1.out.st H2'.out fgk rfl r2 (by show r2 < 3; omega); have HX := Lib.hid hx; clear hx))
    go_ret
    refine ⟨_, σ6, ?_, H6, EOk.call _ _ (by simp) (by
      intro y hy
      simp only [List.nil_append, List.cons_append, List.mem_cons] at hy
      rcases hy with rfl | hy
      · exact EOk.name _ _ (Or.inl (fgk_nm8 x HX.out))
      · exact HEA.out y hy), by rw [size_mk]; simp only [List.nil_append, List.cons_append, sizes, sizes_append, size_mk]; omega⟩
    rw [size_mk]; rfl
  · clear c3 hl0 hlf hd0
    go_wp2_with (first
      | (go_at_call 25; refine (add_at H5.out w5 (Below.refl _ _) 17 0 ⟨#[]⟩ _ (by rw [hp.out]; have := own_krowI HK5.out; simpa [rootsA, sizes, size_mk, Nat.add_assoc] using this) (fun _ g e => by simp only [Value.ownBlock, Option.some.injEq] at e; subst e; exact HG5.out.2.elim (fun e => HL4.out.neM _ e.symm) (fun e => by have := H4.out.st.lt; omega)) (by rw [hp.out]; simp only [List.nil_append, List.cons_append, sizes, sizes_append, size_mk]; omega) (by simp only [List.nil_append, List.cons_append, List.length_cons, ← HI.out]; omega)).mono ?_; rintro e w6 ⟨σ6, rfl, H6⟩; rw [hp.out])
      | (at_builtin; refine wpList_kapp2 rfl _ _ rfl w3.heap.size _ 1 i _ _ _ _ w4 HL4.out.row (by omega) hbs4 HO.out.row rfl (by rfl) (by omega) ?_; intro g5 c5' w5 HK5 HB5 HG5; have H5 := Lib.hid (To.kapp H4.out HL4.out H3.out.but.size HB5.out))
      | (go_at_call 93; refine (row_at HE.out H3.out _ ((Below.refl _ _).alloc (Nat.le_refl _) _) (by rw [hp.out, hSz.out]; simp only [List.nil_append, List.cons_append, sizes, size_mk]; omega) hd 3 (by omega) (by omega)).mono ?_; rintro e w4 ⟨bl, σ4, i, p5, c5, rfl, hi, hin, H4, H4', HO, HEA, HBZ⟩; have HI := Lib.hid hi; clear hi; rw [hp.out] at HO; have hz3 : sizes bl ≤ 3 * S := Nat.le_trans HBZ.out (by rw [hSz.out]; exact Nat.mul_le_mul_right S (by omega)); have HL4 := Lib.hid ((Ow.lit H3.out.st ((p : Int) + ((sizes [] : Nat) : Int))).to H4'.out); have hbs4 : w3.heap.size ≤ w4.heap.size := Nat.le_trans ((Below.refl w3.heap.size w3).alloc (Nat.le_refl _) (.cells #[.int .i64 ((p : Int) + ((sizes [] : Nat) : Int))] 3)).size H4'.out.but.size)
      | (go_at_call 25; refine (leaf_at H2.out w2 (Below.refl _ _) (6) 0 ⟨x.toArray⟩ (by rw [hp.out]; simp only [List.nil_append, List.cons_append, sizes, size_mk]; omega)).mono ?_; rintro e w3 ⟨σ3, rfl, H3, H3'⟩; rw [hp.out])
      | (go_at_call 23; refine (next_at H1.out _ ((Below.refl _ _).alloc (Nat.le_refl _) _) 3 (by omega) (by omega)).mono ?_; rintro e w2 ⟨r2, σ2, rfl, hr2, H2, H2'⟩; obtain ⟨x, hx, hc⟩ := pick_text H1.out.st H2'.out fgk rfl r2 (by show r2 < 3; omega); have HX := Lib.hid hx; clear hx))
    go_ret
    refine ⟨_, σ6, ?_, H6, EOk.call _ _ (by simp) (by
      intro y hy
      simp only [List.nil_append, List.cons_append, List.mem_cons] at hy
      rcases hy with rfl | hy
      · exact EOk.name _ _ (Or.inl (fgk_nm8 x HX.out))
      · exact HEA.out y hy), by rw [size_mk]; simp only [List.nil_append, List.cons_append, sizes, sizes_append, size_mk]; omega⟩
    rw [size_mk]; rfl
  · clear c3 hl0 hlf hd0
    go_wp2_with (first
      | (go_at_call 25; refine (add_at H5.out w5 (Below.refl _ _) 17 0 ⟨#[]⟩ _ (by rw [hp.out]; have := own_krowI HK5.out; simpa [rootsA, sizes, size_mk, Nat.add_assoc] using this) (fun _ g e => by simp only [Value.ownBlock, Option.some.injEq] at e; subst e; exact HG5.out.2.elim (fun e => HL4.out.neM _ e.symm) (fun e => by have := H4.out.st.lt; omega)) (by rw [hp.out]; simp only [List.nil_append, List.cons_append, sizes, sizes_append, size_mk]; omega) (by simp only [List.nil_append, List.cons_append, List.length_cons, ← HI.out]; omega)).mono ?_; rintro e w6 ⟨σ6, rfl, H6⟩; rw [hp.out])
      | (at_builtin; refine wpList_kapp2 rfl _ _ rfl w3.heap.size _ 1 i _ _ _ _ w4 HL4.out.row (by omega) hbs4 HO.out.row rfl (by rfl) (by omega) ?_; intro g5 c5' w5 HK5 HB5 HG5; have H5 := Lib.hid (To.kapp H4.out HL4.out H3.out.but.size HB5.out))
      | (go_at_call 93; refine (row_at HE.out H3.out _ ((Below.refl _ _).alloc (Nat.le_refl _) _) (by rw [hp.out, hSz.out]; simp only [List.nil_append, List.cons_append, sizes, size_mk]; omega) hd 3 (by omega) (by omega)).mono ?_; rintro e w4 ⟨bl, σ4, i, p5, c5, rfl, hi, hin, H4, H4', HO, HEA, HBZ⟩; have HI := Lib.hid hi; clear hi; rw [hp.out] at HO; have hz3 : sizes bl ≤ 3 * S := Nat.le_trans HBZ.out (by rw [hSz.out]; exact Nat.mul_le_mul_right S (by omega)); have HL4 := Lib.hid ((Ow.lit H3.out.st ((p : Int) + ((sizes [] : Nat) : Int))).to H4'.out); have hbs4 : w3.heap.size ≤ w4.heap.size := Nat.le_trans ((Below.refl w3.heap.size w3).alloc (Nat.le_refl _) (.cells #[.int .i64 ((p : Int) + ((sizes [] : Nat) : Int))] 3)).size H4'.out.but.size)
      | (go_at_call 25; refine (leaf_at H2.out w2 (Below.refl _ _) (6) 0 ⟨t2.toArray⟩ (by rw [hp.out]; simp only [List.nil_append, List.cons_append, sizes, size_mk]; omega)).mono ?_; rintro e w3 ⟨σ3, rfl, H3, H3'⟩; rw [hp.out])
      | (go_at_call 94; refine (global_at H1.out w1 (Below.refl _ _)).mono ?_; rintro e w2 ⟨t2, σ2, rfl, ht2, H2, _⟩; have HN := Lib.hid ht2; clear ht2))
    go_ret
    refine ⟨_, σ6, ?_, H6, EOk.call _ _ (by simp) (by
      intro y hy
      simp only [List.nil_append, List.cons_append, List.mem_cons] at hy
      rcases hy with rfl | hy
      · exact EOk.name _ _ (Or.inr HN.out)
      · exact HEA.out y hy), by rw [size_mk]; simp only [List.nil_append, List.cons_append, sizes, sizes_append, size_mk]; omega⟩
    rw [size_mk]; rfl
  · clear c3 hl0 hlf hd0
    go_wp2_with (first
      | (go_at_call 25; refine (add_at H5.out w5 (Below.refl _ _) 17 0 ⟨#[]⟩ _ (by rw [hp.out]; have := own_krowI HK5.out; simpa [rootsA, sizes, size_mk, Nat.add_assoc] using this) (fun _ g e => by simp only [Value.ownBlock, Option.some.injEq] at e; subst e; exact HG5.out.2.elim (fun e => HL4.out.neM _ e.symm) (fun e => by have := H4.out.st.lt; omega)) (by rw [hp.out]; simp only [List.nil_append, List.cons_append, sizes, sizes_append, size_mk]; omega) (by simp only [List.nil_append, List.cons_append, List.length_cons, ← HI.out]; omega)).mono ?_; rintro e w6 ⟨σ6, rfl, H6⟩; rw [hp.out])
      | (at_builtin; refine wpList_kapp2 rfl _ _ rfl w3.heap.size _ 1 i _ _ _ _ w4 HL4.out.row (by omega) hbs4 HO.out.row rfl (by rfl) (by omega) ?_; intro g5 c5' w5 HK5 HB5 HG5; have H5 := Lib.hid (To.kapp H4.out HL4.out H3.out.but.size HB5.out))
      | (go_at_call 93; refine (row_at HE.out H3.out _ ((Below.refl _ _).alloc (Nat.le_refl _) _) (by rw [hp.out, hSz.out]; simp only [List.nil_append, List.cons_append, sizes, size_mk]; omega) hd 3 (by omega) (by omega)).mono ?_; rintro e w4 ⟨bl, σ4, i, p5, c5, rfl, hi, hin, H4, H4', HO, HEA, HBZ⟩; have HI := Lib.hid hi; clear hi; rw [hp.out] at HO; have hz3 : sizes bl ≤ 3 * S := Nat.le_trans HBZ.out (by rw [hSz.out]; exact Nat.mul_le_mul_right S (by omega)); have HL4 := Lib.hid ((Ow.lit H3.out.st ((p : Int) + ((sizes [] : Nat) : Int))).to H4'.out); have hbs4 : w3.heap.size ≤ w4.heap.size := Nat.le_trans ((Below.refl w3.heap.size w3).alloc (Nat.le_refl _) (.cells #[.int .i64 ((p : Int) + ((sizes [] : Nat) : Int))] 3)).size H4'.out.but.size)
      | (go_at_call 25; refine (leaf_at H2.out w2 (Below.refl _ _) (6) 0 ⟨t2.toArray⟩ (by rw [hp.out]; simp only [List.nil_append, List.cons_append, sizes, size_mk]; omega)).mono ?_; rintro e w3 ⟨σ3, rfl, H3, H3'⟩; rw [hp.out])
      | (go_at_call 94; refine (global_at H1.out w1 (Below.refl _ _)).mono ?_; rintro e w2 ⟨t2, σ2, rfl, ht2, H2, _⟩; have HN := Lib.hid ht2; clear ht2))
    go_ret
    refine ⟨_, σ6, ?_, H6, EOk.call _ _ (by simp) (by
      intro y hy
      simp only [List.nil_append, List.cons_append, List.mem_cons] at hy
      rcases hy with rfl | hy
      · exact EOk.name _ _ (Or.inr HN.out)
      · exact HEA.out y hy), by rw [size_mk]; simp only [List.nil_append, List.cons_append, sizes, sizes_append, size_mk]; omega⟩
    rw [size_mk]; rfl
end Go.Proofs.YtkmmcphiijolkaaGreatDoor

set_option linter.unusedVariables false
set_option linter.unusedSimpArgs false
namespace Go.Proofs.YtkmmcphiijolkaaGreatDoor
open Go.RowKit Go.Shelf
open Tr

set_option maxHeartbeats 4000000 in
set_option maxRecDepth 100000 in
theorem exprD_of {base M : Nat} {vs : Value} {s : List Int} {d : Nat} (hE : ExprC base M vs s d) (hE0 : ExprC base M vs s 0) (σ : St) (w : World) (hS : MkS base M vs s σ w) (hP : σ.P.length + sz (d + 1) ≤ 1000000) (hd : d ≤ 100) (hlf : σ.P.length < 160)
    (hnext : Calls Tryz.prog 23 #[.pointer (some ⟨M, 0, none⟩), .int .i64 30] w fun e w' => ∃ (r : Nat) (σ' : St), e = .returned (.int .i64 (r : Int)) ∧ (r = 27 ∨ r = 28 ∨ r = 29) ∧ Hid (To base M vs s σ w σ' w' [])) :
    Calls Tryz.prog 47 #[.pointer (some ⟨M, 0, none⟩), .int .i64 ((d : Int) + 1)] w fun e w' => ∃ (a : Ast) (σ' : St), e = .returned (.int .i64 ((σ.P.length + a.size - 1 : Nat) : Int)) ∧ Hid (To base M vs s σ w σ' w' [a]) ∧ EOk (d + 1) a ∧ a.size < sz (d + 1) := by
  have HE := Lib.hid hE
  have HE0 := Lib.hid hE0
  have hz4 := sz_pos d
  obtain ⟨S, hSz⟩ := hid_ex (sz d)
  have HZ : Hid (sz (d + 1) = 4 * S) := (show _ = _ by rw [← hSz.out]; rfl)
  rw [HZ.out] at hP ⊢
  rw [hSz.out] at hz4
  have hdw : IntKind.i64.wrap ((d : Int) + 1 - 1) = (d : Int) + 1 - 1 := IntWalk.i64_in _ (by omega)
  obtain ⟨p, hp⟩ := hid_ex σ.P.length
  rw [hp.out] at hP hlf ⊢
  have hd0 : ¬ (d : Int) + 1 ≤ 0 := by omega
  have hl0 : ¬ 160 - (p : Int) ≤ 0 := by omega
  clear hS hE hE0
  go_enter Tryz.func47, Tryz.ntmps47
  go_upto_region 4 with (go_at_call 23; refine hnext.mono ?_; clear hnext; rintro e w1 ⟨r, σ1, rfl, hr, H1⟩; have c3 := H1.out.st.cell 3; simp only [List.getElem?_toArray, List.getElem?_cons_succ, List.getElem?_cons_zero] at c3; rw [H1.out.len, hp.out] at c3; simp only [sizes, Nat.add_zero] at c3)
  rcases hr with rfl | rfl | rfl
  · clear c3 hl0 hlf hd0
    go_wp2_with (first
      | (go_at_call 25; have hl := lit_at H4.out #[.int .i64 ((p + sizes [] + a.size - 1 : Nat) : Int), .int .i64 ((p + sizes ([] ++ [a]) + b.size - 1 : Nat) : Int), .int .i64 ((p : Int) + ((sizes ([] ++ [a] ++ [b]) : Nat) : Int))] (by rw [hp.out]; simp [rootsA, sizes, Ast.size, Nat.add_assoc]; omega) 3 rfl; refine (add_at H4.out _ ((Below.refl _ _).alloc (Nat.le_refl _) _) (20) 0 ⟨#[]⟩ _ hl.1 (fun _ => hl.2) (by rw [hp.out]; simp only [List.nil_append, List.cons_append, sizes, size_mk]; omega) (by simp)).mono ?_; rintro e w5 ⟨σ5, rfl, H5⟩; rw [hp.out])
      | (go_at_call 25; refine (leaf_at H3.out w3 (Below.refl _ _) (1) 0 ⟨#[]⟩ (by rw [hp.out]; simp only [List.nil_append, List.cons_append, sizes, size_mk]; omega)).mono ?_; rintro e w4 ⟨σ4, rfl, H4, H4'⟩; rw [hp.out])
      | (go_at_call 47; refine (expr_at (d := 0) HE0.out H2.out w2 (Below.refl _ _) (by rw [hp.out]; show _ + 4 ≤ _; simp only [List.nil_append, List.cons_append, sizes, size_mk]; omega)).mono ?_; rintro e w3 ⟨b, σ3, rfl, H3, HA3, ha3, H3'⟩; rw [hp.out]; have ha3b : b.size < 4 := ha3)
      | (go_at_call 47; refine (expr_at (d := d) HE.out H1.out w1 (Below.refl _ _) (by rw [hp.out, hSz.out]; simp only [List.nil_append, List.cons_append, sizes, size_mk]; omega)).mono ?_; rintro e w2 ⟨a, σ2, rfl, H2, HA2, ha2, H2'⟩; rw [hp.out]; rw [hSz.out] at ha2))
    go_ret
    refine ⟨_, σ5, ?_, H5, EOk.three _ _ _ _ _ (by omega) HA2 (HA3.le (Nat.zero_le _)) (EOk.lit _ _ (Or.inl rfl)), by rw [size_mk]; simp only [List.nil_append, List.cons_append, sizes, size_mk]; omega⟩
    rw [size_mk]; rfl
  · clear c3 hl0 hlf hd0
    go_wp2_with (first
      | (go_at_call 25; have hl := lit_at H4.out #[.int .i64 ((p + sizes [] + a.size - 1 : Nat) : Int), .int .i64 ((p + sizes ([] ++ [a]) + b.size - 1 : Nat) : Int), .int .i64 ((p + sizes ([] ++ [a] ++ [b]) + c.size - 1 : Nat) : Int)] (by rw [hp.out]; simp [rootsA, sizes, Nat.add_assoc]) 3 rfl; refine (add_at H4.out _ ((Below.refl _ _).alloc (Nat.le_refl _) _) (16) 0 ⟨#[]⟩ _ hl.1 (fun _ => hl.2) (by rw [hp.out]; simp only [List.nil_append, List.cons_append, sizes, size_mk]; omega) (by simp)).mono ?_; rintro e w5 ⟨σ5, rfl, H5⟩; rw [hp.out])
      | (go_at_call 47; refine (expr_at (d := d) HE.out H3.out w3 (Below.refl _ _) (by rw [hp.out, hSz.out]; simp only [List.nil_append, List.cons_append, sizes, size_mk]; omega)).mono ?_; rintro e w4 ⟨c, σ4, rfl, H4, HA4, ha4, H4'⟩; rw [hp.out]; rw [hSz.out] at ha4)
      | (go_at_call 47; refine (expr_at (d := d) HE.out H2.out w2 (Below.refl _ _) (by rw [hp.out, hSz.out]; simp only [List.nil_append, List.cons_append, sizes, size_mk]; omega)).mono ?_; rintro e w3 ⟨b, σ3, rfl, H3, HA3, ha3, H3'⟩; rw [hp.out]; rw [hSz.out] at ha3)
      | (go_at_call 47; refine (expr_at (d := d) HE.out H1.out w1 (Below.refl _ _) (by rw [hp.out, hSz.out]; simp only [List.nil_append, List.cons_append, sizes, size_mk]; omega)).mono ?_; rintro e w2 ⟨a, σ2, rfl, H2, HA2, ha2, H2'⟩; rw [hp.out]; rw [hSz.out] at ha2))
    go_ret
    refine ⟨_, σ5, ?_, H5, EOk.three _ _ _ _ _ (by omega) HA2 HA3 HA4, by rw [size_mk]; simp only [List.nil_append, List.cons_append, sizes, size_mk]; omega⟩
    rw [size_mk]; rfl
  · clear c3 hl0 hlf hd0
    go_wp2_with (first
      | (go_at_call 25; have hl := lit_at H4.out #[.int .i64 ((p : Int) + ((sizes [] : Nat) : Int)), .int .i64 ((p + sizes ([] ++ [Ast.mk 22 (⟨t2.toArray⟩ : ByteArray).data.toList 0 []]) + a.size - 1 : Nat) : Int)] (by rw [hp.out]; simp [rootsA, sizes, Ast.size, Nat.add_assoc]) 2 rfl; refine (add_at H4.out _ ((Below.refl _ _).alloc (Nat.le_refl _) _) (21) 0 ⟨#[]⟩ _ hl.1 (fun _ => hl.2) (by rw [hp.out]; simp only [List.nil_append, List.cons_append, sizes, size_mk]; omega) (by simp)).mono ?_; rintro e w5 ⟨σ5, rfl, H5⟩; rw [hp.out])
      | (go_at_call 47; refine (expr_at (d := d) HE.out H3.out w3 (Below.refl _ _) (by rw [hp.out, hSz.out]; simp only [List.nil_append, List.cons_append, sizes, size_mk]; omega)).mono ?_; rintro e w4 ⟨a, σ4, rfl, H4, HA4, ha4, H4'⟩; rw [hp.out]; rw [hSz.out] at ha4)
      | (go_at_call 25; refine (leaf_at H2.out w2 (Below.refl _ _) (22) 0 ⟨t2.toArray⟩ (by rw [hp.out]; simp only [List.nil_append, List.cons_append, sizes, size_mk]; omega)).mono ?_; rintro e w3 ⟨σ3, rfl, H3, H3'⟩; rw [hp.out])
      | (go_at_call 91; refine (name_at H1.out w1 (Below.refl _ _)).mono ?_; rintro e w2 ⟨t2, σ2, rfl, ht2, H2, _⟩; have HN := Lib.hid ht2; clear ht2))
    go_ret
    refine ⟨.mk 21 [] 0 [.mk 22 t2 0 [], a], σ5, ?_, (by have := H5; simpa using this), EOk.lam _ _ _ HN.out HA4, by rw [size_mk]; simp only [List.nil_append, List.cons_append, sizes, size_mk]; omega⟩
    rw [size_mk]; simp [sizes, size_mk]
end Go.Proofs.YtkmmcphiijolkaaGreatDoor
