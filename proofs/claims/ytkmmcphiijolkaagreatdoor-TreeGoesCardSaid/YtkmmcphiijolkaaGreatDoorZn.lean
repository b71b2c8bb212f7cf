/-
  Texts of the tree package put behind one another: MkHf, MkHg, MkHl, MkN.
-/
import Derived.Test.YtkmmcphiijolkaaGreatDoorZk
import Derived.Test.YtkmmcphiijolkaaGreatDoorZl
import Derived.Test.YtkmmcphiijolkaaGreatDoorZm
set_option linter.unusedVariables false
set_option linter.unusedSimpArgs false
namespace Go.Proofs.YtkmmcphiijolkaaGreatDoor
open Go.RowKit Go.Shelf
open Tr

set_option maxHeartbeats 4000000 in
set_option maxRecDepth 100000 in
theorem exprF_of {base M : Nat} {vs : Value} {s : List Int} {d : Nat} (hE : ExprC base M vs s d) (hE0 : ExprC base M vs s 0) (σ : St) (w : World) (hS : MkS base M vs s σ w) (hP : σ.P.length + sz (d + 1) ≤ 1000000) (hd : d ≤ 100) (hlf : σ.P.length < 160)
    (hnext : Calls Tryz.prog 23 #[.pointer (some ⟨M, 0, none⟩), .int .i64 30] w fun e w' => ∃ (r : Nat) (σ' : St), e = .returned (.int .i64 (r : Int)) ∧ (r = 11 ∨ r = 13 ∨ r = 26) ∧ Hid (To base M vs s σ w σ' w' [])) :
    Calls Tryz.prog 47 #[.pointer (some ⟨M, 0, none⟩), .int .i64 ((d : Int) + 1)] w fun e w' => ∃ (a : Ast) (σ' : St), e = .returned (.int .i64 ((σ.P.length + a.size - 1 : Nat) : Int)) ∧ Hid (To base M vs s σ w σ' w' [a]) ∧ EOk (d + 1) a ∧ a.size < sz (d + 1) := by
  have HE := Lib.hid hE
  have HE0 := Lib.hid hE0
  have hz4 := sz_pos d
  obtain ⟨S, hSz⟩ := hid_ex (sz d)
  have HZ : Hid (sz (d + 1) = 4 * S) := (show _ = _ by rw [← hSz.out]; rfl)
  rw [HZ.out] at hP ⊢
  rw [hSz.out] at hz4
  have hdw : IntKind.i64.wrap ((d : Int) + 1 - 1) = (d : Int) + 1 - 1 := IntWalk.i64_in _ (by omega)
  obtain ⟨p, hp⟩ := hid_ex σ.P.length
  rw [hp.out] at hP hlf ⊢
  have hd0 : ¬ (d : Int) + 1 ≤ 0 := by omega
  have hl0 : ¬ 160 - (p : Int) ≤ 0 := by omega
  clear hS hE hE0
  go_enter Tryz.func47, Tryz.ntmps47
  go_upto_region 4 with (go_at_call 23; refine hnext.mono ?_; clear hnext; rintro e w1 ⟨r, σ1, rfl, hr, H1⟩; have c3 := H1.out.st.cell 3; simp only [List.getElem?_toArray, List.getElem?_cons_succ, List.getElem?_cons_zero] at c3; rw [H1.out.len, hp.out] at c3; simp only [sizes, Nat.add_zero] at c3)
  rcases hr with rfl | rfl | rfl
  · clear c3 hl0 hlf hd0
    go_wp2_with (first
      | (go_at_call 92; refine (two_at HE.out H1.out w1 (Below.refl _ _) (by rw [hp.out, hSz.out]; exact hP) hd (15) ⟨#[]⟩).mono ?_; rintro e w2 ⟨a, b, σ2, rfl, H2, HA, HB, hs2⟩; rw [hp.out]; rw [hSz.out] at hs2))
    go_ret
    exact ⟨_, σ2, rfl, H2, EOk.pair _ _ _ _ (by omega) HA HB, hs2⟩
  · clear c3 hl0 hlf hd0
    go_wp2_with (first
      | (go_at_call 25; have hl := lit_at H2.out #[.int .i64 ((p + sizes [] + a.size - 1 : Nat) : Int)] (by rw [hp.out]; simp [rootsA, sizes]) 1 rfl; refine (add_at H2.out _ ((Below.refl _ _).alloc (Nat.le_refl _) _) (10) 0 ⟨#[]⟩ _ hl.1 (fun _ => hl.2) (by rw [hp.out]; simp only [List.nil_append, List.cons_append, sizes, size_mk]; omega) (by simp)).mono ?_; rintro e w3 ⟨σ3, rfl, H3⟩; rw [hp.out])
      | (go_at_call 47; refine (expr_at (d := d) HE.out H1.out w1 (Below.refl _ _) (by rw [hp.out, hSz.out]; simp only [List.nil_append, List.cons_append, sizes, size_mk]; omega)).mono ?_; rintro e w2 ⟨a, σ2, rfl, H2, HA2, ha2, H2'⟩; rw [hp.out]; rw [hSz.out] at ha2))
    go_ret
    refine ⟨_, σ3, ?_, H3, EOk.one _ _ _ (by omega) HA2, by rw [size_mk]; simp only [List.nil_append, List.cons_append, sizes, size_mk]; omega⟩
    rw [size_mk]; rfl
  · clear c3 hl0 hlf hd0
    go_wp2_with (first
      | (go_at_call 92; refine (two_at HE.out H1.out w1 (Below.refl _ _) (by rw [hp.out, hSz.out]; exact hP) hd (19) ⟨#[]⟩).mono ?_; rintro e w2 ⟨a, b, σ2, rfl, H2, HA, HB, hs2⟩; rw [hp.out]; rw [hSz.out] at hs2))
    go_ret
    exact ⟨_, σ2, rfl, H2, EOk.pair _ _ _ _ (by omega) HA HB, hs2⟩
end Go.Proofs.YtkmmcphiijolkaaGreatDoor

set_option linter.unusedVariables false
set_option linter.unusedSimpArgs false
namespace Go.Proofs.YtkmmcphiijolkaaGreatDoor
open Go.RowKit Go.Shelf
open Tr

set_option maxHeartbeats 8000000 in
set_option maxRecDepth 100000 in
theorem exprG_of {base M : Nat} {vs : Value} {s : List Int} {d : Nat} (hE : ExprC base M vs s d) (hE0 : ExprC base M vs s 0) (σ : St) (w : World) (hS : MkS base M vs s σ w) (hP : σ.P.length + sz (d + 1) ≤ 1000000) (hd : d ≤ 100) (hlf : σ.P.length < 160)
    (hnext : Calls Tryz.prog 23 #[.pointer (some ⟨M, 0, none⟩), .int .i64 30] w fun e w' => ∃ (r : Nat) (σ' : St), e = .returned (.int .i64 (r : Int)) ∧ (r = 17) ∧ Hid (To base M vs s σ w σ' w' [])) :
    Calls Tryz.prog 47 #[.pointer (some ⟨M, 0, none⟩), .int .i64 ((d : Int) + 1)] w fun e w' => ∃ (a : Ast) (σ' : St), e = .returned (.int .i64 ((σ.P.length + a.size - 1 : Nat) : Int)) ∧ Hid (To base M vs s σ w σ' w' [a]) ∧ EOk (d + 1) a ∧ a.size < sz (d + 1) := by
  have HE := Lib.hid hE
  have HE0 := Lib.hid hE0
  have hbw : base ≤ w.heap.size := by have := hS.hb; have := hS.lt; omega
  have hz4 := sz_pos d
  obtain ⟨S, hSz⟩ := hid_ex (sz d)
  have HZ : Hid (sz (d + 1) = 4 * S) := (show _ = _ by rw [← hSz.out]; rfl)
  rw [HZ.out] at hP ⊢
  rw [hSz.out] at hz4
  have hdw : IntKind.i64.wrap ((d : Int) + 1 - 1) = (d : Int) + 1 - 1 := IntWalk.i64_in _ (by omega)
  obtain ⟨p, hp⟩ := hid_ex σ.P.length
  rw [hp.out] at hP hlf ⊢
  have hd0 : ¬ (d : Int) + 1 ≤ 0 := by omega
  have hl0 : ¬ 160 - (p : Int) ≤ 0 := by omega
  clear hS hE hE0
  go_enter Tryz.func47, Tryz.ntmps47
  go_upto_region 4 with (go_at_call 23; refine hnext.mono ?_; clear hnext; rintro e w1 ⟨r, σ1, rfl, hr, H1⟩; have c3 := H1.out.st.cell 3; simp only [List.getElem?_toArray, List.getElem?_cons_succ, List.getElem?_cons_zero] at c3; rw [H1.out.len, hp.out] at c3; simp only [sizes, Nat.add_zero] at c3)
  obtain rfl := hr
  clear c3 hl0 hlf hd0
  go_wp2_with (go_at_call 23; refine (next_at H1.out w1 (Below.refl _ _) 3 (by omega) (by omega)).mono ?_; rintro e w2 ⟨r, σ2, rfl, hr, H2, _⟩)
  have HO2 := Lib.hid (Ow.nil base w.heap.size M σ2 w2 hbw)
  go_loopw [6, 8] (fun v6 v8 wr => ∃ (j i : Nat) (p7 : Option Addr) (c7 : Nat) (al : List Ast) (σi : St), v8 = .int .i64 (j : Int) ∧ v6 = .slice p7 i c7 ∧ j ≤ r ∧ i = 2 * j ∧ Hid (i = al.length) ∧ Hid (To base M vs s σ w σi wr al) ∧ Hid (Ow base w.heap.size (.slice p7 i c7) i (rootsA p al) M σi wr) ∧ Hid (∀ a ∈ al, EOk d a) ∧ Hid (sizes al ≤ j * (S + 3))) (fun _ v8 _ => r - (intOf v8).toNat)
  case atStart => exact ⟨0, 0, none, 0, [], σ2, rfl, rfl, Nat.zero_le _, rfl, rfl, H2, HO2, fun a h => by simp at h, (show _ ≤ _ by simp [sizes])⟩
  case round =>
    obtain ⟨j, i, p7, c7, al, σi, rfl, rfl, hj, hij, HL, HT, HO, HEA, HBZ⟩ := hrel
    clear H2 HO2 H1
    by_cases hir : j < r
    · have hz := HBZ.out
      have hi2 : j * (S + 3) ≤ 1 * (S + 3) := Nat.mul_le_mul_right (S + 3) (by omega)
      have hbs : w.heap.size ≤ wr.heap.size := HT.out.but.size
      have HPP : Hid (p + sizes al + 4 + S ≤ 1000000) := (show _ ≤ _ by omega)
      have hi6 : i + 1 ≤ 1000000 := by omega
      have hi7 : i + 1 + 1 ≤ 1000000 := by omega
      have HIJ := Lib.hid hij
      clear hz hi2 hij
      go_wp2_with (first
        | (at_builtin; refine wpList_iapp rfl _ _ rfl w.heap.size (i + 1) _ _ w6 HO6.out.row hbs6 ((p + sizes (al ++ [a]) + b.size - 1 : Nat) : Int) rfl (by rfl) hi7 ?_; intro g7 c7' w7 HK7 HB7 HG7; have H7 := Lib.hid (To.app H6.out HO6.out HK7.out HB7.out HG7.out))
        | (go_at_call 47; refine (expr_at HE.out H5.out.1 w5 (Below.refl _ _) (by rw [hSz.out, hp.out]; have := HPP.out; simp only [sizes_append, sizes]; omega)).mono ?_; rintro e w6 ⟨b, σ6, rfl, H6, HB6a, hb6, H6'⟩; rw [hp.out]; rw [hSz.out] at hb6; have HO6 := Lib.hid (H5.out.2.to H6'.out); have hbs6 : w.heap.size ≤ w6.heap.size := H6.out.but.size)
        | (at_builtin; refine wpList_iapp rfl _ _ rfl w.heap.size i _ _ w3 HO3.out.row hbs3 ((p + sizes al + a.size - 1 : Nat) : Int) rfl (by rfl) hi6 ?_; intro g5 c5 w5 HK5 HB5 HG5; have H5 := Lib.hid (To.app H3.out HO3.out HK5.out HB5.out HG5.out))
        | (go_at_call 47; refine (expr_at (d := 0) HE0.out HT.out wr (Below.refl _ _) (by rw [hp.out]; have := HPP.out; show _ + 4 ≤ _; omega)).mono ?_; rintro e w3 ⟨a, σ3, rfl, H3, HA, ha, H3'⟩; rw [hp.out]; have ha4 : a.size < 4 := ha; clear ha; have HO3 := Lib.hid (HO.out.to H3'.out); have hbs3 : w.heap.size ≤ w3.heap.size := H3.out.but.size))
      refine ⟨⟨j + 1, i + 1 + 1, _, c7', al ++ [a] ++ [b], σ6, rfl, rfl, by omega, by have := HIJ.out; omega, ?_, H7.out.1, ?_, ?_, ?_⟩, by simp [intOf]; omega⟩
      · show _ = _; rw [List.length_append, List.length_append, ← HL.out]; rfl
      · show Ow _ _ _ _ _ _ _ _
        have := H7.out.2
        rw [List.append_assoc] at this
        rw [List.append_assoc, rootsA_append]
        simpa [rootsA, sizes, sizes_append, Nat.add_assoc] using this
      · show ∀ y ∈ al ++ [a] ++ [b], EOk d y
        intro y hy
        simp only [List.mem_append, List.mem_cons, List.not_mem_nil, or_false] at hy
        rcases hy with (hy | rfl) | rfl
        · exact HEA.out y hy
        · exact HA.le (Nat.zero_le _)
        · exact HB6a
      · show sizes (al ++ [a] ++ [b]) ≤ (j + 1) * (S + 3)
        rw [sizes_append, sizes_append, Nat.add_mul, Nat.one_mul]
        have := HBZ.out
        simp only [sizes]
        omega
    · obtain rfl : j = r := by omega
      have hz := HBZ.out
      have hi2 : j * (S + 3) ≤ 2 * (S + 3) := Nat.mul_le_mul_right (S + 3) (by omega)
      have HZ2 : Hid (sizes al ≤ 2 * S + 6) := (show _ ≤ _ by omega)
      have HIJ := Lib.hid hij
      clear hz hi2 hij
      go_wp2_with (go_at_call 25; refine (add_at HT.out wr (Below.refl _ _) 9 0 ⟨#[]⟩ _ (by rw [hp.out]; exact own_krowI HO.out.row) (fun _ => HO.out.neM) (by rw [hp.out]; have := HZ2.out; omega) (by rw [← HL.out, HIJ.out]; omega)).mono ?_; rintro e w4 ⟨σ4, rfl, H4⟩; rw [hp.out])
      go_ret
      refine ⟨_, σ4, ?_, H4, EOk.dict _ _ (by rw [← HL.out, HIJ.out]; omega) HEA.out, by rw [size_mk]; have := HZ2.out; omega⟩
      rw [size_mk]; rfl
end Go.Proofs.YtkmmcphiijolkaaGreatDoor

set_option linter.unusedVariables false
set_option linter.unusedSimpArgs false
namespace Go.Proofs.YtkmmcphiijolkaaGreatDoor
open Go.RowKit Go.Shelf
open Tr

set_option maxHeartbeats 8000000 in
set_option maxRecDepth 100000 in
theorem exprL0_of {base M : Nat} {vs : Value} {s : List Int} (σ : St) (w : World) (hS : MkS base M vs s σ w) (hP : σ.P.length + 4 ≤ 1000000)
    (hnext : Calls Tryz.prog 23 #[.pointer (some ⟨M, 0, none⟩), .int .i64 30] w fun e w' => ∃ (r : Nat) (σ' : St), e = .returned (.int .i64 (r : Int)) ∧ ((r : Int) < 30) ∧ Hid (To base M vs s σ w σ' w' [])) :
    Calls Tryz.prog 47 #[.pointer (some ⟨M, 0, none⟩), .int .i64 0] w fun e w' => ∃ (a : Ast) (σ' : St), e = .returned (.int .i64 ((σ.P.length + a.size - 1 : Nat) : Int)) ∧ Hid (To base M vs s σ w σ' w' [a]) ∧ EOk 0 a ∧ a.size < 4 := by
  obtain ⟨p, hp⟩ := hid_ex σ.P.length
  rw [hp.out] at hP ⊢
  clear hS
  go_enter Tryz.func47, Tryz.ntmps47
  go_upto_region 4 with (go_at_call 23; refine hnext.mono ?_; clear hnext; rintro e w1 ⟨r, σ1, rfl, hr, H1⟩; have c3 := H1.out.st.cell 3; simp only [List.getElem?_toArray, List.getElem?_cons_succ, List.getElem?_cons_zero] at c3; rw [H1.out.len, hp.out] at c3; simp only [sizes, Nat.add_zero] at c3; have h6 : (r : Int).tmod 6 = ((r % 6 : Nat) : Int) := (by rw [Int.tmod_eq_emod_of_nonneg (by omega)]; omega); obtain ⟨k, hk⟩ : ∃ k, k = r % 6 := ⟨_, rfl⟩; rw [← hk] at h6; have hk6 : k < 6 := (by omega); clear hk)
  have hk : k = 0 ∨ k = 1 ∨ k = 2 ∨ k = 3 ∨ k = 4 ∨ k = 5 := by omega
  clear hk6 c3
  rcases hk with rfl | rfl | rfl | rfl | rfl | rfl
  · go_wp2_with (first
      | (go_at_call 25; refine (leaf_at H2.out w2 (Below.refl _ _) (4) (r2 : Int) ⟨#[]⟩ (by rw [hp.out]; simp only [List.nil_append, List.cons_append, sizes, size_mk]; omega)).mono ?_; rintro e w3 ⟨σ3, rfl, H3, H3'⟩; rw [hp.out])
      | (go_at_call 23; refine (next_at H1.out w1 (Below.refl _ _) 5 (by omega) (by omega)).mono ?_; rintro e w2 ⟨r2, σ2, rfl, hr2, H2, H2'⟩))
    go_ret
    refine ⟨_, σ3, ?_, H3, EOk.int _ _ ⟨by omega, hr2⟩, by rw [size_mk]; simp only [sizes]; omega⟩
    rw [size_mk]; rfl
  · go_wp2_with (first
      | (go_at_call 25; refine (leaf_at H2.out w2 (Below.refl _ _) (6) 0 ⟨t2.toArray⟩ (by rw [hp.out]; simp only [List.nil_append, List.cons_append, sizes, size_mk]; omega)).mono ?_; rintro e w3 ⟨σ3, rfl, H3, H3'⟩; rw [hp.out])
      | (go_at_call 91; refine (name_at H1.out w1 (Below.refl _ _)).mono ?_; rintro e w2 ⟨t2, σ2, rfl, ht2, H2, _⟩; have HN := Lib.hid ht2; clear ht2))
    go_ret
    refine ⟨.mk 6 t2 0 [], σ3, ?_, (by have := H3; simpa using this), EOk.name _ _ (Or.inl HN.out), by rw [size_mk]; simp only [sizes]; omega⟩
    rw [size_mk]; rfl
  · go_wp2_with (first
      | (go_at_call 25; refine (leaf_at H2.out w2 (Below.refl _ _) (6) 0 ⟨t2.toArray⟩ (by rw [hp.out]; simp only [List.nil_append, List.cons_append, sizes, size_mk]; omega)).mono ?_; rintro e w3 ⟨σ3, rfl, H3, H3'⟩; rw [hp.out])
      | (go_at_call 91; refine (name_at H1.out w1 (Below.refl _ _)).mono ?_; rintro e w2 ⟨t2, σ2, rfl, ht2, H2, _⟩; have HN := Lib.hid ht2; clear ht2))
    go_ret
    refine ⟨.mk 6 t2 0 [], σ3, ?_, (by have := H3; simpa using this), EOk.name _ _ (Or.inl HN.out), by rw [size_mk]; simp only [sizes]; omega⟩
    rw [size_mk]; rfl
  · go_wp2_with (first
      | (go_at_call 25; refine (leaf_at H2.out w2 (Below.refl _ _) (6) 0 ⟨t2.toArray⟩ (by rw [hp.out]; simp only [List.nil_append, List.cons_append, sizes, size_mk]; omega)).mono ?_; rintro e w3 ⟨σ3, rfl, H3, H3'⟩; rw [hp.out])
      | (go_at_call 91; refine (name_at H1.out w1 (Below.refl _ _)).mono ?_; rintro e w2 ⟨t2, σ2, rfl, ht2, H2, _⟩; have HN := Lib.hid ht2; clear ht2))
    go_ret
    refine ⟨.mk 6 t2 0 [], σ3, ?_, (by have := H3; simpa using this), EOk.name _ _ (Or.inl HN.out), by rw [size_mk]; simp only [sizes]; omega⟩
    rw [size_mk]; rfl
  · go_wp2_with (first
      | (go_at_call 25; refine (leaf_at H2.out w2 (Below.refl _ _) (5) 0 ⟨x.toArray⟩ (by rw [hp.out]; simp only [List.nil_append, List.cons_append, sizes, size_mk]; omega)).mono ?_; rintro e w3 ⟨σ3, rfl, H3, H3'⟩; rw [hp.out])
      | (go_at_call 23; refine (next_at H1.out _ ((Below.refl _ _).alloc (Nat.le_refl _) _) 4 (by omega) (by omega)).mono ?_; rintro e w2 ⟨r2, σ2, rfl, hr2, H2, H2'⟩; obtain ⟨x, hx, hc⟩ := pick_text H1.out.st H2'.out str4 rfl r2 (by show r2 < 4; omega); have HX := Lib.hid hx; clear hx))
    go_ret
    refine ⟨.mk 5 x 0 [], σ3, ?_, (by have := H3; simpa using this), EOk.str _ _ (str4_len x HX.out), by rw [size_mk]; simp only [sizes]; omega⟩
    rw [size_mk]; rfl
  · go_wp2_with (first
      | (go_at_call 25; refine (leaf_at H2.out w2 (Below.refl _ _) (x) 0 ⟨#[]⟩ (by rw [hp.out]; simp only [List.nil_append, List.cons_append, sizes, size_mk]; omega)).mono ?_; rintro e w3 ⟨σ3, rfl, H3, H3'⟩; rw [hp.out])
      | (go_at_call 23; refine (next_at H1.out _ ((Below.refl _ _).alloc (Nat.le_refl _) _) 3 (by omega) (by omega)).mono ?_; rintro e w2 ⟨r2, σ2, rfl, hr2, H2, H2'⟩; obtain ⟨x, hx, hc⟩ := pick_int H1.out.st H2'.out lit3 rfl r2 (by show r2 < 3; omega); have HX := Lib.hid hx; clear hx))
    go_ret
    refine ⟨.mk x [] 0 [], σ3, ?_, H3, EOk.lit _ _ (by have := HX.out; simpa [lit3] using this), by rw [size_mk]; simp only [sizes]; omega⟩
    rw [size_mk]; rfl

set_option maxHeartbeats 8000000 in
set_option maxRecDepth 100000 in
theorem exprL1_of {base M : Nat} {vs : Value} {s : List Int} {d : Nat} (hd : d ≤ 100) (σ : St) (w : World) (hS : MkS base M vs s σ w) (hP : σ.P.length + 4 ≤ 1000000) (hlf : 160 ≤ σ.P.length)
    (hnext : Calls Tryz.prog 23 #[.pointer (some ⟨M, 0, none⟩), .int .i64 30] w fun e w' => ∃ (r : Nat) (σ' : St), e = .returned (.int .i64 (r : Int)) ∧ ((r : Int) < 30) ∧ Hid (To base M vs s σ w σ' w' [])) :
    Calls Tryz.prog 47 #[.pointer (some ⟨M, 0, none⟩), .int .i64 ((d : Int) + 1)] w fun e w' => ∃ (a : Ast) (σ' : St), e = .returned (.int .i64 ((σ.P.length + a.size - 1 : Nat) : Int)) ∧ Hid (To base M vs s σ w σ' w' [a]) ∧ EOk (d + 1) a ∧ a.size < 4 := by
  obtain ⟨p, hp⟩ := hid_ex σ.P.length
  rw [hp.out] at hP hlf ⊢
  clear hS
  have hd0 : ¬ (d : Int) + 1 ≤ 0 := by omega
  have hl0 : 160 - (p : Int) ≤ 0 := by omega
  go_enter Tryz.func47, Tryz.ntmps47
  go_upto_region 4 with (go_at_call 23; refine hnext.mono ?_; clear hnext; rintro e w1 ⟨r, σ1, rfl, hr, H1⟩; have c3 := H1.out.st.cell 3; simp only [List.getElem?_toArray, List.getElem?_cons_succ, List.getElem?_cons_zero] at c3; rw [H1.out.len, hp.out] at c3; simp only [sizes, Nat.add_zero] at c3; have h6 : (r : Int).tmod 6 = ((r % 6 : Nat) : Int) := (by rw [Int.tmod_eq_emod_of_nonneg (by omega)]; omega); obtain ⟨k, hk⟩ : ∃ k, k = r % 6 := ⟨_, rfl⟩; rw [← hk] at h6; have hk6 : k < 6 := (by omega); clear hk)
  have hk : k = 0 ∨ k = 1 ∨ k = 2 ∨ k = 3 ∨ k = 4 ∨ k = 5 := by omega
  clear hk6 c3
  rcases hk with rfl | rfl | rfl | rfl | rfl | rfl
  · go_wp2_with (first
      | (go_at_call 25; refine (leaf_at H2.out w2 (Below.refl _ _) (4) (r2 : Int) ⟨#[]⟩ (by rw [hp.out]; simp only [List.nil_append, List.cons_append, sizes, size_mk]; omega)).mono ?_; rintro e w3 ⟨σ3, rfl, H3, H3'⟩; rw [hp.out])
      | (go_at_call 23; refine (next_at H1.out w1 (Below.refl _ _) 5 (by omega) (by omega)).mono ?_; rintro e w2 ⟨r2, σ2, rfl, hr2, H2, H2'⟩))
    go_ret
    refine ⟨_, σ3, ?_, H3, EOk.int _ _ ⟨by omega, hr2⟩, by rw [size_mk]; simp only [sizes]; omega⟩
    rw [size_mk]; rfl
  · go_wp2_with (first
      | (go_at_call 25; refine (leaf_at H2.out w2 (Below.refl _ _) (6) 0 ⟨t2.toArray⟩ (by rw [hp.out]; simp only [List.nil_append, List.cons_append, sizes, size_mk]; omega)).mono ?_; rintro e w3 ⟨σ3, rfl, H3, H3'⟩; rw [hp.out])
      | (go_at_call 91; refine (name_at H1.out w1 (Below.refl _ _)).mono ?_; rintro e w2 ⟨t2, σ2, rfl, ht2, H2, _⟩; have HN := Lib.hid ht2; clear ht2))
    go_ret
    refine ⟨.mk 6 t2 0 [], σ3, ?_, (by have := H3; simpa using this), EOk.name _ _ (Or.inl HN.out), by rw [size_mk]; simp only [sizes]; omega⟩
    rw [size_mk]; rfl
  · go_wp2_with (first
      | (go_at_call 25; refine (leaf_at H2.out w2 (Below.refl _ _) (6) 0 ⟨t2.toArray⟩ (by rw [hp.out]; simp only [List.nil_append, List.cons_append, sizes, size_mk]; omega)).mono ?_; rintro e w3 ⟨σ3, rfl, H3, H3'⟩; rw [hp.out])
      | (go_at_call 91; refine (name_at H1.out w1 (Below.refl _ _)).mono ?_; rintro e w2 ⟨t2, σ2, rfl, ht2, H2, _⟩; have HN := Lib.hid ht2; clear ht2))
    go_ret
    refine ⟨.mk 6 t2 0 [], σ3, ?_, (by have := H3; simpa using this), EOk.name _ _ (Or.inl HN.out), by rw [size_mk]; simp only [sizes]; omega⟩
    rw [size_mk]; rfl
  · go_wp2_with (first
      | (go_at_call 25; refine (leaf_at H2.out w2 (Below.refl _ _) (6) 0 ⟨t2.toArray⟩ (by rw [hp.out]; simp only [List.nil_append, List.cons_append, sizes, size_mk]; omega)).mono ?_; rintro e w3 ⟨σ3, rfl, H3, H3'⟩; rw [hp.out])
      | (go_at_call 91; refine (name_at H1.out w1 (Below.refl _ _)).mono ?_; rintro e w2 ⟨t2, σ2, rfl, ht2, H2, _⟩; have HN := Lib.hid ht2; clear ht2))
    go_ret
    refine ⟨.mk 6 t2 0 [], σ3, ?_, (by have := H3; simpa using this), EOk.name _ _ (Or.inl HN.out), by rw [size_mk]; simp only [sizes]; omega⟩
    rw [size_mk]; rfl
  · go_wp2_with (first
      | (go_at_call 25; refine (leaf_at H2.out w2 (Below.refl _ _) (5) 0 ⟨x.toArray⟩ (by rw [hp.out]; simp only [List.nil_append, List.cons_append, sizes, size_mk]; omega)).mono ?_; rintro e w3 ⟨σ3, rfl, H3, H3'⟩; rw [hp.out])
      | (go_at_call 23; refine (next_at H1.out _ ((Below.refl _ _).alloc (Nat.le_refl _) _) 4 (by omega) (by omega)).mono ?_; rintro e w2 ⟨r2, σ2, rfl, hr2, H2, H2'⟩; obtain ⟨x, hx, hc⟩ := pick_text H1.out.st H2'.out str4 rfl r2 (by show r2 < 4; omega); have HX := Lib.hid hx; clear hx))
    go_ret
    refine ⟨.mk 5 x 0 [], σ3, ?_, (by have := H3; simpa using this), EOk.str _ _ (str4_len x HX.out), by rw [size_mk]; simp only [sizes]; omega⟩
    rw [size_mk]; rfl
  · go_wp2_with (first
      | (go_at_call 25; refine (leaf_at H2.out w2 (Below.refl _ _) (x) 0 ⟨#[]⟩ (by rw [hp.out]; simp only [List.nil_append, List.cons_append, sizes, size_mk]; omega)).mono ?_; rintro e w3 ⟨σ3, rfl, H3, H3'⟩; rw [hp.out])
      | (go_at_call 23; refine (next_at H1.out _ ((Below.refl _ _).alloc (Nat.le_refl _) _) 3 (by omega) (by omega)).mono ?_; rintro e w2 ⟨r2, σ2, rfl, hr2, H2, H2'⟩; obtain ⟨x, hx, hc⟩ := pick_int H1.out.st H2'.out lit3 rfl r2 (by show r2 < 3; omega); have HX := Lib.hid hx; clear hx))
    go_ret
    refine ⟨.mk x [] 0 [], σ3, ?_, H3, EOk.lit _ _ (by have := HX.out; simpa [lit3] using this), by rw [size_mk]; simp only [sizes]; omega⟩
    rw [size_mk]; rfl
end Go.Proofs.YtkmmcphiijolkaaGreatDoor

set_option linter.unusedVariables false
set_option linter.unusedSimpArgs false
namespace Go.Proofs.YtkmmcphiijolkaaGreatDoor
open Go.RowKit Go.Shelf
open Tr

/-- The next number's rest. -/
def nx (s : List Int) (k : Nat) (n : Int) : Nat := match s[k]? with
  | some x => (x % n).toNat
  | none => 0
theorem nx_lt (s : List Int) (k : Nat) (n : Int) (hn : 0 < n) : (nx s k n : Int) < n := by
  unfold nx
  split
  · rw [Int.toNat_of_nonneg (Int.emod_nonneg _ (by omega))]
    exact Int.emod_lt_of_pos _ hn
  · exact hn

set_option maxHeartbeats 8000000 in
set_option maxRecDepth 100000 in
theorem next_nx (base M : Nat) (vs : Value) (s : List Int) (σ : St) (w : World) (hS : MkS base M vs s σ w) (n : Int) (hn : 1 ≤ n) (hn2 : n ≤ 1000) :
    Calls Tryz.prog 23 #[.pointer (some ⟨M, 0, none⟩), .int .i64 n] w fun e w' => ∃ (r : Nat) (σ' : St), e = .returned (.int .i64 (r : Int)) ∧ r = nx s σ.at_ n ∧ Hid (To base M vs s σ w σ' w' []) := by
  have HS := Lib.hid hS
  have hsl := hS.sl
  have hat := hS.hat
  have hml := hS.lt
  have c0 := hS.cell 0
  have c1 := hS.cell 1
  simp only [List.getElem?_toArray, List.getElem?_cons_succ, List.getElem?_cons_zero] at c0 c1
  have f1 := frozen_of_block hS.blk 1
  obtain ⟨pv, cv, rfl, fv⟩ := hS.src
  obtain ⟨q, hq⟩ : ∃ q, q = s.length := ⟨_, rfl⟩
  obtain ⟨at_, vt, P⟩ := σ
  simp only at hat c1
  rw [← hq] at hsl hat c0
  have hq63 : q ≤ 9223372036854775807 := by unfold maxLen at hsl; omega
  by_cases hlt : at_ < q
  · obtain ⟨x, hx⟩ : ∃ x, s[at_]? = some x := ⟨_, List.getElem?_eq_getElem (by omega)⟩
    obtain ⟨g, o, rfl, hg, xc⟩ := fv.1 at_ x hx
    have hwf := hS.wf x (List.mem_of_getElem? hx)
    have h1 := Int.lt_tmod_of_pos x (show 0 < n by omega)
    have h2 := Int.tmod_lt_of_pos x (show 0 < n by omega)
    have hr := rest_tmod x n
    have hn0 : (n == 0) = false := by simp; omega
    have hr0 := Int.emod_nonneg x (show n ≠ 0 by omega)
    have hr1 := Int.emod_lt_of_pos x (show 0 < n by omega)
    have HR := Lib.hid hr
    have HR0 := Lib.hid hr0
    have HR1 := Lib.hid hr1
    have haw : IntKind.i64.wrap ((at_ : Int) + 1) = (at_ : Int) + 1 := IntWalk.i64_in _ (by omega)
    have hqi : ¬ (q : Int) ≤ (at_ : Int) := by omega
    have hqj : (at_ : Int) < (q : Int) := by omega
    have HQ := Lib.hid hq
    have HX : Hid ((x % n).toNat = nx s at_ n) := (show _ = _ by unfold nx; rw [hx])
    clear hr hr0 hr1 hx hS fv hq hwf hat
    go_enter Tryz.func23, Tryz.ntmps23
    go_wp2_with fail
    go_quiet (fail)
    go_wp2_with fail
    go_quiet (fail)
    go_wp2_with fail
    go_ret
    refine ⟨(x % n).toNat, ⟨at_ + 1, vt, P⟩, ?_, ?_, ?_⟩
    · rw [Int.toNat_of_nonneg HR0.out, ← HR.out]; rfl
    · exact HX.out
    · show To _ _ _ _ _ _ _ _ _
      refine MkS.at1 HS.out (by rw [← HQ.out]; exact hlt) (But.setCell (p := fun k => k = M) (but_below (below_drewN (Below.refl _ _) _)) (x := ⟨M, 1, none⟩) (fun _ => rfl) _) ?_
      rw [heap_setCell_same _ _ _ _ _ _ (show (w.drewN _).heap[M]? = _ from HS.out.blk)]
      rfl
  · obtain rfl : at_ = q := by omega
    have HQ := Lib.hid hq
    have HX : Hid (0 = nx s at_ n) := (show _ = _ by unfold nx; rw [List.getElem?_eq_none (by omega)])
    clear hS fv hq hat
    go_enter Tryz.func23, Tryz.ntmps23
    go_wp2_with fail
    go_quiet (fail)
    go_wp2_with fail
    go_ret
    exact ⟨0, ⟨at_, vt, P⟩, rfl, HX.out, (To.refl HS.out).below (below_drewN (Below.refl _ _) _)⟩

set_option maxRecDepth 100000 in
theorem expr_all (base M : Nat) (vs : Value) (s : List Int) : ∀ d, d ≤ 100 → ExprC base M vs s d
  | 0, _ => fun σ w hS hP => exprL0_of σ w hS hP ((next_any base M vs s σ w hS 30 (by omega) (by omega)))
  | d + 1, hd => fun σ w hS hP => by
    have hE := expr_all base M vs s d (by omega)
    have hE0 := expr_all base M vs s 0 (by omega)
    have hz := sz_pos d
    have hz2 : sz (d + 1) = 4 * sz d := rfl
    rw [show ((d + 1 : Nat) : Int) = (d : Int) + 1 from rfl]
    by_cases hlf : 160 ≤ σ.P.length
    · refine (exprL1_of (d := d) (by omega) σ w hS (by omega) hlf (next_any base M vs s σ w hS 30 (by omega) (by omega))).mono ?_
      rintro e w' ⟨a, σ', he, HT, ha, hs⟩
      exact ⟨a, σ', he, HT, ha, by omega⟩
    · have hr := nx_lt s σ.at_ 30 (by omega)
      have hn := next_nx base M vs s σ w hS 30 (by omega) (by omega)
      obtain ⟨r, hrr⟩ : ∃ r, r = nx s σ.at_ 30 := ⟨_, rfl⟩
      rw [← hrr] at hr hn
      have hd' : d ≤ 100 := by omega
      have hl' : σ.P.length < 160 := by omega
      have hc : (r = 0 ∨ r = 1 ∨ r = 4 ∨ r = 5 ∨ r = 6 ∨ r = 8 ∨ r = 10 ∨ r = 12) ∨ (r = 2 ∨ r = 3 ∨ r = 7 ∨ r = 9) ∨ (r = 14 ∨ r = 15 ∨ r = 16 ∨ r = 18 ∨ r = 19 ∨ r = 20 ∨ r = 21 ∨ r = 22 ∨ r = 23) ∨ (r = 27 ∨ r = 28 ∨ r = 29) ∨ (r = 24 ∨ r = 25) ∨ (r = 11 ∨ r = 13 ∨ r = 26) ∨ r = 17 := by omega
      rcases hc with h | h | h | h | h | h | h
      · exact exprA_of hE hE0 σ w hS hP hd' hl' (hn.mono (by rintro e w' ⟨_, σ', rfl, rfl, HT⟩; exact ⟨_, σ', rfl, h, HT⟩))
      · exact exprB_of hE hE0 σ w hS hP hd' hl' (hn.mono (by rintro e w' ⟨_, σ', rfl, rfl, HT⟩; exact ⟨_, σ', rfl, h, HT⟩))
      · exact exprC_of hE hE0 σ w hS hP hd' hl' (hn.mono (by rintro e w' ⟨_, σ', rfl, rfl, HT⟩; exact ⟨_, σ', rfl, h, HT⟩))
      · exact exprD_of hE hE0 σ w hS hP hd' hl' (hn.mono (by rintro e w' ⟨_, σ', rfl, rfl, HT⟩; exact ⟨_, σ', rfl, h, HT⟩))
      · exact exprE_of hE σ w hS hP hd' hl' (hn.mono (by rintro e w' ⟨_, σ', rfl, rfl, HT⟩; exact ⟨_, σ', rfl, h, HT⟩))
      · exact exprF_of hE hE0 σ w hS hP hd' hl' (hn.mono (by rintro e w' ⟨_, σ', rfl, rfl, HT⟩; exact ⟨_, σ', rfl, h, HT⟩))
      · exact exprG_of hE hE0 σ w hS hP hd' hl' (hn.mono (by rintro e w' ⟨_, σ', rfl, rfl, HT⟩; exact ⟨_, σ', rfl, h, HT⟩))
end Go.Proofs.YtkmmcphiijolkaaGreatDoor
