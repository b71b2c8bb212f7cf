/-
  The map of tests, made, at this program.
-/
import Derived.Test.YtkmmcphiijolkaaDoorTreeX
set_option linter.unusedVariables false
set_option linter.unusedSimpArgs false
namespace Go.Proofs.YtkmmcphiijolkaaDoor
open Go.RowKit Go.Shelf
open Tr

theorem test_defs_of {f : Sp.Bs → Bool} {p : PartD} {T : Test} (w : World) : IsTest (fun t x => tOf f [p, (T, Int.toNat 1, Int.toNat 1)] t x = true) tDefs (.func (.func 54) #[] #[]) w :=
  (test_defs w).imp fun t x _ _ h => by
    simp only [tOf, Bool.and_eq_true] at h
    exact fits_one [p] _ h.2
theorem guard_pre {f : Sp.Bs → Bool} {ps : List PartD} {T : Test} {t : List NodeD} {x : NodeD} (h : tOf f ((T, 1, 1) :: ps) t x = true) : 1 ≤ x.2.2.2.2.length := by
  simp only [tOf, Bool.and_eq_true] at h
  have h := h.2
  cases hx : x.2.2.2.2 with
  | nil => rw [hx] at h; simp [fits, greedy] at h
  | cons => simp
theorem test_guard_of {f : Sp.Bs → Bool} {ps : List PartD} {T : Test} (w : World) : IsTest (fun t x => tOf f ((T, Int.toNat 1, Int.toNat 1) :: ps) t x = true) tGuard (.func (.func 59) #[] #[]) w :=
  (test_guard w).imp fun t x _ _ h => guard_pre h
theorem test_even_of {Ta : Test} (w : World) : IsTest (fun t x => Ta t x = true) tEven (.func (.func 51) #[] #[]) w := (test_even w).imp fun t x _ _ h => trivial

def E0 : List (Value × Test) := [(.func (.func 44) #[] #[], tExpr), (.func (.func 56) #[] #[], tStmt), (.func (.func 58) #[] #[], tTarget), (.func (.func 57) #[] #[], tWide), (.func (.func 47) #[] #[], tNumber)]
theorem kst0 (w : World) : Kst w w w.heap.size [] E0 :=
  ⟨Below.refl _ _, fun p hp => by
    simp only [E0, List.mem_cons, List.not_mem_nil, or_false] at hp
    rcases hp with rfl | rfl | rfl | rfl | rfl
    · exact test_expr w
    · exact test_stmt w
    · exact test_target w
    · exact test_wide w
    · exact test_number w, Nat.le_refl _, Or.inl rfl⟩

set_option maxHeartbeats 400000000 in
set_option maxRecDepth 100000 in
theorem kinds_any (w : World) : Calls Tryd.prog 24 #[] w fun e w' => ∃ b E, e = .returned (.map (some b)) ∧ Kst w w' b (kindOf sNames) E := by
  have HS : Hid (Kst w w w.heap.size [] E0) := kst0 w
  unfold E0 at HS
  go_enter Tryd.func24, Tryd.ntmps24
  go_upto_region 7 with (first
    | (go_at_call 43; refine (one_k HS _ _).mono ?_; rintro e w' ⟨rfl, HT⟩; clear HS; have HS := HT; clear HT)
    | (go_at_call 45; refine (many_k HS _ _).mono ?_; rintro e w' ⟨rfl, HT⟩; clear HS; have HS := HT; clear HT)
    | (go_at_call 46; refine (op_k HS _).mono ?_; rintro e w' ⟨k, c, rfl, HT⟩; clear HS; have HS := HT; clear HT)
    | (go_at_call 41; (with_reducible refine at_of_ 42 0 ?_); refine (of_k0 HS text_empty ).mono ?_; rintro e w' ⟨k, c, rfl, HT⟩; clear HS; have HS := HT; clear HT)
    | (go_at_call 41; (with_reducible refine at_of_ 42 1 ?_); refine (of_k1 HS text_empty (by repeat (first | exact List.mem_cons_self | apply List.mem_cons_of_mem)) (by decide)).mono ?_; rintro e w' ⟨k, c, rfl, HT⟩; clear HS; have HS := HT; clear HT)
    | (go_at_call 41; (with_reducible refine at_of_ 42 2 ?_); refine (of_k2 HS text_empty (by repeat (first | exact List.mem_cons_self | apply List.mem_cons_of_mem)) (by decide) (by repeat (first | exact List.mem_cons_self | apply List.mem_cons_of_mem)) (by decide)).mono ?_; rintro e w' ⟨k, c, rfl, HT⟩; clear HS; have HS := HT; clear HT)
    | (go_at_call 41; (with_reducible refine at_of_ 42 3 ?_); refine (of_k3 HS text_empty (by repeat (first | exact List.mem_cons_self | apply List.mem_cons_of_mem)) (by decide) (by repeat (first | exact List.mem_cons_self | apply List.mem_cons_of_mem)) (by decide) (by repeat (first | exact List.mem_cons_self | apply List.mem_cons_of_mem)) (by decide)).mono ?_; rintro e w' ⟨k, c, rfl, HT⟩; clear HS; have HS := HT; clear HT))
  obtain ⟨EB, HT, h1, h2, h3, h4, h5, h6, h7, h8, h9, h10, h11, h12, h13, h14⟩ := Kst.gen14 HS
  clear HS
  have HS := HT
  clear HT
  have hmm := @run_makeMap Tryd.prog
  refine wp_region_lit ?_
  refine wpList_gen ?_
  intro ops
  simp only [List.append_eq, List.cons_append, List.nil_append]
  refine wpList_split 8 ?_
  intro rest HR
  simp only [List.take_succ_cons, List.take_zero, List.cons_append, List.nil_append, List.drop_succ_cons, List.drop_zero]
  go_wp2_with (first
    | ((with_reducible refine upon_ins0 HS Tryd.underlying57 ?_ _ (by repeat (first | exact List.mem_cons_self | exact h1.out | exact h2.out | exact h3.out | exact h4.out | exact h5.out | exact h6.out | exact h7.out | exact h8.out | exact h9.out | exact h10.out | exact h11.out | exact h12.out | exact h13.out | exact h14.out | apply List.mem_cons_of_mem)) ?_); exact (by decide); intro w' L' HL HT HN; clear HS; have HS := HT; clear HT)
    | ((with_reducible refine upon_ins EB HS HN (by decide) (by intro p hp; repeat (first | exact hp | apply List.mem_cons_of_mem)) Tryd.underlying57 ?_ _ (by repeat (first | exact List.mem_cons_self | exact h1.out | exact h2.out | exact h3.out | exact h4.out | exact h5.out | exact h6.out | exact h7.out | exact h8.out | exact h9.out | exact h10.out | exact h11.out | exact h12.out | exact h13.out | exact h14.out | apply List.mem_cons_of_mem)) ?_); exact (by decide); intro w' L' HL2 HT HN2; have HLN := Lib.hid (HL2.out.trans (congrArg _ HL.out)); clear HS HN HL HL2; have HS := HT; have HN := HN2; have HL := HLN; clear HT HN2 HLN))
  rw [HR.out]
  clear HR
  clear rest
  simp only [List.drop_succ_cons, List.drop_zero]
  refine wpList_split 8 ?_
  intro rest HR
  simp only [List.take_succ_cons, List.take_zero, List.cons_append, List.nil_append, List.drop_succ_cons, List.drop_zero]
  go_wp2_with (first
    | (go_at_call 41; (with_reducible refine at_of_ 49 0 ?_); refine (of_k0 HS text_name ).mono ?_; rintro e w' ⟨k, c, rfl, HT⟩; clear HS; have HS := HT; clear HT)
    | (go_at_call 41; (with_reducible refine at_of_ 48 0 ?_); refine (of_k0 HS text_short ).mono ?_; rintro e w' ⟨k, c, rfl, HT⟩; clear HS; have HS := HT; clear HT)
    | ((with_reducible refine upon_ins EB HS HN (by decide) (by intro p hp; repeat (first | exact hp | apply List.mem_cons_of_mem)) Tryd.underlying57 ?_ _ (by repeat (first | exact List.mem_cons_self | exact h1.out | exact h2.out | exact h3.out | exact h4.out | exact h5.out | exact h6.out | exact h7.out | exact h8.out | exact h9.out | exact h10.out | exact h11.out | exact h12.out | exact h13.out | exact h14.out | apply List.mem_cons_of_mem)) ?_); exact (by decide); intro w' L' HL2 HT HN2; have HLN := Lib.hid (HL2.out.trans (congrArg _ HL.out)); clear HS HN HL HL2; have HS := HT; have HN := HN2; have HL := HLN; clear HT HN2 HLN))
  rw [HR.out]
  clear HR
  clear rest
  simp only [List.drop_succ_cons, List.drop_zero]
  refine wpList_split 12 ?_
  intro rest HR
  simp only [List.take_succ_cons, List.take_zero, List.cons_append, List.nil_append, List.drop_succ_cons, List.drop_zero]
  go_wp2_with (first
    | (go_at_call 43; refine (one_k HS _ _).mono ?_; rintro e w' ⟨rfl, HT⟩; clear HS; have HS := HT; clear HT)
    | (go_at_call 50; (with_reducible refine at_both_ 51 ?_); refine (both_k HS (by repeat (first | exact List.mem_cons_self | exact h1.out | exact h2.out | exact h3.out | exact h4.out | exact h5.out | exact h6.out | exact h7.out | exact h8.out | exact h9.out | exact h10.out | exact h11.out | exact h12.out | exact h13.out | exact h14.out | apply List.mem_cons_of_mem)) (test_even_of _)).mono ?_; rintro e w' ⟨k, c, rfl, HT⟩; clear HS; have HS := HT; clear HT)
    | (go_at_call 41; (with_reducible refine at_of_ 52 2 ?_); refine (of_k2 HS text_arith (by repeat (first | exact List.mem_cons_self | exact h1.out | exact h2.out | exact h3.out | exact h4.out | exact h5.out | exact h6.out | exact h7.out | exact h8.out | exact h9.out | exact h10.out | exact h11.out | exact h12.out | exact h13.out | exact h14.out | apply List.mem_cons_of_mem)) (by decide) (by repeat (first | exact List.mem_cons_self | exact h1.out | exact h2.out | exact h3.out | exact h4.out | exact h5.out | exact h6.out | exact h7.out | exact h8.out | exact h9.out | exact h10.out | exact h11.out | exact h12.out | exact h13.out | exact h14.out | apply List.mem_cons_of_mem)) (by decide)).mono ?_; rintro e w' ⟨k, c, rfl, HT⟩; clear HS; have HS := HT; clear HT)
    | ((with_reducible refine upon_ins EB HS HN (by decide) (by intro p hp; repeat (first | exact hp | apply List.mem_cons_of_mem)) Tryd.underlying57 ?_ _ (by repeat (first | exact List.mem_cons_self | exact h1.out | exact h2.out | exact h3.out | exact h4.out | exact h5.out | exact h6.out | exact h7.out | exact h8.out | exact h9.out | exact h10.out | exact h11.out | exact h12.out | exact h13.out | exact h14.out | apply List.mem_cons_of_mem)) ?_); exact (by decide); intro w' L' HL2 HT HN2; have HLN := Lib.hid (HL2.out.trans (congrArg _ HL.out)); clear HS HN HL HL2; have HS := HT; have HN := HN2; have HL := HLN; clear HT HN2 HLN))
  rw [HR.out]
  clear HR
  clear rest
  simp only [List.drop_succ_cons, List.drop_zero]
  refine wpList_split 9 ?_
  intro rest HR
  simp only [List.take_succ_cons, List.take_zero, List.cons_append, List.nil_append, List.drop_succ_cons, List.drop_zero]
  go_wp2_with (first
    | (go_at_call 43; refine (one_k HS _ _).mono ?_; rintro e w' ⟨rfl, HT⟩; clear HS; have HS := HT; clear HT)
    | (go_at_call 41; (with_reducible refine at_of_ 53 2 ?_); refine (of_k2 HS text_comp (by repeat (first | exact List.mem_cons_self | exact h1.out | exact h2.out | exact h3.out | exact h4.out | exact h5.out | exact h6.out | exact h7.out | exact h8.out | exact h9.out | exact h10.out | exact h11.out | exact h12.out | exact h13.out | exact h14.out | apply List.mem_cons_of_mem)) (by decide) (by repeat (first | exact List.mem_cons_self | exact h1.out | exact h2.out | exact h3.out | exact h4.out | exact h5.out | exact h6.out | exact h7.out | exact h8.out | exact h9.out | exact h10.out | exact h11.out | exact h12.out | exact h13.out | exact h14.out | apply List.mem_cons_of_mem)) (by decide)).mono ?_; rintro e w' ⟨k, c, rfl, HT⟩; clear HS; have HS := HT; clear HT)
    | ((with_reducible refine upon_ins EB HS HN (by decide) (by intro p hp; repeat (first | exact hp | apply List.mem_cons_of_mem)) Tryd.underlying57 ?_ _ (by repeat (first | exact List.mem_cons_self | exact h1.out | exact h2.out | exact h3.out | exact h4.out | exact h5.out | exact h6.out | exact h7.out | exact h8.out | exact h9.out | exact h10.out | exact h11.out | exact h12.out | exact h13.out | exact h14.out | apply List.mem_cons_of_mem)) ?_); exact (by decide); intro w' L' HL2 HT HN2; have HLN := Lib.hid (HL2.out.trans (congrArg _ HL.out)); clear HS HN HL HL2; have HS := HT; have HN := HN2; have HL := HLN; clear HT HN2 HLN))
  rw [HR.out]
  clear HR
  clear rest
  simp only [List.drop_succ_cons, List.drop_zero]
  refine wpList_split 11 ?_
  intro rest HR
  simp only [List.take_succ_cons, List.take_zero, List.cons_append, List.nil_append, List.drop_succ_cons, List.drop_zero]
  go_wp2_with (first
    | (go_at_call 43; refine (one_k HS _ _).mono ?_; rintro e w' ⟨rfl, HT⟩; clear HS; have HS := HT; clear HT)
    | (go_at_call 45; refine (many_k HS _ _).mono ?_; rintro e w' ⟨rfl, HT⟩; clear HS; have HS := HT; clear HT)
    | (go_at_call 41; (with_reducible refine at_of_ 42 2 ?_); refine (of_k2 HS text_empty (by repeat (first | exact List.mem_cons_self | exact h1.out | exact h2.out | exact h3.out | exact h4.out | exact h5.out | exact h6.out | exact h7.out | exact h8.out | exact h9.out | exact h10.out | exact h11.out | exact h12.out | exact h13.out | exact h14.out | apply List.mem_cons_of_mem)) (by decide) (by repeat (first | exact List.mem_cons_self | exact h1.out | exact h2.out | exact h3.out | exact h4.out | exact h5.out | exact h6.out | exact h7.out | exact h8.out | exact h9.out | exact h10.out | exact h11.out | exact h12.out | exact h13.out | exact h14.out | apply List.mem_cons_of_mem)) (by decide)).mono ?_; rintro e w' ⟨k, c, rfl, HT⟩; clear HS; have HS := HT; clear HT)
    | (go_at_call 41; (with_reducible refine at_of_ 49 1 ?_); refine (of_k1 HS text_name (by repeat (first | exact List.mem_cons_self | exact h1.out | exact h2.out | exact h3.out | exact h4.out | exact h5.out | exact h6.out | exact h7.out | exact h8.out | exact h9.out | exact h10.out | exact h11.out | exact h12.out | exact h13.out | exact h14.out | apply List.mem_cons_of_mem)) (by decide)).mono ?_; rintro e w' ⟨k, c, rfl, HT⟩; clear HS; have HS := HT; clear HT)
    | ((with_reducible refine upon_ins EB HS HN (by decide) (by intro p hp; repeat (first | exact hp | apply List.mem_cons_of_mem)) Tryd.underlying57 ?_ _ (by repeat (first | exact List.mem_cons_self | exact h1.out | exact h2.out | exact h3.out | exact h4.out | exact h5.out | exact h6.out | exact h7.out | exact h8.out | exact h9.out | exact h10.out | exact h11.out | exact h12.out | exact h13.out | exact h14.out | apply List.mem_cons_of_mem)) ?_); exact (by decide); intro w' L' HL2 HT HN2; have HLN := Lib.hid (HL2.out.trans (congrArg _ HL.out)); clear HS HN HL HL2; have HS := HT; have HN := HN2; have HL := HLN; clear HT HN2 HLN))
  rw [HR.out]
  clear HR
  clear rest
  simp only [List.drop_succ_cons, List.drop_zero]
  refine wpList_split 11 ?_
  intro rest HR
  simp only [List.take_succ_cons, List.take_zero, List.cons_append, List.nil_append, List.drop_succ_cons, List.drop_zero]
  go_wp2_with (first
    | (go_at_call 43; refine (one_k HS _ _).mono ?_; rintro e w' ⟨rfl, HT⟩; clear HS; have HS := HT; clear HT)
    | (go_at_call 45; refine (many_k HS _ _).mono ?_; rintro e w' ⟨rfl, HT⟩; clear HS; have HS := HT; clear HT)
    | (go_at_call 50; (with_reducible refine at_both_ 54 ?_); refine (both_k HS (by repeat (first | exact List.mem_cons_self | exact h1.out | exact h2.out | exact h3.out | exact h4.out | exact h5.out | exact h6.out | exact h7.out | exact h8.out | exact h9.out | exact h10.out | exact h11.out | exact h12.out | exact h13.out | exact h14.out | apply List.mem_cons_of_mem)) (test_defs_of _)).mono ?_; rintro e w' ⟨k, c, rfl, HT⟩; clear HS; have HS := HT; clear HT)
    | (go_at_call 41; (with_reducible refine at_of_ 42 2 ?_); refine (of_k2 HS text_empty (by repeat (first | exact List.mem_cons_self | exact h1.out | exact h2.out | exact h3.out | exact h4.out | exact h5.out | exact h6.out | exact h7.out | exact h8.out | exact h9.out | exact h10.out | exact h11.out | exact h12.out | exact h13.out | exact h14.out | apply List.mem_cons_of_mem)) (by decide) (by repeat (first | exact List.mem_cons_self | exact h1.out | exact h2.out | exact h3.out | exact h4.out | exact h5.out | exact h6.out | exact h7.out | exact h8.out | exact h9.out | exact h10.out | exact h11.out | exact h12.out | exact h13.out | exact h14.out | apply List.mem_cons_of_mem)) (by decide)).mono ?_; rintro e w' ⟨k, c, rfl, HT⟩; clear HS; have HS := HT; clear HT)
    | ((with_reducible refine upon_ins EB HS HN (by decide) (by intro p hp; repeat (first | exact hp | apply List.mem_cons_of_mem)) Tryd.underlying57 ?_ _ (by repeat (first | exact List.mem_cons_self | exact h1.out | exact h2.out | exact h3.out | exact h4.out | exact h5.out | exact h6.out | exact h7.out | exact h8.out | exact h9.out | exact h10.out | exact h11.out | exact h12.out | exact h13.out | exact h14.out | apply List.mem_cons_of_mem)) ?_); exact (by decide); intro w' L' HL2 HT HN2; have HLN := Lib.hid (HL2.out.trans (congrArg _ HL.out)); clear HS HN HL HL2; have HS := HT; have HN := HN2; have HL := HLN; clear HT HN2 HLN))
  rw [HR.out]
  clear HR
  clear rest
  simp only [List.drop_succ_cons, List.drop_zero]
  refine wpList_split 8 ?_
  intro rest HR
  simp only [List.take_succ_cons, List.take_zero, List.cons_append, List.nil_append, List.drop_succ_cons, List.drop_zero]
  go_wp2_with (first
    | (go_at_call 45; refine (many_k HS _ _).mono ?_; rintro e w' ⟨rfl, HT⟩; clear HS; have HS := HT; clear HT)
    | (go_at_call 55; refine (perhaps_k HS _ _).mono ?_; rintro e w' ⟨rfl, HT⟩; clear HS; have HS := HT; clear HT)
    | (go_at_call 41; (with_reducible refine at_of_ 42 1 ?_); refine (of_k1 HS text_empty (by repeat (first | exact List.mem_cons_self | exact h1.out | exact h2.out | exact h3.out | exact h4.out | exact h5.out | exact h6.out | exact h7.out | exact h8.out | exact h9.out | exact h10.out | exact h11.out | exact h12.out | exact h13.out | exact h14.out | apply List.mem_cons_of_mem)) (by decide)).mono ?_; rintro e w' ⟨k, c, rfl, HT⟩; clear HS; have HS := HT; clear HT)
    | (go_at_call 41; (with_reducible refine at_of_ 49 1 ?_); refine (of_k1 HS text_name (by repeat (first | exact List.mem_cons_self | exact h1.out | exact h2.out | exact h3.out | exact h4.out | exact h5.out | exact h6.out | exact h7.out | exact h8.out | exact h9.out | exact h10.out | exact h11.out | exact h12.out | exact h13.out | exact h14.out | apply List.mem_cons_of_mem)) (by decide)).mono ?_; rintro e w' ⟨k, c, rfl, HT⟩; clear HS; have HS := HT; clear HT)
    | ((with_reducible refine upon_ins EB HS HN (by decide) (by intro p hp; repeat (first | exact hp | apply List.mem_cons_of_mem)) Tryd.underlying57 ?_ _ (by repeat (first | exact List.mem_cons_self | exact h1.out | exact h2.out | exact h3.out | exact h4.out | exact h5.out | exact h6.out | exact h7.out | exact h8.out | exact h9.out | exact h10.out | exact h11.out | exact h12.out | exact h13.out | exact h14.out | apply List.mem_cons_of_mem)) ?_); exact (by decide); intro w' L' HL2 HT HN2; have HLN := Lib.hid (HL2.out.trans (congrArg _ HL.out)); clear HS HN HL HL2; have HS := HT; have HN := HN2; have HL := HLN; clear HT HN2 HLN))
  rw [HR.out]
  clear HR
  clear rest
  simp only [List.drop_succ_cons, List.drop_zero]
  refine wpList_split 12 ?_
  intro rest HR
  simp only [List.take_succ_cons, List.take_zero, List.cons_append, List.nil_append, List.drop_succ_cons, List.drop_zero]
  go_wp2_with (first
    | (go_at_call 43; refine (one_k HS _ _).mono ?_; rintro e w' ⟨rfl, HT⟩; clear HS; have HS := HT; clear HT)
    | (go_at_call 45; refine (many_k HS _ _).mono ?_; rintro e w' ⟨rfl, HT⟩; clear HS; have HS := HT; clear HT)
    | (go_at_call 41; (with_reducible refine at_of_ 42 2 ?_); refine (of_k2 HS text_empty (by repeat (first | exact List.mem_cons_self | exact h1.out | exact h2.out | exact h3.out | exact h4.out | exact h5.out | exact h6.out | exact h7.out | exact h8.out | exact h9.out | exact h10.out | exact h11.out | exact h12.out | exact h13.out | exact h14.out | apply List.mem_cons_of_mem)) (by decide) (by repeat (first | exact List.mem_cons_self | exact h1.out | exact h2.out | exact h3.out | exact h4.out | exact h5.out | exact h6.out | exact h7.out | exact h8.out | exact h9.out | exact h10.out | exact h11.out | exact h12.out | exact h13.out | exact h14.out | apply List.mem_cons_of_mem)) (by decide)).mono ?_; rintro e w' ⟨k, c, rfl, HT⟩; clear HS; have HS := HT; clear HT)
    | ((with_reducible refine upon_ins EB HS HN (by decide) (by intro p hp; repeat (first | exact hp | apply List.mem_cons_of_mem)) Tryd.underlying57 ?_ _ (by repeat (first | exact List.mem_cons_self | exact h1.out | exact h2.out | exact h3.out | exact h4.out | exact h5.out | exact h6.out | exact h7.out | exact h8.out | exact h9.out | exact h10.out | exact h11.out | exact h12.out | exact h13.out | exact h14.out | apply List.mem_cons_of_mem)) ?_); exact (by decide); intro w' L' HL2 HT HN2; have HLN := Lib.hid (HL2.out.trans (congrArg _ HL.out)); clear HS HN HL HL2; have HS := HT; have HN := HN2; have HL := HLN; clear HT HN2 HLN))
  rw [HR.out]
  clear HR
  clear rest
  simp only [List.drop_succ_cons, List.drop_zero]
  refine wpList_split 13 ?_
  intro rest HR
  simp only [List.take_succ_cons, List.take_zero, List.cons_append, List.nil_append, List.drop_succ_cons, List.drop_zero]
  go_wp2_with (first
    | (go_at_call 43; refine (one_k HS _ _).mono ?_; rintro e w' ⟨rfl, HT⟩; clear HS; have HS := HT; clear HT)
    | (go_at_call 55; refine (perhaps_k HS _ _).mono ?_; rintro e w' ⟨rfl, HT⟩; clear HS; have HS := HT; clear HT)
    | (go_at_call 41; (with_reducible refine at_of_ 52 2 ?_); refine (of_k2 HS text_arith (by repeat (first | exact List.mem_cons_self | exact h1.out | exact h2.out | exact h3.out | exact h4.out | exact h5.out | exact h6.out | exact h7.out | exact h8.out | exact h9.out | exact h10.out | exact h11.out | exact h12.out | exact h13.out | exact h14.out | apply List.mem_cons_of_mem)) (by decide) (by repeat (first | exact List.mem_cons_self | exact h1.out | exact h2.out | exact h3.out | exact h4.out | exact h5.out | exact h6.out | exact h7.out | exact h8.out | exact h9.out | exact h10.out | exact h11.out | exact h12.out | exact h13.out | exact h14.out | apply List.mem_cons_of_mem)) (by decide)).mono ?_; rintro e w' ⟨k, c, rfl, HT⟩; clear HS; have HS := HT; clear HT)
    | (go_at_call 41; (with_reducible refine at_of_ 42 3 ?_); refine (of_k3 HS text_empty (by repeat (first | exact List.mem_cons_self | exact h1.out | exact h2.out | exact h3.out | exact h4.out | exact h5.out | exact h6.out | exact h7.out | exact h8.out | exact h9.out | exact h10.out | exact h11.out | exact h12.out | exact h13.out | exact h14.out | apply List.mem_cons_of_mem)) (by decide) (by repeat (first | exact List.mem_cons_self | exact h1.out | exact h2.out | exact h3.out | exact h4.out | exact h5.out | exact h6.out | exact h7.out | exact h8.out | exact h9.out | exact h10.out | exact h11.out | exact h12.out | exact h13.out | exact h14.out | apply List.mem_cons_of_mem)) (by decide) (by repeat (first | exact List.mem_cons_self | exact h1.out | exact h2.out | exact h3.out | exact h4.out | exact h5.out | exact h6.out | exact h7.out | exact h8.out | exact h9.out | exact h10.out | exact h11.out | exact h12.out | exact h13.out | exact h14.out | apply List.mem_cons_of_mem)) (by decide)).mono ?_; rintro e w' ⟨k, c, rfl, HT⟩; clear HS; have HS := HT; clear HT)
    | ((with_reducible refine upon_ins EB HS HN (by decide) (by intro p hp; repeat (first | exact hp | apply List.mem_cons_of_mem)) Tryd.underlying57 ?_ _ (by repeat (first | exact List.mem_cons_self | exact h1.out | exact h2.out | exact h3.out | exact h4.out | exact h5.out | exact h6.out | exact h7.out | exact h8.out | exact h9.out | exact h10.out | exact h11.out | exact h12.out | exact h13.out | exact h14.out | apply List.mem_cons_of_mem)) ?_); exact (by decide); intro w' L' HL2 HT HN2; have HLN := Lib.hid (HL2.out.trans (congrArg _ HL.out)); clear HS HN HL HL2; have HS := HT; have HN := HN2; have HL := HLN; clear HT HN2 HLN))
  rw [HR.out]
  clear HR
  clear rest
  simp only [List.drop_succ_cons, List.drop_zero]
  refine wpList_split 13 ?_
  intro rest HR
  simp only [List.take_succ_cons, List.take_zero, List.cons_append, List.nil_append, List.drop_succ_cons, List.drop_zero]
  go_wp2_with (first
    | (go_at_call 43; refine (one_k HS _ _).mono ?_; rintro e w' ⟨rfl, HT⟩; clear HS; have HS := HT; clear HT)
    | (go_at_call 41; (with_reducible refine at_of_ 42 2 ?_); refine (of_k2 HS text_empty (by repeat (first | exact List.mem_cons_self | exact h1.out | exact h2.out | exact h3.out | exact h4.out | exact h5.out | exact h6.out | exact h7.out | exact h8.out | exact h9.out | exact h10.out | exact h11.out | exact h12.out | exact h13.out | exact h14.out | apply List.mem_cons_of_mem)) (by decide) (by repeat (first | exact List.mem_cons_self | exact h1.out | exact h2.out | exact h3.out | exact h4.out | exact h5.out | exact h6.out | exact h7.out | exact h8.out | exact h9.out | exact h10.out | exact h11.out | exact h12.out | exact h13.out | exact h14.out | apply List.mem_cons_of_mem)) (by decide)).mono ?_; rintro e w' ⟨k, c, rfl, HT⟩; clear HS; have HS := HT; clear HT)
    | (go_at_call 41; (with_reducible refine at_of_ 42 3 ?_); refine (of_k3 HS text_empty (by repeat (first | exact List.mem_cons_self | exact h1.out | exact h2.out | exact h3.out | exact h4.out | exact h5.out | exact h6.out | exact h7.out | exact h8.out | exact h9.out | exact h10.out | exact h11.out | exact h12.out | exact h13.out | exact h14.out | apply List.mem_cons_of_mem)) (by decide) (by repeat (first | exact List.mem_cons_self | exact h1.out | exact h2.out | exact h3.out | exact h4.out | exact h5.out | exact h6.out | exact h7.out | exact h8.out | exact h9.out | exact h10.out | exact h11.out | exact h12.out | exact h13.out | exact h14.out | apply List.mem_cons_of_mem)) (by decide) (by repeat (first | exact List.mem_cons_self | exact h1.out | exact h2.out | exact h3.out | exact h4.out | exact h5.out | exact h6.out | exact h7.out | exact h8.out | exact h9.out | exact h10.out | exact h11.out | exact h12.out | exact h13.out | exact h14.out | apply List.mem_cons_of_mem)) (by decide)).mono ?_; rintro e w' ⟨k, c, rfl, HT⟩; clear HS; have HS := HT; clear HT)
    | ((with_reducible refine upon_ins EB HS HN (by decide) (by intro p hp; repeat (first | exact hp | apply List.mem_cons_of_mem)) Tryd.underlying57 ?_ _ (by repeat (first | exact List.mem_cons_self | exact h1.out | exact h2.out | exact h3.out | exact h4.out | exact h5.out | exact h6.out | exact h7.out | exact h8.out | exact h9.out | exact h10.out | exact h11.out | exact h12.out | exact h13.out | exact h14.out | apply List.mem_cons_of_mem)) ?_); exact (by decide); intro w' L' HL2 HT HN2; have HLN := Lib.hid (HL2.out.trans (congrArg _ HL.out)); clear HS HN HL HL2; have HS := HT; have HN := HN2; have HL := HLN; clear HT HN2 HLN))
  rw [HR.out]
  clear HR
  clear rest
  simp only [List.drop_succ_cons, List.drop_zero]
  refine wpList_split 14 ?_
  intro rest HR
  simp only [List.take_succ_cons, List.take_zero, List.cons_append, List.nil_append, List.drop_succ_cons, List.drop_zero]
  go_wp2_with (first
    | (go_at_call 43; refine (one_k HS _ _).mono ?_; rintro e w' ⟨rfl, HT⟩; clear HS; have HS := HT; clear HT)
    | (go_at_call 45; refine (many_k HS _ _).mono ?_; rintro e w' ⟨rfl, HT⟩; clear HS; have HS := HT; clear HT)
    | (go_at_call 50; (with_reducible refine at_both_ 54 ?_); refine (both_k HS (by repeat (first | exact List.mem_cons_self | exact h1.out | exact h2.out | exact h3.out | exact h4.out | exact h5.out | exact h6.out | exact h7.out | exact h8.out | exact h9.out | exact h10.out | exact h11.out | exact h12.out | exact h13.out | exact h14.out | apply List.mem_cons_of_mem)) (test_defs_of _)).mono ?_; rintro e w' ⟨k, c, rfl, HT⟩; clear HS; have HS := HT; clear HT)
    | (go_at_call 41; (with_reducible refine at_of_ 49 2 ?_); refine (of_k2 HS text_name (by repeat (first | exact List.mem_cons_self | exact h1.out | exact h2.out | exact h3.out | exact h4.out | exact h5.out | exact h6.out | exact h7.out | exact h8.out | exact h9.out | exact h10.out | exact h11.out | exact h12.out | exact h13.out | exact h14.out | apply List.mem_cons_of_mem)) (by decide) (by repeat (first | exact List.mem_cons_self | exact h1.out | exact h2.out | exact h3.out | exact h4.out | exact h5.out | exact h6.out | exact h7.out | exact h8.out | exact h9.out | exact h10.out | exact h11.out | exact h12.out | exact h13.out | exact h14.out | apply List.mem_cons_of_mem)) (by decide)).mono ?_; rintro e w' ⟨k, c, rfl, HT⟩; clear HS; have HS := HT; clear HT)
    | ((with_reducible refine upon_ins EB HS HN (by decide) (by intro p hp; repeat (first | exact hp | apply List.mem_cons_of_mem)) Tryd.underlying57 ?_ _ (by repeat (first | exact List.mem_cons_self | exact h1.out | exact h2.out | exact h3.out | exact h4.out | exact h5.out | exact h6.out | exact h7.out | exact h8.out | exact h9.out | exact h10.out | exact h11.out | exact h12.out | exact h13.out | exact h14.out | apply List.mem_cons_of_mem)) ?_); exact (by decide); intro w' L' HL2 HT HN2; have HLN := Lib.hid (HL2.out.trans (congrArg _ HL.out)); clear HS HN HL HL2; have HS := HT; have HN := HN2; have HL := HLN; clear HT HN2 HLN))
  rw [HR.out]
  clear HR
  clear rest
  simp only [List.drop_succ_cons, List.drop_zero]
  refine wpList_split 10 ?_
  intro rest HR
  simp only [List.take_succ_cons, List.take_zero, List.cons_append, List.nil_append, List.drop_succ_cons, List.drop_zero]
  go_wp2_with (first
    | (go_at_call 43; refine (one_k HS _ _).mono ?_; rintro e w' ⟨rfl, HT⟩; clear HS; have HS := HT; clear HT)
    | (go_at_call 45; refine (many_k HS _ _).mono ?_; rintro e w' ⟨rfl, HT⟩; clear HS; have HS := HT; clear HT)
    | (go_at_call 55; refine (perhaps_k HS _ _).mono ?_; rintro e w' ⟨rfl, HT⟩; clear HS; have HS := HT; clear HT)
    | (go_at_call 41; (with_reducible refine at_of_ 42 1 ?_); refine (of_k1 HS text_empty (by repeat (first | exact List.mem_cons_self | exact h1.out | exact h2.out | exact h3.out | exact h4.out | exact h5.out | exact h6.out | exact h7.out | exact h8.out | exact h9.out | exact h10.out | exact h11.out | exact h12.out | exact h13.out | exact h14.out | apply List.mem_cons_of_mem)) (by decide)).mono ?_; rintro e w' ⟨k, c, rfl, HT⟩; clear HS; have HS := HT; clear HT)
    | (go_at_call 41; (with_reducible refine at_of_ 49 2 ?_); refine (of_k2 HS text_name (by repeat (first | exact List.mem_cons_self | exact h1.out | exact h2.out | exact h3.out | exact h4.out | exact h5.out | exact h6.out | exact h7.out | exact h8.out | exact h9.out | exact h10.out | exact h11.out | exact h12.out | exact h13.out | exact h14.out | apply List.mem_cons_of_mem)) (by decide) (by repeat (first | exact List.mem_cons_self | exact h1.out | exact h2.out | exact h3.out | exact h4.out | exact h5.out | exact h6.out | exact h7.out | exact h8.out | exact h9.out | exact h10.out | exact h11.out | exact h12.out | exact h13.out | exact h14.out | apply List.mem_cons_of_mem)) (by decide)).mono ?_; rintro e w' ⟨k, c, rfl, HT⟩; clear HS; have HS := HT; clear HT)
    | ((with_reducible refine upon_ins EB HS HN (by decide) (by intro p hp; repeat (first | exact hp | apply List.mem_cons_of_mem)) Tryd.underlying57 ?_ _ (by repeat (first | exact List.mem_cons_self | exact h1.out | exact h2.out | exact h3.out | exact h4.out | exact h5.out | exact h6.out | exact h7.out | exact h8.out | exact h9.out | exact h10.out | exact h11.out | exact h12.out | exact h13.out | exact h14.out | apply List.mem_cons_of_mem)) ?_); exact (by decide); intro w' L' HL2 HT HN2; have HLN := Lib.hid (HL2.out.trans (congrArg _ HL.out)); clear HS HN HL HL2; have HS := HT; have HN := HN2; have HL := HLN; clear HT HN2 HLN))
  rw [HR.out]
  clear HR
  clear rest
  simp only [List.drop_succ_cons, List.drop_zero]
  refine wpList_split 14 ?_
  intro rest HR
  simp only [List.take_succ_cons, List.take_zero, List.cons_append, List.nil_append, List.drop_succ_cons, List.drop_zero]
  go_wp2_with (first
    | (go_at_call 43; refine (one_k HS _ _).mono ?_; rintro e w' ⟨rfl, HT⟩; clear HS; have HS := HT; clear HT)
    | (go_at_call 45; refine (many_k HS _ _).mono ?_; rintro e w' ⟨rfl, HT⟩; clear HS; have HS := HT; clear HT)
    | (go_at_call 55; refine (perhaps_k HS _ _).mono ?_; rintro e w' ⟨rfl, HT⟩; clear HS; have HS := HT; clear HT)
    | (go_at_call 50; (with_reducible refine at_both_ 59 ?_); refine (both_k HS (by repeat (first | exact List.mem_cons_self | exact h1.out | exact h2.out | exact h3.out | exact h4.out | exact h5.out | exact h6.out | exact h7.out | exact h8.out | exact h9.out | exact h10.out | exact h11.out | exact h12.out | exact h13.out | exact h14.out | apply List.mem_cons_of_mem)) (test_guard_of _)).mono ?_; rintro e w' ⟨k, c, rfl, HT⟩; clear HS; have HS := HT; clear HT)
    | (go_at_call 41; (with_reducible refine at_of_ 42 1 ?_); refine (of_k1 HS text_empty (by repeat (first | exact List.mem_cons_self | exact h1.out | exact h2.out | exact h3.out | exact h4.out | exact h5.out | exact h6.out | exact h7.out | exact h8.out | exact h9.out | exact h10.out | exact h11.out | exact h12.out | exact h13.out | exact h14.out | apply List.mem_cons_of_mem)) (by decide)).mono ?_; rintro e w' ⟨k, c, rfl, HT⟩; clear HS; have HS := HT; clear HT)
    | (go_at_call 41; (with_reducible refine at_of_ 42 3 ?_); refine (of_k3 HS text_empty (by repeat (first | exact List.mem_cons_self | exact h1.out | exact h2.out | exact h3.out | exact h4.out | exact h5.out | exact h6.out | exact h7.out | exact h8.out | exact h9.out | exact h10.out | exact h11.out | exact h12.out | exact h13.out | exact h14.out | apply List.mem_cons_of_mem)) (by decide) (by repeat (first | exact List.mem_cons_self | exact h1.out | exact h2.out | exact h3.out | exact h4.out | exact h5.out | exact h6.out | exact h7.out | exact h8.out | exact h9.out | exact h10.out | exact h11.out | exact h12.out | exact h13.out | exact h14.out | apply List.mem_cons_of_mem)) (by decide) (by repeat (first | exact List.mem_cons_self | exact h1.out | exact h2.out | exact h3.out | exact h4.out | exact h5.out | exact h6.out | exact h7.out | exact h8.out | exact h9.out | exact h10.out | exact h11.out | exact h12.out | exact h13.out | exact h14.out | apply List.mem_cons_of_mem)) (by decide)).mono ?_; rintro e w' ⟨k, c, rfl, HT⟩; clear HS; have HS := HT; clear HT)
    | ((with_reducible refine upon_ins EB HS HN (by decide) (by intro p hp; repeat (first | exact hp | apply List.mem_cons_of_mem)) Tryd.underlying57 ?_ _ (by repeat (first | exact List.mem_cons_self | exact h1.out | exact h2.out | exact h3.out | exact h4.out | exact h5.out | exact h6.out | exact h7.out | exact h8.out | exact h9.out | exact h10.out | exact h11.out | exact h12.out | exact h13.out | exact h14.out | apply List.mem_cons_of_mem)) ?_); exact (by decide); intro w' L' HL2 HT HN2; have HLN := Lib.hid (HL2.out.trans (congrArg _ HL.out)); clear HS HN HL HL2; have HS := HT; have HN := HN2; have HL := HLN; clear HT HN2 HLN))
  rw [HR.out]
  clear HR
  clear rest
  simp only [List.drop_succ_cons, List.drop_zero]
  refine wpList_split 11 ?_
  intro rest HR
  simp only [List.take_succ_cons, List.take_zero, List.cons_append, List.nil_append, List.drop_succ_cons, List.drop_zero]
  go_wp2_with (first
    | (go_at_call 43; refine (one_k HS _ _).mono ?_; rintro e w' ⟨rfl, HT⟩; clear HS; have HS := HT; clear HT)
    | (go_at_call 41; (with_reducible refine at_of_ 42 1 ?_); refine (of_k1 HS text_empty (by repeat (first | exact List.mem_cons_self | exact h1.out | exact h2.out | exact h3.out | exact h4.out | exact h5.out | exact h6.out | exact h7.out | exact h8.out | exact h9.out | exact h10.out | exact h11.out | exact h12.out | exact h13.out | exact h14.out | apply List.mem_cons_of_mem)) (by decide)).mono ?_; rintro e w' ⟨k, c, rfl, HT⟩; clear HS; have HS := HT; clear HT)
    | (go_at_call 41; (with_reducible refine at_of_ 61 2 ?_); refine (of_k2 HS text_nameE (by repeat (first | exact List.mem_cons_self | exact h1.out | exact h2.out | exact h3.out | exact h4.out | exact h5.out | exact h6.out | exact h7.out | exact h8.out | exact h9.out | exact h10.out | exact h11.out | exact h12.out | exact h13.out | exact h14.out | apply List.mem_cons_of_mem)) (by decide) (by repeat (first | exact List.mem_cons_self | exact h1.out | exact h2.out | exact h3.out | exact h4.out | exact h5.out | exact h6.out | exact h7.out | exact h8.out | exact h9.out | exact h10.out | exact h11.out | exact h12.out | exact h13.out | exact h14.out | apply List.mem_cons_of_mem)) (by decide)).mono ?_; rintro e w' ⟨k, c, rfl, HT⟩; clear HS; have HS := HT; clear HT)
    | (go_at_call 60; refine (either_k HS (by repeat (first | exact List.mem_cons_self | exact h1.out | exact h2.out | exact h3.out | exact h4.out | exact h5.out | exact h6.out | exact h7.out | exact h8.out | exact h9.out | exact h10.out | exact h11.out | exact h12.out | exact h13.out | exact h14.out | apply List.mem_cons_of_mem)) (by repeat (first | exact List.mem_cons_self | exact h1.out | exact h2.out | exact h3.out | exact h4.out | exact h5.out | exact h6.out | exact h7.out | exact h8.out | exact h9.out | exact h10.out | exact h11.out | exact h12.out | exact h13.out | exact h14.out | apply List.mem_cons_of_mem))).mono ?_; rintro e w' ⟨k, c, rfl, HT⟩; clear HS; have HS := HT; clear HT)
    | ((with_reducible refine upon_ins EB HS HN (by decide) (by intro p hp; repeat (first | exact hp | apply List.mem_cons_of_mem)) Tryd.underlying57 ?_ _ (by repeat (first | exact List.mem_cons_self | exact h1.out | exact h2.out | exact h3.out | exact h4.out | exact h5.out | exact h6.out | exact h7.out | exact h8.out | exact h9.out | exact h10.out | exact h11.out | exact h12.out | exact h13.out | exact h14.out | apply List.mem_cons_of_mem)) ?_); exact (by decide); intro w' L' HL2 HT HN2; have HLN := Lib.hid (HL2.out.trans (congrArg _ HL.out)); clear HS HN HL HL2; have HS := HT; have HN := HN2; have HL := HLN; clear HT HN2 HLN))
  rw [HR.out]
  clear HR
  clear rest
  simp only [List.drop_succ_cons, List.drop_zero]
  refine wpList_split 9 ?_
  intro rest HR
  simp only [List.take_succ_cons, List.take_zero, List.cons_append, List.nil_append, List.drop_succ_cons, List.drop_zero]
  go_wp2_with (first
    | (go_at_call 43; refine (one_k HS _ _).mono ?_; rintro e w' ⟨rfl, HT⟩; clear HS; have HS := HT; clear HT)
    | (go_at_call 41; (with_reducible refine at_of_ 42 1 ?_); refine (of_k1 HS text_empty (by repeat (first | exact List.mem_cons_self | exact h1.out | exact h2.out | exact h3.out | exact h4.out | exact h5.out | exact h6.out | exact h7.out | exact h8.out | exact h9.out | exact h10.out | exact h11.out | exact h12.out | exact h13.out | exact h14.out | apply List.mem_cons_of_mem)) (by decide)).mono ?_; rintro e w' ⟨k, c, rfl, HT⟩; clear HS; have HS := HT; clear HT)
    | (go_at_call 41; (with_reducible refine at_of_ 62 0 ?_); refine (of_k0 HS text_names ).mono ?_; rintro e w' ⟨k, c, rfl, HT⟩; clear HS; have HS := HT; clear HT)
    | ((with_reducible refine upon_ins EB HS HN (by decide) (by intro p hp; repeat (first | exact hp | apply List.mem_cons_of_mem)) Tryd.underlying57 ?_ _ (by repeat (first | exact List.mem_cons_self | exact h1.out | exact h2.out | exact h3.out | exact h4.out | exact h5.out | exact h6.out | exact h7.out | exact h8.out | exact h9.out | exact h10.out | exact h11.out | exact h12.out | exact h13.out | exact h14.out | apply List.mem_cons_of_mem)) ?_); exact (by decide); intro w' L' HL2 HT HN2; have HLN := Lib.hid (HL2.out.trans (congrArg _ HL.out)); clear HS HN HL HL2; have HS := HT; have HN := HN2; have HL := HLN; clear HT HN2 HLN))
  rw [HR.out]
  clear HR
  clear rest
  simp only [List.drop_succ_cons, List.drop_zero]
  refine wpList_split 9 ?_
  intro rest HR
  simp only [List.take_succ_cons, List.take_zero, List.cons_append, List.nil_append, List.drop_succ_cons, List.drop_zero]
  go_wp2_with (first
    | (go_at_call 43; refine (one_k HS _ _).mono ?_; rintro e w' ⟨rfl, HT⟩; clear HS; have HS := HT; clear HT)
    | (go_at_call 55; refine (perhaps_k HS _ _).mono ?_; rintro e w' ⟨rfl, HT⟩; clear HS; have HS := HT; clear HT)
    | (go_at_call 41; (with_reducible refine at_of_ 42 1 ?_); refine (of_k1 HS text_empty (by repeat (first | exact List.mem_cons_self | exact h1.out | exact h2.out | exact h3.out | exact h4.out | exact h5.out | exact h6.out | exact h7.out | exact h8.out | exact h9.out | exact h10.out | exact h11.out | exact h12.out | exact h13.out | exact h14.out | apply List.mem_cons_of_mem)) (by decide)).mono ?_; rintro e w' ⟨k, c, rfl, HT⟩; clear HS; have HS := HT; clear HT)
    | (go_at_call 41; (with_reducible refine at_of_ 42 2 ?_); refine (of_k2 HS text_empty (by repeat (first | exact List.mem_cons_self | exact h1.out | exact h2.out | exact h3.out | exact h4.out | exact h5.out | exact h6.out | exact h7.out | exact h8.out | exact h9.out | exact h10.out | exact h11.out | exact h12.out | exact h13.out | exact h14.out | apply List.mem_cons_of_mem)) (by decide) (by repeat (first | exact List.mem_cons_self | exact h1.out | exact h2.out | exact h3.out | exact h4.out | exact h5.out | exact h6.out | exact h7.out | exact h8.out | exact h9.out | exact h10.out | exact h11.out | exact h12.out | exact h13.out | exact h14.out | apply List.mem_cons_of_mem)) (by decide)).mono ?_; rintro e w' ⟨k, c, rfl, HT⟩; clear HS; have HS := HT; clear HT)
    | ((with_reducible refine upon_ins EB HS HN (by decide) (by intro p hp; repeat (first | exact hp | apply List.mem_cons_of_mem)) Tryd.underlying57 ?_ _ (by repeat (first | exact List.mem_cons_self | exact h1.out | exact h2.out | exact h3.out | exact h4.out | exact h5.out | exact h6.out | exact h7.out | exact h8.out | exact h9.out | exact h10.out | exact h11.out | exact h12.out | exact h13.out | exact h14.out | apply List.mem_cons_of_mem)) ?_); exact (by decide); intro w' L' HL2 HT HN2; have HLN := Lib.hid (HL2.out.trans (congrArg _ HL.out)); clear HS HN HL HL2; have HS := HT; have HN := HN2; have HL := HLN; clear HT HN2 HLN))
  rw [HR.out]
  clear HR
  clear rest
  simp only [List.drop_succ_cons, List.drop_zero]
  refine wpList_split 4 ?_
  intro rest HR
  simp only [List.take_succ_cons, List.take_zero, List.cons_append, List.nil_append, List.drop_succ_cons, List.drop_zero]
  go_wp2_with (first
    | ((with_reducible refine upon_ins EB HS HN (by decide) (by intro p hp; repeat (first | exact hp | apply List.mem_cons_of_mem)) Tryd.underlying57 ?_ _ (by repeat (first | exact List.mem_cons_self | exact h1.out | exact h2.out | exact h3.out | exact h4.out | exact h5.out | exact h6.out | exact h7.out | exact h8.out | exact h9.out | exact h10.out | exact h11.out | exact h12.out | exact h13.out | exact h14.out | apply List.mem_cons_of_mem)) ?_); exact (by decide); intro w' L' HL2 HT HN2; have HLN := Lib.hid (HL2.out.trans (congrArg _ HL.out)); clear HS HN HL HL2; have HS := HT; have HN := HN2; have HL := HLN; clear HT HN2 HLN))
  rw [HR.out]
  clear HR
  clear rest
  simp only [List.drop_succ_cons, List.drop_zero]
  go_wp2_with fail
  go_ret
  refine ⟨_, EB, rfl, Kst.rev ?_ (by decide)⟩
  have e : (kindOf sNames).reverse = L' := by rw [HL.out]; rfl
  rw [e]
  exact HS.out
end Go.Proofs.YtkmmcphiijolkaaDoor
