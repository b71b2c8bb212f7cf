/-
  Texts of the tree package put behind one another: TreeY, TreeBB, TreeFF, TreeLL, TreeMM.
-/
import Derived.Test.YtkmmcphiijolkaaGreatDoorZh
import Derived.Test.YtkmmcphiijolkaaGreatDoorRows
import Derived.Below
import Derived.ChangeSame
import Derived.ProofKit
import Derived.LaidMore
import Derived.OpenShut
import Derived.Stop.Joined
import Derived.HandedShaped
import Derived.Shelf.Vars
import Derived.Lay
import Derived.Test.YtkmmcphiijolkaaGreatDoorZb
import Derived.Deep.Slices
import Derived.Carry
import Derived.Test.YtkmmcphiijolkaaGreatDoorZg
import Derived.Deep.RegionHeld3
import Derived.Deep.AppendLies
set_option linter.unusedVariables false
set_option linter.unusedSimpArgs false
namespace Go.Proofs.YtkmmcphiijolkaaGreatDoor
open Go.RowKit Go.Shelf
open Tr

theorem test_defs_of {f : Sp.Bs → Bool} {p : PartD} {T : Test} (w : World) : IsTest (fun t x => tOf f [p, (T, Int.toNat 1, Int.toNat 1)] t x = true) tDefs (.func (.func 65) #[] #[]) w :=
  (test_defs w).imp fun t x _ _ h => by
    simp only [tOf, Bool.and_eq_true] at h
    exact fits_one [p] _ h.2
theorem guard_pre {f : Sp.Bs → Bool} {ps : List PartD} {T : Test} {t : List NodeD} {x : NodeD} (h : tOf f ((T, 1, 1) :: ps) t x = true) : 1 ≤ x.2.2.2.2.length := by
  simp only [tOf, Bool.and_eq_true] at h
  have h := h.2
  cases hx : x.2.2.2.2 with
  | nil => rw [hx] at h; simp [fits, greedy] at h
  | cons => simp
theorem test_guard_of {f : Sp.Bs → Bool} {ps : List PartD} {T : Test} (w : World) : IsTest (fun t x => tOf f ((T, Int.toNat 1, Int.toNat 1) :: ps) t x = true) tGuard (.func (.func 70) #[] #[]) w :=
  (test_guard w).imp fun t x _ _ h => guard_pre h
theorem test_even_of {Ta : Test} (w : World) : IsTest (fun t x => Ta t x = true) tEven (.func (.func 62) #[] #[]) w := (test_even w).imp fun t x _ _ h => trivial

def E0 : List (Value × Test) := [(.func (.func 55) #[] #[], tExpr), (.func (.func 67) #[] #[], tStmt), (.func (.func 69) #[] #[], tTarget), (.func (.func 68) #[] #[], tWide), (.func (.func 58) #[] #[], tNumber)]
theorem kst0 (w : World) : Kst w w w.heap.size [] E0 :=
  ⟨Below.refl _ _, fun p hp => by
    simp only [E0, List.mem_cons, List.not_mem_nil, or_false] at hp
    rcases hp with rfl | rfl | rfl | rfl | rfl
    · exact test_expr w
    · exact test_stmt w
    · exact test_target w
    · exact test_wide w
    · exact test_number w, Nat.le_refl _, Or.inl rfl⟩

set_option maxHeartbeats 400000000 in
set_option maxRecDepth 100000 in
theorem kinds_any (w : World) : Calls Tryz.prog 27 #[] w fun e w' => ∃ b E, e = .returned (.map (some b)) ∧ Kst w w' b (kindOf sNames) E := by
  have HS : Hid (Kst w w w.heap.size [] E0) := kst0 w
  unfold E0 at HS
  go_enter Tryz.func27, Tryz.ntmps27
  go_upto_region 7 with (first
    | (go_at_call 54; refine (one_k HS _ _).mono ?_; rintro e w' ⟨rfl, HT⟩; clear HS; have HS := HT; clear HT)
    | (go_at_call 56; refine (many_k HS _ _).mono ?_; rintro e w' ⟨rfl, HT⟩; clear HS; have HS := HT; clear HT)
    | (go_at_call 57; refine (op_k HS _).mono ?_; rintro e w' ⟨k, c, rfl, HT⟩; clear HS; have HS := HT; clear HT)
    | (go_at_call 52; (with_reducible refine at_of_ 53 0 ?_); refine (of_k0 HS text_empty ).mono ?_; rintro e w' ⟨k, c, rfl, HT⟩; clear HS; have HS := HT; clear HT)
    | (go_at_call 52; (with_reducible refine at_of_ 53 1 ?_); refine (of_k1 HS text_empty (by repeat (first | exact List.mem_cons_self | apply List.mem_cons_of_mem)) (by decide)).mono ?_; rintro e w' ⟨k, c, rfl, HT⟩; clear HS; have HS := HT; clear HT)
    | (go_at_call 52; (with_reducible refine at_of_ 53 2 ?_); refine (of_k2 HS text_empty (by repeat (first | exact List.mem_cons_self | apply List.mem_cons_of_mem)) (by decide) (by repeat (first | exact List.mem_cons_self | apply List.mem_cons_of_mem)) (by decide)).mono ?_; rintro e w' ⟨k, c, rfl, HT⟩; clear HS; have HS := HT; clear HT)
    | (go_at_call 52; (with_reducible refine at_of_ 53 3 ?_); refine (of_k3 HS text_empty (by repeat (first | exact List.mem_cons_self | apply List.mem_cons_of_mem)) (by decide) (by repeat (first | exact List.mem_cons_self | apply List.mem_cons_of_mem)) (by decide) (by repeat (first | exact List.mem_cons_self | apply List.mem_cons_of_mem)) (by decide)).mono ?_; rintro e w' ⟨k, c, rfl, HT⟩; clear HS; have HS := HT; clear HT))
  obtain ⟨EB, HT, h1, h2, h3, h4, h5, h6, h7, h8, h9, h10, h11, h12, h13, h14⟩ := Kst.gen14 HS
  clear HS
  have HS := HT
  clear HT
  have hmm := @run_makeMap Tryz.prog
  refine wp_region_lit ?_
  refine wpList_gen ?_
  intro ops
  simp only [List.append_eq, List.cons_append, List.nil_append]
  refine wpList_split 8 ?_
  intro rest HR
  simp only [List.take_succ_cons, List.take_zero, List.cons_append, List.nil_append, List.drop_succ_cons, List.drop_zero]
  go_wp2_with (first
    | ((with_reducible refine upon_ins0 HS Tryz.underlying60 ?_ _ (by repeat (first | exact List.mem_cons_self | exact h1.out | exact h2.out | exact h3.out | exact h4.out | exact h5.out | exact h6.out | exact h7.out | exact h8.out | exact h9.out | exact h10.out | exact h11.out | exact h12.out | exact h13.out | exact h14.out | apply List.mem_cons_of_mem)) ?_); exact (by decide); intro w' L' HL HT HN; clear HS; have HS := HT; clear HT)
    | ((with_reducible refine upon_ins EB HS HN (by decide) (by intro p hp; repeat (first | exact hp | apply List.mem_cons_of_mem)) Tryz.underlying60 ?_ _ (by repeat (first | exact List.mem_cons_self | exact h1.out | exact h2.out | exact h3.out | exact h4.out | exact h5.out | exact h6.out | exact h7.out | exact h8.out | exact h9.out | exact h10.out | exact h11.out | exact h12.out | exact h13.out | exact h14.out | apply List.mem_cons_of_mem)) ?_); exact (by decide); intro w' L' HL2 HT HN2; have HLN := Lib.hid (HL2.out.trans (congrArg _ HL.out)); clear HS HN HL HL2; have HS := HT; have HN := HN2; have HL := HLN; clear HT HN2 HLN))
  rw [HR.out]
  clear HR
  clear rest
  simp only [List.drop_succ_cons, List.drop_zero]
  refine wpList_split 8 ?_
  intro rest HR
  simp only [List.take_succ_cons, List.take_zero, List.cons_append, List.nil_append, List.drop_succ_cons, List.drop_zero]
  go_wp2_with (first
    | (go_at_call 52; (with_reducible refine at_of_ 60 0 ?_); refine (of_k0 HS text_name ).mono ?_; rintro e w' ⟨k, c, rfl, HT⟩; clear HS; have HS := HT; clear HT)
    | (go_at_call 52; (with_reducible refine at_of_ 59 0 ?_); refine (of_k0 HS text_short ).mono ?_; rintro e w' ⟨k, c, rfl, HT⟩; clear HS; have HS := HT; clear HT)
    | ((with_reducible refine upon_ins EB HS HN (by decide) (by intro p hp; repeat (first | exact hp | apply List.mem_cons_of_mem)) Tryz.underlying60 ?_ _ (by repeat (first | exact List.mem_cons_self | exact h1.out | exact h2.out | exact h3.out | exact h4.out | exact h5.out | exact h6.out | exact h7.out | exact h8.out | exact h9.out | exact h10.out | exact h11.out | exact h12.out | exact h13.out | exact h14.out | apply List.mem_cons_of_mem)) ?_); exact (by decide); intro w' L' HL2 HT HN2; have HLN := Lib.hid (HL2.out.trans (congrArg _ HL.out)); clear HS HN HL HL2; have HS := HT; have HN := HN2; have HL := HLN; clear HT HN2 HLN))
  rw [HR.out]
  clear HR
  clear rest
  simp only [List.drop_succ_cons, List.drop_zero]
  refine wpList_split 12 ?_
  intro rest HR
  simp only [List.take_succ_cons, List.take_zero, List.cons_append, List.nil_append, List.drop_succ_cons, List.drop_zero]
  go_wp2_with (first
    | (go_at_call 54; refine (one_k HS _ _).mono ?_; rintro e w' ⟨rfl, HT⟩; clear HS; have HS := HT; clear HT)
    | (go_at_call 61; (with_reducible refine at_both_ 62 ?_); refine (both_k HS (by repeat (first | exact List.mem_cons_self | exact h1.out | exact h2.out | exact h3.out | exact h4.out | exact h5.out | exact h6.out | exact h7.out | exact h8.out | exact h9.out | exact h10.out | exact h11.out | exact h12.out | exact h13.out | exact h14.out | apply List.mem_cons_of_mem)) (test_even_of _)).mono ?_; rintro e w' ⟨k, c, rfl, HT⟩; clear HS; have HS := HT; clear HT)
    | (go_at_call 52; (with_reducible refine at_of_ 63 2 ?_); refine (of_k2 HS text_arith (by repeat (first | exact List.mem_cons_self | exact h1.out | exact h2.out | exact h3.out | exact h4.out | exact h5.out | exact h6.out | exact h7.out | exact h8.out | exact h9.out | exact h10.out | exact h11.out | exact h12.out | exact h13.out | exact h14.out | apply List.mem_cons_of_mem)) (by decide) (by repeat (first | exact List.mem_cons_self | exact h1.out | exact h2.out | exact h3.out | exact h4.out | exact h5.out | exact h6.out | exact h7.out | exact h8.out | exact h9.out | exact h10.out | exact h11.out | exact h12.out | exact h13.out | exact h14.out | apply List.mem_cons_of_mem)) (by decide)).mono ?_; rintro e w' ⟨k, c, rfl, HT⟩; clear HS; have HS := HT; clear HT)
    | ((with_reducible refine upon_ins EB HS HN (by decide) (by intro p hp; repeat (first | exact hp | apply List.mem_cons_of_mem)) Tryz.underlying60 ?_ _ (by repeat (first | exact List.mem_cons_self | exact h1.out | exact h2.out | exact h3.out | exact h4.out | exact h5.out | exact h6.out | exact h7.out | exact h8.out | exact h9.out | exact h10.out | exact h11.out | exact h12.out | exact h13.out | exact h14.out | apply List.mem_cons_of_mem)) ?_); exact (by decide); intro w' L' HL2 HT HN2; have HLN := Lib.hid (HL2.out.trans (congrArg _ HL.out)); clear HS HN HL HL2; have HS := HT; have HN := HN2; have HL := HLN; clear HT HN2 HLN))
  rw [HR.out]
  clear HR
  clear rest
  simp only [List.drop_succ_cons, List.drop_zero]
  refine wpList_split 9 ?_
  intro rest HR
  simp only [List.take_succ_cons, List.take_zero, List.cons_append, List.nil_append, List.drop_succ_cons, List.drop_zero]
  go_wp2_with (first
    | (go_at_call 54; refine (one_k HS _ _).mono ?_; rintro e w' ⟨rfl, HT⟩; clear HS; have HS := HT; clear HT)
    | (go_at_call 52; (with_reducible refine at_of_ 64 2 ?_); refine (of_k2 HS text_comp (by repeat (first | exact List.mem_cons_self | exact h1.out | exact h2.out | exact h3.out | exact h4.out | exact h5.out | exact h6.out | exact h7.out | exact h8.out | exact h9.out | exact h10.out | exact h11.out | exact h12.out | exact h13.out | exact h14.out | apply List.mem_cons_of_mem)) (by decide) (by repeat (first | exact List.mem_cons_self | exact h1.out | exact h2.out | exact h3.out | exact h4.out | exact h5.out | exact h6.out | exact h7.out | exact h8.out | exact h9.out | exact h10.out | exact h11.out | exact h12.out | exact h13.out | exact h14.out | apply List.mem_cons_of_mem)) (by decide)).mono ?_; rintro e w' ⟨k, c, rfl, HT⟩; clear HS; have HS := HT; clear HT)
    | ((with_reducible refine upon_ins EB HS HN (by decide) (by intro p hp; repeat (first | exact hp | apply List.mem_cons_of_mem)) Tryz.underlying60 ?_ _ (by repeat (first | exact List.mem_cons_self | exact h1.out | exact h2.out | exact h3.out | exact h4.out | exact h5.out | exact h6.out | exact h7.out | exact h8.out | exact h9.out | exact h10.out | exact h11.out | exact h12.out | exact h13.out | exact h14.out | apply List.mem_cons_of_mem)) ?_); exact (by decide); intro w' L' HL2 HT HN2; have HLN := Lib.hid (HL2.out.trans (congrArg _ HL.out)); clear HS HN HL HL2; have HS := HT; have HN := HN2; have HL := HLN; clear HT HN2 HLN))
  rw [HR.out]
  clear HR
  clear rest
  simp only [List.drop_succ_cons, List.drop_zero]
  refine wpList_split 11 ?_
  intro rest HR
  simp only [List.take_succ_cons, List.take_zero, List.cons_append, List.nil_append, List.drop_succ_cons, List.drop_zero]
  go_wp2_with (first
    | (go_at_call 54; refine (one_k HS _ _).mono ?_; rintro e w' ⟨rfl, HT⟩; clear HS; have HS := HT; clear HT)
    | (go_at_call 56; refine (many_k HS _ _).mono ?_; rintro e w' ⟨rfl, HT⟩; clear HS; have HS := HT; clear HT)
    | (go_at_call 52; (with_reducible refine at_of_ 53 2 ?_); refine (of_k2 HS text_empty (by repeat (first | exact List.mem_cons_self | exact h1.out | exact h2.out | exact h3.out | exact h4.out | exact h5.out | exact h6.out | exact h7.out | exact h8.out | exact h9.out | exact h10.out | exact h11.out | exact h12.out | exact h13.out | exact h14.out | apply List.mem_cons_of_mem)) (by decide) (by repeat (first | exact List.mem_cons_self | exact h1.out | exact h2.out | exact h3.out | exact h4.out | exact h5.out | exact h6.out | exact h7.out | exact h8.out | exact h9.out | exact h10.out | exact h11.out | exact h12.out | exact h13.out | exact h14.out | apply List.mem_cons_of_mem)) (by decide)).mono ?_; rintro e w' ⟨k, c, rfl, HT⟩; clear HS; have HS := HT; clear HT)
    | (go_at_call 52; (with_reducible refine at_of_ 60 1 ?_); refine (of_k1 HS text_name (by repeat (first | exact List.mem_cons_self | exact h1.out | exact h2.out | exact h3.out | exact h4.out | exact h5.out | exact h6.out | exact h7.out | exact h8.out | exact h9.out | exact h10.out | exact h11.out | exact h12.out | exact h13.out | exact h14.out | apply List.mem_cons_of_mem)) (by decide)).mono ?_; rintro e w' ⟨k, c, rfl, HT⟩; clear HS; have HS := HT; clear HT)
    | ((with_reducible refine upon_ins EB HS HN (by decide) (by intro p hp; repeat (first | exact hp | apply List.mem_cons_of_mem)) Tryz.underlying60 ?_ _ (by repeat (first | exact List.mem_cons_self | exact h1.out | exact h2.out | exact h3.out | exact h4.out | exact h5.out | exact h6.out | exact h7.out | exact h8.out | exact h9.out | exact h10.out | exact h11.out | exact h12.out | exact h13.out | exact h14.out | apply List.mem_cons_of_mem)) ?_); exact (by decide); intro w' L' HL2 HT HN2; have HLN := Lib.hid (HL2.out.trans (congrArg _ HL.out)); clear HS HN HL HL2; have HS := HT; have HN := HN2; have HL := HLN; clear HT HN2 HLN))
  rw [HR.out]
  clear HR
  clear rest
  simp only [List.drop_succ_cons, List.drop_zero]
  refine wpList_split 11 ?_
  intro rest HR
  simp only [List.take_succ_cons, List.take_zero, List.cons_append, List.nil_append, List.drop_succ_cons, List.drop_zero]
  go_wp2_with (first
    | (go_at_call 54; refine (one_k HS _ _).mono ?_; rintro e w' ⟨rfl, HT⟩; clear HS; have HS := HT; clear HT)
    | (go_at_call 56; refine (many_k HS _ _).mono ?_; rintro e w' ⟨rfl, HT⟩; clear HS; have HS := HT; clear HT)
    | (go_at_call 61; (with_reducible refine at_both_ 65 ?_); refine (both_k HS (by repeat (first | exact List.mem_cons_self | exact h1.out | exact h2.out | exact h3.out | exact h4.out | exact h5.out | exact h6.out | exact h7.out | exact h8.out | exact h9.out | exact h10.out | exact h11.out | exact h12.out | exact h13.out | exact h14.out | apply List.mem_cons_of_mem)) (test_defs_of _)).mono ?_; rintro e w' ⟨k, c, rfl, HT⟩; clear HS; have HS := HT; clear HT)
    | (go_at_call 52; (with_reducible refine at_of_ 53 2 ?_); refine (of_k2 HS text_empty (by repeat (first | exact List.mem_cons_self | exact h1.out | exact h2.out | exact h3.out | exact h4.out | exact h5.out | exact h6.out | exact h7.out | exact h8.out | exact h9.out | exact h10.out | exact h11.out | exact h12.out | exact h13.out | exact h14.out | apply List.mem_cons_of_mem)) (by decide) (by repeat (first | exact List.mem_cons_self | exact h1.out | exact h2.out | exact h3.out | exact h4.out | exact h5.out | exact h6.out | exact h7.out | exact h8.out | exact h9.out | exact h10.out | exact h11.out | exact h12.out | exact h13.out | exact h14.out | apply List.mem_cons_of_mem)) (by decide)).mono ?_; rintro e w' ⟨k, c, rfl, HT⟩; clear HS; have HS := HT; clear HT)
    | ((with_reducible refine upon_ins EB HS HN (by decide) (by intro p hp; repeat (first | exact hp | apply List.mem_cons_of_mem)) Tryz.underlying60 ?_ _ (by repeat (first | exact List.mem_cons_self | exact h1.out | exact h2.out | exact h3.out | exact h4.out | exact h5.out | exact h6.out | exact h7.out | exact h8.out | exact h9.out | exact h10.out | exact h11.out | exact h12.out | exact h13.out | exact h14.out | apply List.mem_cons_of_mem)) ?_); exact (by decide); intro w' L' HL2 HT HN2; have HLN := Lib.hid (HL2.out.trans (congrArg _ HL.out)); clear HS HN HL HL2; have HS := HT; have HN := HN2; have HL := HLN; clear HT HN2 HLN))
  rw [HR.out]
  clear HR
  clear rest
  simp only [List.drop_succ_cons, List.drop_zero]
  refine wpList_split 8 ?_
  intro rest HR
  simp only [List.take_succ_cons, List.take_zero, List.cons_append, List.nil_append, List.drop_succ_cons, List.drop_zero]
  go_wp2_with (first
    | (go_at_call 56; refine (many_k HS _ _).mono ?_; rintro e w' ⟨rfl, HT⟩; clear HS; have HS := HT; clear HT)
    | (go_at_call 66; refine (perhaps_k HS _ _).mono ?_; rintro e w' ⟨rfl, HT⟩; clear HS; have HS := HT; clear HT)
    | (go_at_call 52; (with_reducible refine at_of_ 53 1 ?_); refine (of_k1 HS text_empty (by repeat (first | exact List.mem_cons_self | exact h1.out | exact h2.out | exact h3.out | exact h4.out | exact h5.out | exact h6.out | exact h7.out | exact h8.out | exact h9.out | exact h10.out | exact h11.out | exact h12.out | exact h13.out | exact h14.out | apply List.mem_cons_of_mem)) (by decide)).mono ?_; rintro e w' ⟨k, c, rfl, HT⟩; clear HS; have HS := HT; clear HT)
    | (go_at_call 52; (with_reducible refine at_of_ 60 1 ?_); refine (of_k1 HS text_name (by repeat (first | exact List.mem_cons_self | exact h1.out | exact h2.out | exact h3.out | exact h4.out | exact h5.out | exact h6.out | exact h7.out | exact h8.out | exact h9.out | exact h10.out | exact h11.out | exact h12.out | exact h13.out | exact h14.out | apply List.mem_cons_of_mem)) (by decide)).mono ?_; rintro e w' ⟨k, c, rfl, HT⟩; clear HS; have HS := HT; clear HT)
    | ((with_reducible refine upon_ins EB HS HN (by decide) (by intro p hp; repeat (first | exact hp | apply List.mem_cons_of_mem)) Tryz.underlying60 ?_ _ (by repeat (first | exact List.mem_cons_self | exact h1.out | exact h2.out | exact h3.out | exact h4.out | exact h5.out | exact h6.out | exact h7.out | exact h8.out | exact h9.out | exact h10.out | exact h11.out | exact h12.out | exact h13.out | exact h14.out | apply List.mem_cons_of_mem)) ?_); exact (by decide); intro w' L' HL2 HT HN2; have HLN := Lib.hid (HL2.out.trans (congrArg _ HL.out)); clear HS HN HL HL2; have HS := HT; have HN := HN2; have HL := HLN; clear HT HN2 HLN))
  rw [HR.out]
  clear HR
  clear rest
  simp only [List.drop_succ_cons, List.drop_zero]
  refine wpList_split 12 ?_
  intro rest HR
  simp only [List.take_succ_cons, List.take_zero, List.cons_append, List.nil_append, List.drop_succ_cons, List.drop_zero]
  go_wp2_with (first
    | (go_at_call 54; refine (one_k HS _ _).mono ?_; rintro e w' ⟨rfl, HT⟩; clear HS; have HS := HT; clear HT)
    | (go_at_call 56; refine (many_k HS _ _).mono ?_; rintro e w' ⟨rfl, HT⟩; clear HS; have HS := HT; clear HT)
    | (go_at_call 52; (with_reducible refine at_of_ 53 2 ?_); refine (of_k2 HS text_empty (by repeat (first | exact List.mem_cons_self | exact h1.out | exact h2.out | exact h3.out | exact h4.out | exact h5.out | exact h6.out | exact h7.out | exact h8.out | exact h9.out | exact h10.out | exact h11.out | exact h12.out | exact h13.out | exact h14.out | apply List.mem_cons_of_mem)) (by decide) (by repeat (first | exact List.mem_cons_self | exact h1.out | exact h2.out | exact h3.out | exact h4.out | exact h5.out | exact h6.out | exact h7.out | exact h8.out | exact h9.out | exact h10.out | exact h11.out | exact h12.out | exact h13.out | exact h14.out | apply List.mem_cons_of_mem)) (by decide)).mono ?_; rintro e w' ⟨k, c, rfl, HT⟩; clear HS; have HS := HT; clear HT)
    | ((with_reducible refine upon_ins EB HS HN (by decide) (by intro p hp; repeat (first | exact hp | apply List.mem_cons_of_mem)) Tryz.underlying60 ?_ _ (by repeat (first | exact List.mem_cons_self | exact h1.out | exact h2.out | exact h3.out | exact h4.out | exact h5.out | exact h6.out | exact h7.out | exact h8.out | exact h9.out | exact h10.out | exact h11.out | exact h12.out | exact h13.out | exact h14.out | apply List.mem_cons_of_mem)) ?_); exact (by decide); intro w' L' HL2 HT HN2; have HLN := Lib.hid (HL2.out.trans (congrArg _ HL.out)); clear HS HN HL HL2; have HS := HT; have HN := HN2; have HL := HLN; clear HT HN2 HLN))
  rw [HR.out]
  clear HR
  clear rest
  simp only [List.drop_succ_cons, List.drop_zero]
  refine wpList_split 13 ?_
  intro rest HR
  simp only [List.take_succ_cons, List.take_zero, List.cons_append, List.nil_append, List.drop_succ_cons, List.drop_zero]
  go_wp2_with (first
    | (go_at_call 54; refine (one_k HS _ _).mono ?_; rintro e w' ⟨rfl, HT⟩; clear HS; have HS := HT; clear HT)
    | (go_at_call 66; refine (perhaps_k HS _ _).mono ?_; rintro e w' ⟨rfl, HT⟩; clear HS; have HS := HT; clear HT)
    | (go_at_call 52; (with_reducible refine at_of_ 63 2 ?_); refine (of_k2 HS text_arith (by repeat (first | exact List.mem_cons_self | exact h1.out | exact h2.out | exact h3.out | exact h4.out | exact h5.out | exact h6.out | exact h7.out | exact h8.out | exact h9.out | exact h10.out | exact h11.out | exact h12.out | exact h13.out | exact h14.out | apply List.mem_cons_of_mem)) (by decide) (by repeat (first | exact List.mem_cons_self | exact h1.out | exact h2.out | exact h3.out | exact h4.out | exact h5.out | exact h6.out | exact h7.out | exact h8.out | exact h9.out | exact h10.out | exact h11.out | exact h12.out | exact h13.out | exact h14.out | apply List.mem_cons_of_mem)) (by decide)).mono ?_; rintro e w' ⟨k, c, rfl, HT⟩; clear HS; have HS := HT; clear HT)
    | (go_at_call 52; (with_reducible refine at_of_ 53 3 ?_); refine (of_k3 HS text_empty (by repeat (first | exact List.mem_cons_self | exact h1.out | exact h2.out | exact h3.out | exact h4.out | exact h5.out | exact h6.out | exact h7.out | exact h8.out | exact h9.out | exact h10.out | exact h11.out | exact h12.out | exact h13.out | exact h14.out | apply List.mem_cons_of_mem)) (by decide) (by repeat (first | exact List.mem_cons_self | exact h1.out | exact h2.out | exact h3.out | exact h4.out | exact h5.out | exact h6.out | exact h7.out | exact h8.out | exact h9.out | exact h10.out | exact h11.out | exact h12.out | exact h13.out | exact h14.out | apply List.mem_cons_of_mem)) (by decide) (by repeat (first | exact List.mem_cons_self | exact h1.out | exact h2.out | exact h3.out | exact h4.out | exact h5.out | exact h6.out | exact h7.out | exact h8.out | exact h9.out | exact h10.out | exact h11.out | exact h12.out | exact h13.out | exact h14.out | apply List.mem_cons_of_mem)) (by decide)).mono ?_; rintro e w' ⟨k, c, rfl, HT⟩; clear HS; have HS := HT; clear HT)
    | ((with_reducible refine upon_ins EB HS HN (by decide) (by intro p hp; repeat (first | exact hp | apply List.mem_cons_of_mem)) Tryz.underlying60 ?_ _ (by repeat (first | exact List.mem_cons_self | exact h1.out | exact h2.out | exact h3.out | exact h4.out | exact h5.out | exact h6.out | exact h7.out | exact h8.out | exact h9.out | exact h10.out | exact h11.out | exact h12.out | exact h13.out | exact h14.out | apply List.mem_cons_of_mem)) ?_); exact (by decide); intro w' L' HL2 HT HN2; have HLN := Lib.hid (HL2.out.trans (congrArg _ HL.out)); clear HS HN HL HL2; have HS := HT; have HN := HN2; have HL := HLN; clear HT HN2 HLN))
  rw [HR.out]
  clear HR
  clear rest
  simp only [List.drop_succ_cons, List.drop_zero]
  refine wpList_split 13 ?_
  intro rest HR
  simp only [List.take_succ_cons, List.take_zero, List.cons_append, List.nil_append, List.drop_succ_cons, List.drop_zero]
  go_wp2_with (first
    | (go_at_call 54; refine (one_k HS _ _).mono ?_; rintro e w' ⟨rfl, HT⟩; clear HS; have HS := HT; clear HT)
    | (go_at_call 52; (with_reducible refine at_of_ 53 2 ?_); refine (of_k2 HS text_empty (by repeat (first | exact List.mem_cons_self | exact h1.out | exact h2.out | exact h3.out | exact h4.out | exact h5.out | exact h6.out | exact h7.out | exact h8.out | exact h9.out | exact h10.out | exact h11.out | exact h12.out | exact h13.out | exact h14.out | apply List.mem_cons_of_mem)) (by decide) (by repeat (first | exact List.mem_cons_self | exact h1.out | exact h2.out | exact h3.out | exact h4.out | exact h5.out | exact h6.out | exact h7.out | exact h8.out | exact h9.out | exact h10.out | exact h11.out | exact h12.out | exact h13.out | exact h14.out | apply List.mem_cons_of_mem)) (by decide)).mono ?_; rintro e w' ⟨k, c, rfl, HT⟩; clear HS; have HS := HT; clear HT)
    | (go_at_call 52; (with_reducible refine at_of_ 53 3 ?_); refine (of_k3 HS text_empty (by repeat (first | exact List.mem_cons_self | exact h1.out | exact h2.out | exact h3.out | exact h4.out | exact h5.out | exact h6.out | exact h7.out | exact h8.out | exact h9.out | exact h10.out | exact h11.out | exact h12.out | exact h13.out | exact h14.out | apply List.mem_cons_of_mem)) (by decide) (by repeat (first | exact List.mem_cons_self | exact h1.out | exact h2.out | exact h3.out | exact h4.out | exact h5.out | exact h6.out | exact h7.out | exact h8.out | exact h9.out | exact h10.out | exact h11.out | exact h12.out | exact h13.out | exact h14.out | apply List.mem_cons_of_mem)) (by decide) (by repeat (first | exact List.mem_cons_self | exact h1.out | exact h2.out | exact h3.out | exact h4.out | exact h5.out | exact h6.out | exact h7.out | exact h8.out | exact h9.out | exact h10.out | exact h11.out | exact h12.out | exact h13.out | exact h14.out | apply List.mem_cons_of_mem)) (by decide)).mono ?_; rintro e w' ⟨k, c, rfl, HT⟩; clear HS; have HS := HT; clear HT)
    | ((with_reducible refine upon_ins EB HS HN (by decide) (by intro p hp; repeat (first | exact hp | apply List.mem_cons_of_mem)) Tryz.underlying60 ?_ _ (by repeat (first | exact List.mem_cons_self | exact h1.out | exact h2.out | exact h3.out | exact h4.out | exact h5.out | exact h6.out | exact h7.out | exact h8.out | exact h9.out | exact h10.out | exact h11.out | exact h12.out | exact h13.out | exact h14.out | apply List.mem_cons_of_mem)) ?_); exact (by decide); intro w' L' HL2 HT HN2; have HLN := Lib.hid (HL2.out.trans (congrArg _ HL.out)); clear HS HN HL HL2; have HS := HT; have HN := HN2; have HL := HLN; clear HT HN2 HLN))
  rw [HR.out]
  clear HR
  clear rest
  simp only [List.drop_succ_cons, List.drop_zero]
  refine wpList_split 14 ?_
  intro rest HR
  simp only [List.take_succ_cons, List.take_zero, List.cons_append, List.nil_append, List.drop_succ_cons, List.drop_zero]
  go_wp2_with (first
    | (go_at_call 54; refine (one_k HS _ _).mono ?_; rintro e w' ⟨rfl, HT⟩; clear HS; have HS := HT; clear HT)
    | (go_at_call 56; refine (many_k HS _ _).mono ?_; rintro e w' ⟨rfl, HT⟩; clear HS; have HS := HT; clear HT)
    | (go_at_call 61; (with_reducible refine at_both_ 65 ?_); refine (both_k HS (by repeat (first | exact List.mem_cons_self | exact h1.out | exact h2.out | exact h3.out | exact h4.out | exact h5.out | exact h6.out | exact h7.out | exact h8.out | exact h9.out | exact h10.out | exact h11.out | exact h12.out | exact h13.out | exact h14.out | apply List.mem_cons_of_mem)) (test_defs_of _)).mono ?_; rintro e w' ⟨k, c, rfl, HT⟩; clear HS; have HS := HT; clear HT)
    | (go_at_call 52; (with_reducible refine at_of_ 60 2 ?_); refine (of_k2 HS text_name (by repeat (first | exact List.mem_cons_self | exact h1.out | exact h2.out | exact h3.out | exact h4.out | exact h5.out | exact h6.out | exact h7.out | exact h8.out | exact h9.out | exact h10.out | exact h11.out | exact h12.out | exact h13.out | exact h14.out | apply List.mem_cons_of_mem)) (by decide) (by repeat (first | exact List.mem_cons_self | exact h1.out | exact h2.out | exact h3.out | exact h4.out | exact h5.out | exact h6.out | exact h7.out | exact h8.out | exact h9.out | exact h10.out | exact h11.out | exact h12.out | exact h13.out | exact h14.out | apply List.mem_cons_of_mem)) (by decide)).mono ?_; rintro e w' ⟨k, c, rfl, HT⟩; clear HS; have HS := HT; clear HT)
    | ((with_reducible refine upon_ins EB HS HN (by decide) (by intro p hp; repeat (first | exact hp | apply List.mem_cons_of_mem)) Tryz.underlying60 ?_ _ (by repeat (first | exact List.mem_cons_self | exact h1.out | exact h2.out | exact h3.out | exact h4.out | exact h5.out | exact h6.out | exact h7.out | exact h8.out | exact h9.out | exact h10.out | exact h11.out | exact h12.out | exact h13.out | exact h14.out | apply List.mem_cons_of_mem)) ?_); exact (by decide); intro w' L' HL2 HT HN2; have HLN := Lib.hid (HL2.out.trans (congrArg _ HL.out)); clear HS HN HL HL2; have HS := HT; have HN := HN2; have HL := HLN; clear HT HN2 HLN))
  rw [HR.out]
  clear HR
  clear rest
  simp only [List.drop_succ_cons, List.drop_zero]
  refine wpList_split 10 ?_
  intro rest HR
  simp only [List.take_succ_cons, List.take_zero, List.cons_append, List.nil_append, List.drop_succ_cons, List.drop_zero]
  go_wp2_with (first
    | (go_at_call 54; refine (one_k HS _ _).mono ?_; rintro e w' ⟨rfl, HT⟩; clear HS; have HS := HT; clear HT)
    | (go_at_call 56; refine (many_k HS _ _).mono ?_; rintro e w' ⟨rfl, HT⟩; clear HS; have HS := HT; clear HT)
    | (go_at_call 66; refine (perhaps_k HS _ _).mono ?_; rintro e w' ⟨rfl, HT⟩; clear HS; have HS := HT; clear HT)
    | (go_at_call 52; (with_reducible refine at_of_ 53 1 ?_); refine (of_k1 HS text_empty (by repeat (first | exact List.mem_cons_self | exact h1.out | exact h2.out | exact h3.out | exact h4.out | exact h5.out | exact h6.out | exact h7.out | exact h8.out | exact h9.out | exact h10.out | exact h11.out | exact h12.out | exact h13.out | exact h14.out | apply List.mem_cons_of_mem)) (by decide)).mono ?_; rintro e w' ⟨k, c, rfl, HT⟩; clear HS; have HS := HT; clear HT)
    | (go_at_call 52; (with_reducible refine at_of_ 60 2 ?_); refine (of_k2 HS text_name (by repeat (first | exact List.mem_cons_self | exact h1.out | exact h2.out | exact h3.out | exact h4.out | exact h5.out | exact h6.out | exact h7.out | exact h8.out | exact h9.out | exact h10.out | exact h11.out | exact h12.out | exact h13.out | exact h14.out | apply List.mem_cons_of_mem)) (by decide) (by repeat (first | exact List.mem_cons_self | exact h1.out | exact h2.out | exact h3.out | exact h4.out | exact h5.out | exact h6.out | exact h7.out | exact h8.out | exact h9.out | exact h10.out | exact h11.out | exact h12.out | exact h13.out | exact h14.out | apply List.mem_cons_of_mem)) (by decide)).mono ?_; rintro e w' ⟨k, c, rfl, HT⟩; clear HS; have HS := HT; clear HT)
    | ((with_reducible refine upon_ins EB HS HN (by decide) (by intro p hp; repeat (first | exact hp | apply List.mem_cons_of_mem)) Tryz.underlying60 ?_ _ (by repeat (first | exact List.mem_cons_self | exact h1.out | exact h2.out | exact h3.out | exact h4.out | exact h5.out | exact h6.out | exact h7.out | exact h8.out | exact h9.out | exact h10.out | exact h11.out | exact h12.out | exact h13.out | exact h14.out | apply List.mem_cons_of_mem)) ?_); exact (by decide); intro w' L' HL2 HT HN2; have HLN := Lib.hid (HL2.out.trans (congrArg _ HL.out)); clear HS HN HL HL2; have HS := HT; have HN := HN2; have HL := HLN; clear HT HN2 HLN))
  rw [HR.out]
  clear HR
  clear rest
  simp only [List.drop_succ_cons, List.drop_zero]
  refine wpList_split 14 ?_
  intro rest HR
  simp only [List.take_succ_cons, List.take_zero, List.cons_append, List.nil_append, List.drop_succ_cons, List.drop_zero]
  go_wp2_with (first
    | (go_at_call 54; refine (one_k HS _ _).mono ?_; rintro e w' ⟨rfl, HT⟩; clear HS; have HS := HT; clear HT)
    | (go_at_call 56; refine (many_k HS _ _).mono ?_; rintro e w' ⟨rfl, HT⟩; clear HS; have HS := HT; clear HT)
    | (go_at_call 66; refine (perhaps_k HS _ _).mono ?_; rintro e w' ⟨rfl, HT⟩; clear HS; have HS := HT; clear HT)
    | (go_at_call 61; (with_reducible refine at_both_ 70 ?_); refine (both_k HS (by repeat (first | exact List.mem_cons_self | exact h1.out | exact h2.out | exact h3.out | exact h4.out | exact h5.out | exact h6.out | exact h7.out | exact h8.out | exact h9.out | exact h10.out | exact h11.out | exact h12.out | exact h13.out | exact h14.out | apply List.mem_cons_of_mem)) (test_guard_of _)).mono ?_; rintro e w' ⟨k, c, rfl, HT⟩; clear HS; have HS := HT; clear HT)
    | (go_at_call 52; (with_reducible refine at_of_ 53 1 ?_); refine (of_k1 HS text_empty (by repeat (first | exact List.mem_cons_self | exact h1.out | exact h2.out | exact h3.out | exact h4.out | exact h5.out | exact h6.out | exact h7.out | exact h8.out | exact h9.out | exact h10.out | exact h11.out | exact h12.out | exact h13.out | exact h14.out | apply List.mem_cons_of_mem)) (by decide)).mono ?_; rintro e w' ⟨k, c, rfl, HT⟩; clear HS; have HS := HT; clear HT)
    | (go_at_call 52; (with_reducible refine at_of_ 53 3 ?_); refine (of_k3 HS text_empty (by repeat (first | exact List.mem_cons_self | exact h1.out | exact h2.out | exact h3.out | exact h4.out | exact h5.out | exact h6.out | exact h7.out | exact h8.out | exact h9.out | exact h10.out | exact h11.out | exact h12.out | exact h13.out | exact h14.out | apply List.mem_cons_of_mem)) (by decide) (by repeat (first | exact List.mem_cons_self | exact h1.out | exact h2.out | exact h3.out | exact h4.out | exact h5.out | exact h6.out | exact h7.out | exact h8.out | exact h9.out | exact h10.out | exact h11.out | exact h12.out | exact h13.out | exact h14.out | apply List.mem_cons_of_mem)) (by decide) (by repeat (first | exact List.mem_cons_self | exact h1.out | exact h2.out | exact h3.out | exact h4.out | exact h5.out | exact h6.out | exact h7.out | exact h8.out | exact h9.out | exact h10.out | exact h11.out | exact h12.out | exact h13.out | exact h14.out | apply List.mem_cons_of_mem)) (by decide)).mono ?_; rintro e w' ⟨k, c, rfl, HT⟩; clear HS; have HS := HT; clear HT)
    | ((with_reducible refine upon_ins EB HS HN (by decide) (by intro p hp; repeat (first | exact hp | apply List.mem_cons_of_mem)) Tryz.underlying60 ?_ _ (by repeat (first | exact List.mem_cons_self | exact h1.out | exact h2.out | exact h3.out | exact h4.out | exact h5.out | exact h6.out | exact h7.out | exact h8.out | exact h9.out | exact h10.out | exact h11.out | exact h12.out | exact h13.out | exact h14.out | apply List.mem_cons_of_mem)) ?_); exact (by decide); intro w' L' HL2 HT HN2; have HLN := Lib.hid (HL2.out.trans (congrArg _ HL.out)); clear HS HN HL HL2; have HS := HT; have HN := HN2; have HL := HLN; clear HT HN2 HLN))
  rw [HR.out]
  clear HR
  clear rest
  simp only [List.drop_succ_cons, List.drop_zero]
  refine wpList_split 11 ?_
  intro rest HR
  simp only [List.take_succ_cons, List.take_zero, List.cons_append, List.nil_append, List.drop_succ_cons, List.drop_zero]
  go_wp2_with (first
    | (go_at_call 54; refine (one_k HS _ _).mono ?_; rintro e w' ⟨rfl, HT⟩; clear HS; have HS := HT; clear HT)
    | (go_at_call 52; (with_reducible refine at_of_ 53 1 ?_); refine (of_k1 HS text_empty (by repeat (first | exact List.mem_cons_self | exact h1.out | exact h2.out | exact h3.out | exact h4.out | exact h5.out | exact h6.out | exact h7.out | exact h8.out | exact h9.out | exact h10.out | exact h11.out | exact h12.out | exact h13.out | exact h14.out | apply List.mem_cons_of_mem)) (by decide)).mono ?_; rintro e w' ⟨k, c, rfl, HT⟩; clear HS; have HS := HT; clear HT)
    | (go_at_call 52; (with_reducible refine at_of_ 72 2 ?_); refine (of_k2 HS text_nameE (by repeat (first | exact List.mem_cons_self | exact h1.out | exact h2.out | exact h3.out | exact h4.out | exact h5.out | exact h6.out | exact h7.out | exact h8.out | exact h9.out | exact h10.out | exact h11.out | exact h12.out | exact h13.out | exact h14.out | apply List.mem_cons_of_mem)) (by decide) (by repeat (first | exact List.mem_cons_self | exact h1.out | exact h2.out | exact h3.out | exact h4.out | exact h5.out | exact h6.out | exact h7.out | exact h8.out | exact h9.out | exact h10.out | exact h11.out | exact h12.out | exact h13.out | exact h14.out | apply List.mem_cons_of_mem)) (by decide)).mono ?_; rintro e w' ⟨k, c, rfl, HT⟩; clear HS; have HS := HT; clear HT)
    | (go_at_call 71; refine (either_k HS (by repeat (first | exact List.mem_cons_self | exact h1.out | exact h2.out | exact h3.out | exact h4.out | exact h5.out | exact h6.out | exact h7.out | exact h8.out | exact h9.out | exact h10.out | exact h11.out | exact h12.out | exact h13.out | exact h14.out | apply List.mem_cons_of_mem)) (by repeat (first | exact List.mem_cons_self | exact h1.out | exact h2.out | exact h3.out | exact h4.out | exact h5.out | exact h6.out | exact h7.out | exact h8.out | exact h9.out | exact h10.out | exact h11.out | exact h12.out | exact h13.out | exact h14.out | apply List.mem_cons_of_mem))).mono ?_; rintro e w' ⟨k, c, rfl, HT⟩; clear HS; have HS := HT; clear HT)
    | ((with_reducible refine upon_ins EB HS HN (by decide) (by intro p hp; repeat (first | exact hp | apply List.mem_cons_of_mem)) Tryz.underlying60 ?_ _ (by repeat (first | exact List.mem_cons_self | exact h1.out | exact h2.out | exact h3.out | exact h4.out | exact h5.out | exact h6.out | exact h7.out | exact h8.out | exact h9.out | exact h10.out | exact h11.out | exact h12.out | exact h13.out | exact h14.out | apply List.mem_cons_of_mem)) ?_); exact (by decide); intro w' L' HL2 HT HN2; have HLN := Lib.hid (HL2.out.trans (congrArg _ HL.out)); clear HS HN HL HL2; have HS := HT; have HN := HN2; have HL := HLN; clear HT HN2 HLN))
  rw [HR.out]
  clear HR
  clear rest
  simp only [List.drop_succ_cons, List.drop_zero]
  refine wpList_split 9 ?_
  intro rest HR
  simp only [List.take_succ_cons, List.take_zero, List.cons_append, List.nil_append, List.drop_succ_cons, List.drop_zero]
  go_wp2_with (first
    | (go_at_call 54; refine (one_k HS _ _).mono ?_; rintro e w' ⟨rfl, HT⟩; clear HS; have HS := HT; clear HT)
    | (go_at_call 52; (with_reducible refine at_of_ 53 1 ?_); refine (of_k1 HS text_empty (by repeat (first | exact List.mem_cons_self | exact h1.out | exact h2.out | exact h3.out | exact h4.out | exact h5.out | exact h6.out | exact h7.out | exact h8.out | exact h9.out | exact h10.out | exact h11.out | exact h12.out | exact h13.out | exact h14.out | apply List.mem_cons_of_mem)) (by decide)).mono ?_; rintro e w' ⟨k, c, rfl, HT⟩; clear HS; have HS := HT; clear HT)
    | (go_at_call 52; (with_reducible refine at_of_ 73 0 ?_); refine (of_k0 HS text_names ).mono ?_; rintro e w' ⟨k, c, rfl, HT⟩; clear HS; have HS := HT; clear HT)
    | ((with_reducible refine upon_ins EB HS HN (by decide) (by intro p hp; repeat (first | exact hp | apply List.mem_cons_of_mem)) Tryz.underlying60 ?_ _ (by repeat (first | exact List.mem_cons_self | exact h1.out | exact h2.out | exact h3.out | exact h4.out | exact h5.out | exact h6.out | exact h7.out | exact h8.out | exact h9.out | exact h10.out | exact h11.out | exact h12.out | exact h13.out | exact h14.out | apply List.mem_cons_of_mem)) ?_); exact (by decide); intro w' L' HL2 HT HN2; have HLN := Lib.hid (HL2.out.trans (congrArg _ HL.out)); clear HS HN HL HL2; have HS := HT; have HN := HN2; have HL := HLN; clear HT HN2 HLN))
  rw [HR.out]
  clear HR
  clear rest
  simp only [List.drop_succ_cons, List.drop_zero]
  refine wpList_split 9 ?_
  intro rest HR
  simp only [List.take_succ_cons, List.take_zero, List.cons_append, List.nil_append, List.drop_succ_cons, List.drop_zero]
  go_wp2_with (first
    | (go_at_call 54; refine (one_k HS _ _).mono ?_; rintro e w' ⟨rfl, HT⟩; clear HS; have HS := HT; clear HT)
    | (go_at_call 66; refine (perhaps_k HS _ _).mono ?_; rintro e w' ⟨rfl, HT⟩; clear HS; have HS := HT; clear HT)
    | (go_at_call 52; (with_reducible refine at_of_ 53 1 ?_); refine (of_k1 HS text_empty (by repeat (first | exact List.mem_cons_self | exact h1.out | exact h2.out | exact h3.out | exact h4.out | exact h5.out | exact h6.out | exact h7.out | exact h8.out | exact h9.out | exact h10.out | exact h11.out | exact h12.out | exact h13.out | exact h14.out | apply List.mem_cons_of_mem)) (by decide)).mono ?_; rintro e w' ⟨k, c, rfl, HT⟩; clear HS; have HS := HT; clear HT)
    | (go_at_call 52; (with_reducible refine at_of_ 53 2 ?_); refine (of_k2 HS text_empty (by repeat (first | exact List.mem_cons_self | exact h1.out | exact h2.out | exact h3.out | exact h4.out | exact h5.out | exact h6.out | exact h7.out | exact h8.out | exact h9.out | exact h10.out | exact h11.out | exact h12.out | exact h13.out | exact h14.out | apply List.mem_cons_of_mem)) (by decide) (by repeat (first | exact List.mem_cons_self | exact h1.out | exact h2.out | exact h3.out | exact h4.out | exact h5.out | exact h6.out | exact h7.out | exact h8.out | exact h9.out | exact h10.out | exact h11.out | exact h12.out | exact h13.out | exact h14.out | apply List.mem_cons_of_mem)) (by decide)).mono ?_; rintro e w' ⟨k, c, rfl, HT⟩; clear HS; have HS := HT; clear HT)
    | ((with_reducible refine upon_ins EB HS HN (by decide) (by intro p hp; repeat (first | exact hp | apply List.mem_cons_of_mem)) Tryz.underlying60 ?_ _ (by repeat (first | exact List.mem_cons_self | exact h1.out | exact h2.out | exact h3.out | exact h4.out | exact h5.out | exact h6.out | exact h7.out | exact h8.out | exact h9.out | exact h10.out | exact h11.out | exact h12.out | exact h13.out | exact h14.out | apply List.mem_cons_of_mem)) ?_); exact (by decide); intro w' L' HL2 HT HN2; have HLN := Lib.hid (HL2.out.trans (congrArg _ HL.out)); clear HS HN HL HL2; have HS := HT; have HN := HN2; have HL := HLN; clear HT HN2 HLN))
  rw [HR.out]
  clear HR
  clear rest
  simp only [List.drop_succ_cons, List.drop_zero]
  refine wpList_split 4 ?_
  intro rest HR
  simp only [List.take_succ_cons, List.take_zero, List.cons_append, List.nil_append, List.drop_succ_cons, List.drop_zero]
  go_wp2_with (first
    | ((with_reducible refine upon_ins EB HS HN (by decide) (by intro p hp; repeat (first | exact hp | apply List.mem_cons_of_mem)) Tryz.underlying60 ?_ _ (by repeat (first | exact List.mem_cons_self | exact h1.out | exact h2.out | exact h3.out | exact h4.out | exact h5.out | exact h6.out | exact h7.out | exact h8.out | exact h9.out | exact h10.out | exact h11.out | exact h12.out | exact h13.out | exact h14.out | apply List.mem_cons_of_mem)) ?_); exact (by decide); intro w' L' HL2 HT HN2; have HLN := Lib.hid (HL2.out.trans (congrArg _ HL.out)); clear HS HN HL HL2; have HS := HT; have HN := HN2; have HL := HLN; clear HT HN2 HLN))
  rw [HR.out]
  clear HR
  clear rest
  simp only [List.drop_succ_cons, List.drop_zero]
  go_wp2_with fail
  go_ret
  refine ⟨_, EB, rfl, Kst.rev ?_ (by decide)⟩
  have e : (kindOf sNames).reverse = L' := by rw [HL.out]; rfl
  rw [e]
  exact HS.out
end Go.Proofs.YtkmmcphiijolkaaGreatDoor

set_option linter.unusedVariables false
set_option linter.unusedSimpArgs false
namespace Go.Proofs.YtkmmcphiijolkaaGreatDoor
open Go.RowKit Go.Shelf
open Tr

theorem right_ok : RightOk := fun v t w ha hl hin hwf => Right_of kinds_any v t w ha hl hin hwf
theorem awake_any (w : World) : Calls Tryz.prog 8 #[] w fun e w' => e = .returned (.bool true) ∧ Below w.heap.size w w' := awake_of right_ok w
end Go.Proofs.YtkmmcphiijolkaaGreatDoor

set_option linter.unusedVariables false
set_option linter.unusedSimpArgs false
namespace Go.Proofs.YtkmmcphiijolkaaGreatDoor
open Go.ChangeShapes Go.WideShapes Go.ChangeAt Go.WideMaps Go.WideElems Go.RowKit
open Go.ChangeMaps (open_string shut_string)

theorem own : ownKnob Tryz.prog.godebug = none := by kernel_rfl

theorem handed_both {H : Type} {enc : TypeId × Value → H} {a : Assume} {C : Checked} {os : Os} {f : FuncId} {fn : Func} {s : ChangeSpec} {conds : List PathCond} {apart fresh handsOn again : Bool} {X : World → Array Value → Prop}
    (hX : ∀ (w w' : World) (args : Array Value), w.heap = w'.heap → X w args → X w' args)
    (own : ownKnob C.prog.godebug = none) (started : os.Started) (noInit : C.prog.inits.idxOf? f = none) (hfn : C.prog.funcs[f]? = some fn)
    (witness : ∃ (w : World) (tape : Tape) (i : Input), w.os = os ∧ (w.forCall tape i).Shaped C.prog ∧ i.vars = [] ∧ Input.okWide C.prog (w.forCall tape i) .any w.heap.size f i ∧
      ((s.pre enc C.prog fn conds apart (w.forCall tape i).memory i.args ∧ X (w.forCall tape i).memory i.args) ∧ sizedMet enc C.prog fn (OpenSpec.ofChange s) apart (w.forCall tape i).memory i.args) ∧ a.holds C.prog (lone (Frame.enter C.prog f i.args .normal) [] (w.forCall tape i)))
    (contract : ∀ (W : World) (base : Nat) (args : Array Value) (ds gs : List (DataW H)) (before : List MemPlace),
      (∀ (j : Nat) t v, fn.params[j]? = some t → args[j]? = some v → Value.okWide C.prog W .any base t v) →
      DataW.Whole enc C.prog fn.params.toList s.vars apart W args.toList ds gs before →
      conds.all (PathCond.test C.prog ⟨fn.params.toList, ds, s.plain.varTypes C.prog, gs⟩) = true →
      (DataW.weightsEach C.prog (fn.params.toList ++ s.plain.varTypes C.prog) (ds ++ gs)).all (· ≤ reachBytes) = true → X W args → W.ShapedOpen C.prog →
      a.holds C.prog (lone (Frame.enter C.prog f args .normal) [] W) →
      Calls C.prog f args W fun e W' => ∃ v, e = .returned v ∧ s.post enc C.prog fn apart fresh handsOn again W args v W') :
    ReturnsInHanded a C os f .any (fun w args => (s.pre enc C.prog fn conds apart w args ∧ X w args) ∧ sizedMet enc C.prog fn (OpenSpec.ofChange s) apart w args) (s.post enc C.prog fn apart fresh handsOn again) := by
  refine returnsInHanded_of_calls own started noInit witness ?_
  intro w tape i _ hsh _ hok hpre hholds
  obtain ⟨_, _, _, fn', hfn', _, _, _, _, hval⟩ := hok
  have e : fn' = fn := Option.some.inj (hfn'.symm.trans hfn)
  subst e
  obtain ⟨⟨⟨ds, gs, before, hw, hc⟩, hx⟩, hz⟩ := hpre
  have hw' := DataW.Whole.of_heap (w' := w.forCall tape i) (by rfl) hw
  refine (contract (w.forCall tape i) w.heap.size i.args ds gs before hval hw' hc (hz.weights hw) (hX _ _ _ (by rfl) hx) hsh hholds).mono fun e W' ⟨v, he, hp⟩ => ?_
  subst he
  exact ChangeSpec.post_blind hp

/-- The list of every row of this seat. -/
abbrev laidL : List (String × DataW Unit) := Rows.treeGoesRow.laid

/-- The world of the witness holds what the rows list. -/
theorem door_met (os : Os) (args : Array Value) : laidMetH Tryz.prog laidL ((World.laidAll Tryz.prog os laidL).forCall (fun _ _ => 0) ⟨#[], args, []⟩).memory := by
  rw [MakeChecks.laidMetH_plain _ _ _ (by kernel_rfl)]
  exact laidMet_laidAll _ (by kernel_rfl) (by kernel_rfl)
theorem door_shaped (os : Os) (args : Array Value) : ((World.laidAll Tryz.prog os laidL).forCall (fun _ _ => 0) ⟨#[], args, []⟩).Shaped Tryz.prog := World.shaped_of_ZipB (by kernel_rfl) (by kernel_rfl)
theorem door_os (os : Os) : (World.laidAll Tryz.prog os laidL).os = os := World.laidAll_os _ _ _
/-- The answer true, the arguments as they read before, no older cell turned: what a law's row asks. -/
theorem post_true {H : Type} {enc : TypeId × Value → H} {f : Func} {s : ChangeSpec} {W W' : World} {args : Array Value} {ds : List (DataW H)} {before : List MemPlace}
    (hW : DataW.Whole enc Tryz.prog f.params.toList s.vars false W args.toList ds [] before)
    (hrt : f.resultTypes = #[4]) (hres : (s.fn H (ds ++ [])).results = [.lit (.bool true)]) (hfa : (s.fn H (ds ++ [])).args = ds) (hfv : (s.fn H (ds ++ [])).vars = []) (hsv : s.vars = [])
    (hargs : ∀ sp : Nat → Bool, (∀ p ∈ before, sp p.block = true) → DataW.TrodAll enc Tryz.prog W' 0 sp true f.params.toList args.toList ds before)
    (hb : Below W.heap.size W W') :
    s.post enc Tryz.prog f false true false false W args (.bool true) W' := by
  have hlt : ∀ p ∈ before, p.block < W.heap.size := fun p hp => hW.lt p hp
  have hold : ∀ p ∈ before, (fun b => decide (b < W.heap.size)) p.block = true := fun p hp => by simpa using hlt p hp
  have hr : ∀ (b : Nat) (sp : Nat → Bool) (hd : Bool), DataW.TrodAll enc Tryz.prog W' b sp hd f.resultTypes.toList ((Value.bool true).resultList f.resultTypes.size) (s.fn H (ds ++ [])).results [] := by
    intro b sp hd
    rw [hrt, hres]
    exact trodAll_mk1 (shut_bool Tryz.underlying4 _)
  exact ⟨ds, [], before, [], before, [], hW, hr _ _ _, by rw [hfa]; exact hargs _ hold, by rw [hfv, hsv]; rfl, World.keptBut_mono (fun p hp => ⟨hp, Or.inr (Or.inl hp)⟩) (hb.frame (· ∈ before)), fun h => by cases h⟩

end Go.Proofs.YtkmmcphiijolkaaGreatDoor

set_option linter.unusedVariables false
set_option linter.unusedSimpArgs false
namespace Go.Proofs.YtkmmcphiijolkaaGreatDoor
open Go.ChangeShapes Go.WideShapes Go.ChangeAt Go.WideMaps Go.WideElems Go.RowKit Go.Deep
open Tr

namespace Stp
theorem cell_block {w : World} {a : Addr} {v : Value} (h : w.cell? a = some v) : a.block < w.heap.size ∧ a.spot = none := by
  unfold World.cell? at h
  split at h
  · rename_i he
    refine ⟨(Array.getElem?_eq_some_iff.1 he).1, ?_⟩
    split at h
    · cases h
    · rename_i hs; simpa using hs
  · cases h
theorem plain_addr {a : Addr} (h : a.spot = none) : a = ⟨a.block, a.off, none⟩ := by
  cases a
  simp at h
  subst h
  rfl
theorem size_list (s : ByteArray) : s.data.toList.length = s.size := by simp
theorem toArray_data (s : ByteArray) : (⟨s.data.toList.toArray⟩ : ByteArray) = s := by simp
/-- The answer true, the arguments as they read before, no older cell turned: what a law's row asks, of arguments that lead to memory too. -/
theorem post_true_at {H : Type} {enc : TypeId × Value → H} {f : Func} {s : ChangeSpec} {W W' : World} {args : Array Value} {ds : List (DataW H)} {before : List MemPlace}
    (hW : DataW.Whole enc Tryz.prog f.params.toList s.vars false W args.toList ds [] before)
    (hrt : f.resultTypes = #[4]) (hres : (s.fn H (ds ++ [])).results = [.lit (.bool true)]) (hfa : (s.fn H (ds ++ [])).args = ds) (hfv : (s.fn H (ds ++ [])).vars = []) (hsv : s.vars = [])
    (hargs : DataW.TrodAll enc Tryz.prog W' 0 (fun b => decide (b < W.heap.size)) true f.params.toList args.toList ds before)
    (hb : Below W.heap.size W W') :
    s.post enc Tryz.prog f false true false false W args (.bool true) W' := by
  have hr : ∀ (b : Nat) (sp : Nat → Bool) (hd : Bool), DataW.TrodAll enc Tryz.prog W' b sp hd f.resultTypes.toList ((Value.bool true).resultList f.resultTypes.size) (s.fn H (ds ++ [])).results [] := by
    intro b sp hd
    rw [hrt, hres]
    exact trodAll_mk1 (shut_bool Tryz.underlying4 _)
  exact ⟨ds, [], before, [], before, [], hW, hr _ _ _, by rw [hfa]; exact hargs, by rw [hfv, hsv]; rfl, World.keptBut_mono (fun p hp => ⟨hp, Or.inr (Or.inl hp)⟩) (hb.frame (· ∈ before)), fun h => by cases h⟩
theorem laidOut : laidOutB Tryz.prog = true := by kernel_rfl
end Stp
open Stp

set_option maxRecDepth 100000 in
theorem krow_core {H : Type} {enc : TypeId × Value → H} {W : World} {fuel : Nat} {v : Value} {y : DataW H × List MemPlace} (hf : DataW.trod enc Tryz.prog W 0 (fun _ => true) true fuel 24 [v] = some y) :
    ∃ l : List Int, KRow v l W ∧ l.length ≤ maxLen ∧ ∀ x ∈ l, (Lit.int .i64 x).wf = true := by
  have c5 : Tryz.prog.cellsOf 3 = 1 := by kernel_rfl
  rcases open_slice1 Tryz.underlying24 c5 hf with ⟨hcs, _⟩ | ⟨a, len0, cap0, m, n, V, D, Pl, hcs, _, hlc, hm, hmm, _, hx⟩
  · cases hcs
    exact ⟨[], ⟨none, 0, rfl, fun k x hx => by simp at hx, Nat.le_refl _⟩, Nat.zero_le _, fun x hx => by simp at hx⟩
  · cases hcs
    rw [if_pos rfl] at hmm
    have each : ∀ i, i < len0 → ∃ c : Int, W.cell? (a.add i) = some (.int .i64 c) ∧ (Lit.int .i64 c).wf = true := by
      intro i hi
      obtain ⟨h1, h2⟩ := hx i (by omega)
      obtain ⟨n0, q0, _, hw⟩ := DataW.trod_int Tryz.underlying3 h2
      refine ⟨n0, ?_, hw⟩
      rw [h1]
      have := (List.cons.inj q0).1
      rw [this]
    obtain ⟨X, hX⟩ := choose_lt (α := Int) (p := fun i c => W.cell? (a.add i) = some (.int .i64 c) ∧ (Lit.int .i64 c).wf = true) each
    refine ⟨(List.range len0).map X, ⟨some a, cap0, by simp, ?_, by simp; omega⟩, by simp; omega, ?_⟩
    · intro k c hk
      have hkl : k < len0 := by
        have := (List.getElem?_eq_some_iff.1 hk).1
        simpa using this
      rw [List.getElem?_map, List.getElem?_range hkl] at hk
      simp at hk
      subst hk
      have h0 := (hX k hkl).1
      have hz := (hX 0 (by omega)).1
      rw [Addr.add_zero'] at hz
      obtain ⟨hb, hsp⟩ := cell_block hz
      have ha := plain_addr hsp
      generalize a.block = g at ha hb
      generalize a.off = o at ha
      subst ha
      rw [add_plain] at h0
      exact ⟨g, o, rfl, hb, h0⟩
    · intro x hx
      obtain ⟨i, hi, rfl⟩ := List.mem_map.1 hx
      exact (hX i (List.mem_range.1 hi)).2

/-- What is known of a step that came in. -/
def BndS (x : NodeD) : Prop := x.2.2.2.2.length ≤ maxLen ∧ (∀ k ∈ x.2.2.2.2, (Lit.int .i64 k).wf = true)

end Go.Proofs.YtkmmcphiijolkaaGreatDoor

set_option linter.unusedVariables false
set_option linter.unusedSimpArgs false
namespace Go.Proofs.YtkmmcphiijolkaaGreatDoor
open Go.RowKit Go.Shelf
open Tr

namespace Tr
/-- A step's kids: as they stand, or by rests. -/
def stepK (r : Bool) (i : Nat) (ks : List Int) : List Int := (ks.take 4).map fun n => if r then n % ((i : Int) + 2) - 1 else n
/-- The node of a step. -/
def stepN (r : Bool) (i : Nat) (x : NodeD) : NodeD := (x.1, x.2.1, x.2.2.1, x.2.2.2.1, castL (kidsOf i (stepK r i x.2.2.2.2)))
def stepsT (r : Bool) : Nat → List NodeD → List NodeD
  | _, [] => []
  | i, x :: xs => stepN r i x :: stepsT r (i + 1) xs
theorem stepsT_length (r : Bool) : ∀ (i : Nat) (l : List NodeD), (stepsT r i l).length = l.length
  | i, [] => rfl
  | i, x :: xs => by simp [stepsT, stepsT_length r (i + 1) xs]
theorem stepsT_append (r : Bool) : ∀ (i : Nat) (a b : List NodeD), stepsT r i (a ++ b) = stepsT r i a ++ stepsT r (i + a.length) b
  | i, [], b => by simp [stepsT]
  | i, x :: xs, b => by
    simp only [List.cons_append, stepsT, stepsT_append r (i + 1) xs b, List.length_cons]
    rw [show i + 1 + xs.length = i + (xs.length + 1) by omega]
theorem stepsT_take (r : Bool) (l : List NodeD) (i : Nat) (x : NodeD) (hx : l[i]? = some x) : stepsT r 0 (l.take (i + 1)) = stepsT r 0 (l.take i) ++ [stepN r i x] := by
  have hi := (List.getElem?_eq_some_iff.1 hx).1
  rw [take_snoc l i x hx, stepsT_append]
  simp only [stepsT, List.length_take, Nat.min_eq_left (Nat.le_of_lt hi), Nat.zero_add]
theorem stepK_length (r : Bool) (i : Nat) (ks : List Int) : (stepK r i ks).length = min 4 ks.length := by simp [stepK]
theorem stepK_get (r : Bool) (i : Nat) (ks : List Int) (k : Nat) (n : Int) (hk : k < 4) (hn : ks[k]? = some n) : (stepK r i ks)[k]? = some (if r then n % ((i : Int) + 2) - 1 else n) := by
  unfold stepK
  rw [List.getElem?_map, List.getElem?_take, if_pos hk, hn]
  rfl
theorem stepsT_kids (r : Bool) : ∀ (i : Nat) (l : List NodeD), KidsAt i (stepsT r i l)
  | i, [] => trivial
  | i, x :: xs => by
    refine ⟨fun k hk => ?_, stepsT_kids r (i + 1) xs⟩
    simp only [stepN, castL, List.mem_map] at hk
    obtain ⟨y, hy, rfl⟩ := hk
    have := kidsOf_lt i _ y hy
    omega
theorem stepsT_few (r : Bool) : ∀ (i : Nat) (l : List NodeD), ∀ x ∈ stepsT r i l, x.2.2.2.2.length ≤ 4
  | i, [], x, h => by simp [stepsT] at h
  | i, y :: ys, x, h => by
    simp only [stepsT, List.mem_cons] at h
    rcases h with rfl | h
    · have h1 := kidsOf_length i (stepK r i y.2.2.2.2)
      have h2 := stepK_length r i y.2.2.2.2
      simp only [stepN, castL, List.length_map]
      omega
    · exact stepsT_few r (i + 1) ys x h
end Tr

theorem own_but {base n sz : Nat} {T : TypeId} {v : Value} {xs : List Value} {w w' : World} {p : Nat → Prop} (h : w.ownsRow base T sz v n xs) (hb : But p w w') (hp : ∀ g, v.ownBlock = some g → ¬ p g) : w'.ownsRow base T sz v n xs := by
  refine ⟨h.1, ?_⟩
  rcases h.2 with e | ⟨g, cap, cur, e, hg, hgb, r⟩
  · exact Or.inl e
  · exact Or.inr ⟨g, cap, cur, e, hg, ((hb.both g (Array.getElem?_eq_some_iff.1 hgb).1 (hp g (by rw [e]; rfl))).1).trans hgb, r⟩
theorem TRow.but2 {base : Nat} {v : Value} {P : List (NodeD × Value)} {w w' : World} {p : Nat → Prop} (h : TRow base v P w) (hb : But p w w') (hv : ∀ g, v.ownBlock = some g → ¬ p g) (hk : ∀ q ∈ P, q.1.2.2.2.2 ≠ [] → ∀ g, q.2.ownBlock = some g → ¬ p g) : TRow base v P w' :=
  ⟨own_but h.1 hb hv, fun q hq => ⟨(h.2 q hq).1.same hb.size (fun hne g e hlt => (hb.both g hlt (hk q hq hne g e)).1), (h.2 q hq).2⟩⟩
theorem Bld.but {base bB : Nat} {v : Value} {P : List (NodeD × Value)} {w w' : World} {p : Nat → Prop} (h : Bld base bB v P w) (hb : But p w w') (hB : ¬ p bB) (hv : ∀ g, v.ownBlock = some g → ¬ p g) (hk : ∀ q ∈ P, q.1.2.2.2.2 ≠ [] → ∀ g, q.2.ownBlock = some g → ¬ p g) : Bld base bB v P w' :=
  ⟨((hb.both bB (Array.getElem?_eq_some_iff.1 h.blk).1 hB).1).trans h.blk, h.row.but2 hb hv hk, h.hb, h.form⟩
theorem KRow.lt {v : Value} {ks : List Int} {w : World} (h : KRow v ks w) (hne : ks ≠ []) (g : Nat) (e : v.ownBlock = some g) : g < w.heap.size := by
  obtain ⟨pa, cap, ev, hc⟩ := h
  obtain ⟨c, hc0⟩ : ∃ c, ks[0]? = some c := by
    cases ks with
    | nil => exact absurd rfl hne
    | cons a l => exact ⟨a, rfl⟩
  obtain ⟨g', o, e3, hg', _⟩ := hc.1 0 c hc0
  rw [ev, e3] at e
  simp only [Value.ownBlock, Option.some.injEq] at e
  omega
theorem own_lt {base n sz : Nat} {T : TypeId} {v : Value} {xs : List Value} {w : World} (h : w.ownsRow base T sz v n xs) (g : Nat) (e : v.ownBlock = some g) : base ≤ g ∧ g < w.heap.size := h.lt g e

/-- A builder, and another row: nothing of the one lies in the other. -/
structure Sep (bB : Nat) (v : Value) (P : List (NodeD × Value)) (u : Value) (Q : List (NodeD × Value)) : Prop where
  s1 : ∀ g, u.ownBlock = some g → g ≠ bB ∧ v.ownBlock ≠ some g
  s2 : ∀ p ∈ P, p.1.2.2.2.2 ≠ [] → ∀ g, p.2.ownBlock = some g → u.ownBlock ≠ some g
  s3 : ∀ q ∈ Q, q.1.2.2.2.2 ≠ [] → ∀ g, q.2.ownBlock = some g → g ≠ bB ∧ v.ownBlock ≠ some g

/-- Nodes that are written out are appended to a row of the call's own, in a region that draws its order. -/
theorem step_tapp {ops : Array Oper} {o : Oper} {a : Act} {K : Act → World → Prop} {Q' : Exit → Act → World → Prop} {E : Prop} (hgd : o.guard = none) (s x : Operand)
    (ho : o.op = .call { callee := .builtin .append, args := #[s, x], argTypes := #[23, 23] }) (base : Nat) (v : Value) (P : List (NodeD × Value)) (w : World) (hT : TRow base v P w) (hbase : base ≤ w.heap.size) (W : World) (hb : Below w.heap.size w W) (hz : W.heap.size = w.heap.size + 1)
    (Q : List (NodeD × Value)) (n m : Nat) (hn : P.length = n) (hm : Q.length = m) (hQ : 0 < m) (cs : Array Value) (hc : W.heap[w.heap.size]? = some (.cells cs 39 (0, 0))) (hcs : cs.toList = flatT Q) (hs : a.eval s = v) (hx : a.eval x = .slice (some ⟨w.heap.size, 0, none⟩) m m)
    (hq : ∀ q ∈ Q, KRowX v.ownBlock q.2 q.1.2.2.2.2 w) (hlen : n + m ≤ 1000000)
    (h : ∀ g c w', Hid (TRow base (.slice (some ⟨g, 0, none⟩) (n + m) c) (P ++ Q) w') → Hid ((P ++ Q).length = n + m) → Hid (But (fun k => v.ownBlock = some k) w w') → Hid (some g = v.ownBlock ∨ w.heap.size ≤ g) → K (a.put o.dst (.slice (some ⟨g, 0, none⟩) (n + m) c)) w') :
    if Region.wanted o (yielded ops a.tmps) = true then Oper.wp Tryz.prog o a W K Q' else E := by
  subst hn
  subst hm
  obtain ⟨i0, hi, hz0, hz1, hz2⟩ := info_parts infoNode
  have hTW := hT.below hb
  have hnew : ∀ (j : Nat) (u : Value), (flatT Q)[j]? = some u → W.cell? ((⟨w.heap.size, 0, none⟩ : Addr).add j) = some u := by
    intro j u h
    have e : ((⟨w.heap.size, 0, none⟩ : Addr).add j) = ⟨w.heap.size, j, none⟩ := by unfold Addr.add; split <;> simp_all
    rw [e, cell_of_row _ w.heap.size j _ 39 (0, 0) hc, ← Array.getElem?_toList, hcs]
    exact h
  refine step_append_lies _ hgd s x 23 ho base 39 i0 _ 5 64 Tryz.underlying23 hi hz0 hz1 hz2 rfl (by decide) v P.length (flatT P) hs hTW.1 ⟨w.heap.size, 0, none⟩ Q.length Q.length (flatT Q) hx (flatT_length Q) hnew ?_ hQ (by unfold maxLen; omega) (by omega) (by omega) (w.heap.size + 1) hz ?_
  · intro u hu
    rcases flatT_one Q u hu with ⟨i, rfl⟩ | ⟨s, rfl⟩ | ⟨q, hqm, rfl⟩
    · rfl
    · rfl
    · obtain ⟨pa, cap, e, _⟩ := (hq q hqm).1
      rw [e]; rfl
  · intro g c w' hown' hgrow hat hlt
    have hloc : (Value.slice (some ⟨g, 0, none⟩) (P.length + Q.length) c).ownBlock = v.ownBlock ∨ (Value.slice (some ⟨g, 0, none⟩) (P.length + Q.length) c).ownBlock = some W.heap.size := by
      rcases hat with e | e
      · exact Or.inl (by rw [e]; rfl)
      · exact Or.inr (by rw [e, hz]; rfl)
    have hT' := hTW.grow hown' hgrow hloc (fun q hqm => ⟨(hq q hqm).1.below hb, (hq q hqm).2⟩)
    have hs2 := hb.size
    refine h g c w' hT' (show _ = _ by rw [List.length_append]) (show But _ _ _ from ⟨hgrow.os.trans hb.os, hgrow.tape.trans hb.tape, hgrow.output.trans hb.output, Nat.le_trans hs2 hgrow.size, fun k hk hn => ⟨(hgrow.block k (by omega) (fun e => hn e.symm)).trans (hb.block k hk), fun e => hn e⟩⟩) ?_
    show _ ∨ _
    rcases hat with e | e
    · exact Or.inl e.symm
    · exact Or.inr (by omega)
theorem step_all {bB : Nat} {v v' vk u um : Value} {P Q : List (NodeD × Value)} {wr w5 w9 : World} {nd : NodeD} {g9 c9 i : Nat}
    (hB : Bld bB bB v P wr) (hT : TRow bB u Q wr) (hS : Sep bB v P u Q) (hB5 : Bld bB bB v' (P ++ [(nd, vk)]) w5) (hC5 : But (fun k => k = bB ∨ v.ownBlock = some k) wr w5)
    (hL5 : v'.ownBlock = v.ownBlock ∨ ∃ g, v'.ownBlock = some g ∧ wr.heap.size ≤ g) (hF5 : ∀ g, vk.ownBlock = some g → wr.heap.size ≤ g)
    (hm : ∀ g, um.ownBlock = some g → g ≠ bB ∧ v.ownBlock ≠ some g ∧ g < wr.heap.size) (hB9 : But (fun k => u.ownBlock = some k) w5 w9) (hG9 : some g9 = u.ownBlock ∨ w5.heap.size ≤ g9) :
    Bld bB bB v' (P ++ [(nd, vk)]) w9 ∧ Sep bB v' (P ++ [(nd, vk)]) (.slice (some ⟨g9, 0, none⟩) (i + 1) c9) (Q ++ [(nd, um)]) ∧ Below bB wr w9 := by
  have hbB : bB < wr.heap.size := (Array.getElem?_eq_some_iff.1 hB.blk).1
  have hsz := hC5.size
  have hu : ∀ g, u.ownBlock = some g → bB ≤ g ∧ g < wr.heap.size := fun g e => hT.1.lt g e
  have hv : ∀ g, v.ownBlock = some g → bB ≤ g ∧ g < wr.heap.size := fun g e => hB.row.1.lt g e
  have hv' : ∀ g, v'.ownBlock = some g → g < w5.heap.size := fun g e => (hB5.row.1.lt g e).2
  have hvu : ∀ g, v'.ownBlock = some g → u.ownBlock ≠ some g := fun g e e2 => by
    rcases hL5 with h | ⟨g', h, hg⟩
    · exact (hS.s1 g e2).2 (h.symm.trans e)
    · rw [h] at e; injection e with e; subst e; have := hu _ e2; omega
  have hpu : ∀ p ∈ P ++ [(nd, vk)], p.1.2.2.2.2 ≠ [] → ∀ g, p.2.ownBlock = some g → u.ownBlock ≠ some g := fun p hp hne g e e2 => by
    rcases List.mem_append.1 hp with hp | hp
    · exact hS.s2 p hp hne g e e2
    · simp only [List.mem_cons, List.not_mem_nil, or_false] at hp
      subst hp
      have h1 := hF5 g e
      have h2 := hu g e2
      omega
  refine ⟨hB5.but hB9 (fun e => (hS.s1 bB e).1 rfl) hvu hpu, ⟨?_, ?_, ?_⟩, ?_⟩
  · intro g e
    simp only [Value.ownBlock, Option.some.injEq] at e
    subst e
    rcases hG9 with h | h
    · exact ⟨(hS.s1 g9 h.symm).1, fun e2 => hvu g9 e2 h.symm⟩
    · exact ⟨by omega, fun e2 => by have := hv' g9 e2; omega⟩
  · intro p hp hne g e e2
    simp only [Value.ownBlock, Option.some.injEq] at e2
    subst e2
    rcases hG9 with h | h
    · exact hpu p hp hne g9 e h.symm
    · have := (hB5.row.2 p hp).1.lt hne g9 e; omega
  · intro q hq hne g e
    rcases List.mem_append.1 hq with hq | hq
    · have h3 := hS.s3 q hq hne g e
      refine ⟨h3.1, fun e2 => ?_⟩
      rcases hL5 with h | ⟨g', h, hg⟩
      · exact h3.2 (h.symm.trans e2)
      · rw [h] at e2; injection e2 with e2; subst e2
        have := (hT.2 q hq).1.lt hne _ e; omega
    · simp only [List.mem_cons, List.not_mem_nil, or_false] at hq
      subst hq
      have h3 := hm g e
      refine ⟨h3.1, fun e2 => ?_⟩
      rcases hL5 with h | ⟨g', h, hg⟩
      · exact h3.2.1 (h.symm.trans e2)
      · rw [h] at e2; injection e2 with e2; subst e2; omega
  · exact (hC5.below (by omega) (fun b hb e => e.elim (fun h => by omega) (fun h => by have := (hv b h).1; omega))).trans (hB9.below (by omega) (fun b hb e => by have := (hu b e).1; omega))
end Go.Proofs.YtkmmcphiijolkaaGreatDoor
