/-
  Texts of the tree package put behind one another: MkHe, MkHi.
-/
import Derived.Test.YtkmmcphiijolkaaGreatDoorZk
import Derived.Deep.RegionLaw
import Derived.Deep.DrawnRows
set_option linter.unusedVariables false
set_option linter.unusedSimpArgs false
namespace Go.Proofs.YtkmmcphiijolkaaGreatDoor
open Go.RowKit Go.Shelf
open Tr

theorem lit5 (r : Nat) (hr : r < 5) : (#[Value.string ⟨#[97]⟩, Value.string ⟨#[98]⟩, Value.string ⟨#[97, 112, 112, 101, 110, 100]⟩, Value.string ⟨#[97, 114, 103, 115]⟩, Value.string ⟨#[112, 111, 112]⟩] : Array Value)[r]? = some (.string ⟨(at5.getD r []).toArray⟩) := by
  match r, hr with
  | 0, _ => rfl
  | 1, _ => rfl
  | 2, _ => rfl
  | 3, _ => rfl
  | 4, _ => rfl
theorem at5_getD (r : Nat) (hr : r < 5) : at5.getD r [] ∈ at5 := by
  match r, hr with
  | 0, _ => decide
  | 1, _ => decide
  | 2, _ => decide
  | 3, _ => decide
  | 4, _ => decide
theorem lit5_new (W : World) (r : Nat) (hr : r < 5) : (W.alloc (.cells #[Value.string ⟨#[97]⟩, Value.string ⟨#[98]⟩, Value.string ⟨#[97, 112, 112, 101, 110, 100]⟩, Value.string ⟨#[97, 114, 103, 115]⟩, Value.string ⟨#[112, 111, 112]⟩] 9)).cell? ⟨W.heap.size, r, none⟩ = some (.string ⟨(at5.getD r []).toArray⟩) := by
  rw [cell_of_row _ W.heap.size r _ 9 (0, 0) (heap_alloc_new W _)]
  exact lit5 r hr
theorem lit5_new2 (W : World) (o : Obj) (r : Nat) (hr : r < 5) : ((W.alloc o).alloc (.cells #[Value.string ⟨#[97]⟩, Value.string ⟨#[98]⟩, Value.string ⟨#[97, 112, 112, 101, 110, 100]⟩, Value.string ⟨#[97, 114, 103, 115]⟩, Value.string ⟨#[112, 111, 112]⟩] 9)).cell? ⟨W.heap.size + 1, r, none⟩ = some (.string ⟨(at5.getD r []).toArray⟩) := by
  have := lit5_new (W.alloc o) r hr
  rwa [show (W.alloc o).heap.size = W.heap.size + 1 by simp] at this
/-- The literal's cell behind steps of the maker that were made when it lay there. -/
theorem lit5_far {base M : Nat} {vs : Value} {s : List Int} {σ σ' : St} {w0 wq w2 : World} {al : List Ast} (hS : MkS base M vs s σ w0) (hT : To base M vs s σ wq σ' w2 al) (hq : wq.heap[w0.heap.size]? = some (.cells #[Value.string ⟨#[97]⟩, Value.string ⟨#[98]⟩, Value.string ⟨#[97, 112, 112, 101, 110, 100]⟩, Value.string ⟨#[97, 114, 103, 115]⟩, Value.string ⟨#[112, 111, 112]⟩] 9 (0, 0))) (r : Nat) (hr : r < 5) :
    w2.cell? ⟨w0.heap.size, r, none⟩ = some (.string ⟨(at5.getD r []).toArray⟩) ∧ σ'.vt.ownBlock ≠ some w0.heap.size ∧ w0.heap.size ≠ M ∧ w0.heap.size < w2.heap.size := by
  have hz : w0.heap.size < wq.heap.size := (Array.getElem?_eq_some_iff.1 hq).1
  have h1 := hT.far (g := w0.heap.size) hz (by have := hS.lt; omega) (fun e => by have := (hS.row.1.lt _ e).2; omega)
  refine ⟨?_, h1.2, by have := hS.lt; omega, Nat.lt_of_lt_of_le hz hT.but.size⟩
  rw [cell_of_row w2 w0.heap.size r _ 9 (0, 0) (h1.1.trans hq)]
  exact lit5 r hr
theorem alloc_far {w : World} {g r : Nat} {v : Value} (h : w.cell? ⟨g, r, none⟩ = some v) (hg : g < w.heap.size) (o : Obj) : (w.alloc o).cell? ⟨g, r, none⟩ = some v := (World.cell?_alloc_lt _ _ _ hg).trans h

end Go.Proofs.YtkmmcphiijolkaaGreatDoor

set_option linter.unusedVariables false
set_option linter.unusedSimpArgs false
namespace Go.Proofs.YtkmmcphiijolkaaGreatDoor
open Go.RowKit Go.Shelf
open Tr
attribute [local go_sem ↓] Go.wp_at_zero Go.wp_at_succ

set_option maxHeartbeats 40000000 in
set_option maxRecDepth 100000 in
theorem exprE_of {base M : Nat} {vs : Value} {s : List Int} {d : Nat} (hE : ExprC base M vs s d) (σ : St) (w : World) (hS : MkS base M vs s σ w) (hP : σ.P.length + sz (d + 1) ≤ 1000000) (hd : d ≤ 100) (hlf : σ.P.length < 160)
    (hnext : Calls Tryz.prog 23 #[.pointer (some ⟨M, 0, none⟩), .int .i64 30] w fun e w' => ∃ (r : Nat) (σ' : St), e = .returned (.int .i64 (r : Int)) ∧ (r = 24 ∨ r = 25) ∧ Hid (To base M vs s σ w σ' w' [])) :
    Calls Tryz.prog 47 #[.pointer (some ⟨M, 0, none⟩), .int .i64 ((d : Int) + 1)] w fun e w' => ∃ (a : Ast) (σ' : St), e = .returned (.int .i64 ((σ.P.length + a.size - 1 : Nat) : Int)) ∧ Hid (To base M vs s σ w σ' w' [a]) ∧ EOk (d + 1) a ∧ a.size < sz (d + 1) := by
  have HE := Lib.hid hE
  have hz4 := sz_pos d
  obtain ⟨S, hSz⟩ := hid_ex (sz d)
  have HZ : Hid (sz (d + 1) = 4 * S) := (show _ = _ by rw [← hSz.out]; rfl)
  rw [HZ.out] at hP ⊢
  rw [hSz.out] at hz4
  have hdw : IntKind.i64.wrap ((d : Int) + 1 - 1) = (d : Int) := by rw [IntWalk.i64_in _ (by omega)]; omega
  have hdv : IntKind.i64.wrap (d : Int) = (d : Int) := IntWalk.i64_in _ (by omega)
  obtain ⟨p, hp⟩ := hid_ex σ.P.length
  rw [hp.out] at hP hlf ⊢
  have hd0 : ¬ (d : Int) + 1 ≤ 0 := by omega
  have hl0 : ¬ 160 - (p : Int) ≤ 0 := by omega
  clear hS hE
  go_enter Tryz.func47, Tryz.ntmps47
  go_upto_region 4 with (go_at_call 23; refine hnext.mono ?_; clear hnext; rintro e w1 ⟨r, σ1, rfl, hr, H1⟩; have c3 := H1.out.st.cell 3; simp only [List.getElem?_toArray, List.getElem?_cons_succ, List.getElem?_cons_zero] at c3; rw [H1.out.len, hp.out] at c3; simp only [sizes, Nat.add_zero] at c3)
  rcases hr with rfl | rfl
  all_goals clear c3 hl0 hlf hd0
  all_goals go_upto_region 56 with fail
  all_goals go_region_law (first
    | (go_simp; go_at_call 25; go_loud (first | (with_reducible (show Calls _ _ #[_, _, _, _, Value.slice (some ⟨w3.heap.size, 0, none⟩) 1 1] (w3.alloc _) _); have hl := lit_at H3.out #[.int .i64 ((p + sizes [] + a.size - 1 : Nat) : Int)] (by rw [hp.out]; simp [rootsA, sizes]) 1 rfl; refine (add_at H3.out _ (by first | exact (Below.refl _ _).alloc (Nat.le_refl _) _ | exact ((Below.refl _ _).alloc (Nat.le_refl _) _).drew) 18 0 ⟨x.toArray⟩ _ hl.1 (fun _ => hl.2) (by rw [hp.out]; simp only [List.nil_append, List.cons_append, sizes, size_mk]; omega) (by simp)).mono ?_; rintro e w4 ⟨σ4, rfl, H4⟩; rw [hp.out]) | (with_reducible (show Calls _ _ #[_, _, _, _, Value.slice (some ⟨w3.heap.size, 0, none⟩) 1 1] ((w3.alloc _).alloc _) _); have hl := lit_at H3.out #[.int .i64 ((p + sizes [] + a.size - 1 : Nat) : Int)] (by rw [hp.out]; simp [rootsA, sizes]) 1 rfl; refine (add_at H3.out _ (by first | exact ((Below.refl _ _).alloc (Nat.le_refl _) _).alloc (by simp) _ | exact (((Below.refl _ _).alloc (Nat.le_refl _) _).alloc (by simp) _).drew) 18 0 ⟨x.toArray⟩ _ (hl.1.below ((Below.refl _ _).alloc (Nat.le_refl _) _)) (fun _ => hl.2) (by rw [hp.out]; simp only [List.nil_append, List.cons_append, sizes, size_mk]; omega) (by simp)).mono ?_; rintro e w4 ⟨σ4, rfl, H4⟩; rw [hp.out]) | (with_reducible (show Calls _ _ #[_, _, _, _, Value.slice (some ⟨w3.heap.size + 1, 0, none⟩) 1 1] ((w3.alloc _).alloc _) _); have hl := lit_at H3L.out #[.int .i64 ((p + sizes [] + a.size - 1 : Nat) : Int)] (by rw [hp.out]; simp [rootsA, sizes]) 1 rfl; rw [show (w3.alloc (.cells #[Value.string ⟨#[97]⟩, Value.string ⟨#[98]⟩, Value.string ⟨#[97, 112, 112, 101, 110, 100]⟩, Value.string ⟨#[97, 114, 103, 115]⟩, Value.string ⟨#[112, 111, 112]⟩] 9)).heap.size = w3.heap.size + 1 by simp] at hl; refine (add_at H3L.out _ (by first | exact (Below.refl _ _).alloc (Nat.le_refl _) _ | exact ((Below.refl _ _).alloc (Nat.le_refl _) _).drew) 18 0 ⟨x.toArray⟩ _ hl.1 (fun _ => hl.2) (by rw [hp.out]; simp only [List.nil_append, List.cons_append, sizes, size_mk]; omega) (by simp)).mono ?_; rintro e w4 ⟨σ4, rfl, H4⟩; rw [hp.out])))
    | (go_simp; go_at_call 47; go_loud (refine (expr_at (d := d) HE.out H2.out _ (by first | exact Below.refl _ _ | exact (Below.refl _ _).drew | exact (Below.refl _ _).alloc (Nat.le_refl _) _ | exact ((Below.refl _ _).alloc (Nat.le_refl _) _).drew) (by rw [hp.out, hSz.out]; simp only [List.nil_append, List.cons_append, sizes, size_mk]; omega)).mono ?_; rintro e w3 ⟨a, σ3, rfl, H3, HA2, ha2, H3'⟩; rw [hp.out]; rw [hSz.out] at ha2; have H3L := Lib.hid (H3.out.below ((Below.refl _ _).alloc (Nat.le_refl _) (.cells #[Value.string ⟨#[97]⟩, Value.string ⟨#[98]⟩, Value.string ⟨#[97, 112, 112, 101, 110, 100]⟩, Value.string ⟨#[97, 114, 103, 115]⟩, Value.string ⟨#[112, 111, 112]⟩] 9))); have hq1 := lit5_new w3 r2 (by omega); rw [hx.out] at hq1; have hq2 := alloc_far hq1 (by simp); have hq3 := (fun o => lit5_new2 w3 o r2 (by omega)); simp only [hx.out] at hq3; first | (have hf3 := H3'.out.far HF.out.2.2 HF.out.2.1 HF.out.1; have hc3 := (World.cell?_of_block (a := ⟨w1.heap.size, r2, none⟩) hf3.1).trans hc; have hc3' := alloc_far hc3 (Nat.lt_of_lt_of_le HF.out.2.2 H3'.out.but.size); clear hf3) | (have hf3 := lit5_far H2.out.st H3'.out (heap_alloc_new w2 _) r2 (by omega); rw [hx.out] at hf3; have hc3 := hf3.1; have hc3' := alloc_far hc3 hf3.2.2.2; clear hf3) | skip))
    | (go_simp; go_at_call 23; go_loud (refine (next_at H1.out _ (by first | exact Below.refl _ _ | exact (Below.refl _ _).drew | exact (Below.refl _ _).alloc (Nat.le_refl _) _ | exact ((Below.refl _ _).alloc (Nat.le_refl _) _).drew) 5 (by omega) (by omega)).mono ?_; rintro e w2 ⟨r2, σ2, rfl, hr2, H2, H2'⟩; obtain ⟨x, hx⟩ := hid_ex (at5.getD r2 []); have hq0 := (fun W => lit5_new W r2 (by omega)); simp only [hx.out] at hq0; first | (have hf2 := lit5_far H1.out.st H2'.out (heap_alloc_new w1 _) r2 (by omega); rw [hx.out] at hf2; have hc := hf2.1; have HF := Lib.hid hf2.2; clear hf2) | skip)))
  all_goals go_wp2_with fail
  all_goals go_ret
  all_goals first
    | (refine ⟨.mk 18 x 0 [a], σ4, ?_, (by have := H4; simpa using this), EOk.attr _ _ _ (by rw [← hx.out]; exact at5_ok _ (at5_getD r2 (by omega))) HA2, by rw [size_mk]; simp only [sizes]; omega⟩; rw [size_mk]; simp [sizes])
    | (refine ⟨.mk 18 x 0 [a], ?_, ⟨σ4, (by have := H4; simpa using this)⟩, EOk.attr _ _ _ (by rw [← hx.out]; exact at5_ok _ (at5_getD r2 (by omega))) HA2, by rw [size_mk]; simp only [sizes]; omega⟩; rw [size_mk]; simp [sizes])
end Go.Proofs.YtkmmcphiijolkaaGreatDoor
