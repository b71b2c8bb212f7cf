/-
  Texts of the tree package put behind one another: MkH0, MkHa, MkH1, MkHb.
-/
import Derived.Test.YtkmmcphiijolkaaGreatDoorZj
import Derived.Deep.Upon
set_option linter.unusedVariables false
set_option linter.unusedSimpArgs false
namespace Go.Proofs.YtkmmcphiijolkaaGreatDoor
open Go.RowKit Go.Shelf
open Tr

namespace Tr
def str4 : List Sp.Bs := [[], [107], [97, 98], [97, 39, 92]]
def lit3 : List Int := [1, 2, 3]
def ar8 : List Sp.Bs := [[43], [45], [42], [47, 47], [37], [42, 42], [43], [43]]
def co10 : List Sp.Bs := [[61, 61], [60], [105, 110], [105, 115], [33, 61], [110, 111, 116, 32, 105, 110], [105, 115, 32, 110, 111, 116], [60, 61], [62], [62, 61]]
def fgk : List Sp.Bs := [[102], [103], [75]]
def at5 : List Sp.Bs := [[97], [98], [97, 112, 112, 101, 110, 100], [97, 114, 103, 115], [112, 111, 112]]
theorem str4_len (x : Sp.Bs) (h : x ∈ str4) : x.length ≤ 3 := by
  have := List.all_eq_true.1 (show (str4.all fun x => decide (x.length ≤ 3)) = true by decide) x h
  simpa using this
theorem ar8_ok (x : Sp.Bs) (h : x ∈ ar8) : sArith x = true := List.all_eq_true.1 (show (ar8.all fun x => sArith x) = true by decide) x h
theorem co10_ok (x : Sp.Bs) (h : x ∈ co10) : sComp x = true := List.all_eq_true.1 (show (co10.all fun x => sComp x) = true by decide) x h
theorem fgk_nm8 (x : Sp.Bs) (h : x ∈ fgk) : x ∈ nm8 := by
  have := List.all_eq_true.1 (show (fgk.all fun x => decide (x ∈ nm8)) = true by decide) x h
  simpa using this
theorem at5_ok (x : Sp.Bs) (h : x ∈ at5) : sName x = true := List.all_eq_true.1 (show (at5.all fun x => sName x) = true by decide +kernel) x h
theorem EOk.up {d : Nat} {a : Ast} (h : EOk d a) : EOk (d + 1) a := by
  induction h with
  | int d n h => exact .int _ n h
  | name d t h => exact .name _ t h
  | str d t h => exact .str _ t h
  | lit d o h => exact .lit _ o h
  | bin d t a b h ha hb iha ihb => exact .bin _ t a b h iha ihb
  | cmp d t a b h ha hb iha ihb => exact .cmp _ t a b h iha ihb
  | pair d o a b h ha hb iha ihb => exact .pair _ o a b h iha ihb
  | one d o a h ha iha => exact .one _ o a h iha
  | row d o l h hl ih => exact .row _ o l h ih
  | dict d l h hl ih => exact .dict _ l h ih
  | call d l h hl ih => exact .call _ l h ih
  | attr d t a h ha iha => exact .attr _ t a h iha
  | three d o a b c h ha hb hc iha ihb ihc => exact .three _ o a b c h iha ihb ihc
  | lam d t a h ha iha => exact .lam _ t a h iha
theorem EOk.le {d : Nat} {a : Ast} (h : EOk d a) {e : Nat} (hle : d ≤ e) : EOk e a := by
  obtain ⟨k, rfl⟩ : ∃ k, e = d + k := ⟨e - d, by omega⟩
  clear hle
  induction k with
  | zero => exact h
  | succ k ih => exact ih.up
end Tr
end Go.Proofs.YtkmmcphiijolkaaGreatDoor

set_option linter.unusedVariables false
set_option linter.unusedSimpArgs false
namespace Go.Proofs.YtkmmcphiijolkaaGreatDoor
open Go.RowKit Go.Shelf
open Tr

set_option maxHeartbeats 40000000 in
set_option maxRecDepth 100000 in
theorem exprA_of {base M : Nat} {vs : Value} {s : List Int} {d : Nat} (hE : ExprC base M vs s d) (hE0 : ExprC base M vs s 0) (σ : St) (w : World) (hS : MkS base M vs s σ w) (hP : σ.P.length + sz (d + 1) ≤ 1000000) (hd : d ≤ 100) (hlf : σ.P.length < 160)
    (hnext : Calls Tryz.prog 23 #[.pointer (some ⟨M, 0, none⟩), .int .i64 30] w fun e w' => ∃ (r : Nat) (σ' : St), e = .returned (.int .i64 (r : Int)) ∧ (r = 0 ∨ r = 1 ∨ r = 4 ∨ r = 5 ∨ r = 6 ∨ r = 8 ∨ r = 10 ∨ r = 12) ∧ Hid (To base M vs s σ w σ' w' [])) :
    Calls Tryz.prog 47 #[.pointer (some ⟨M, 0, none⟩), .int .i64 ((d : Int) + 1)] w fun e w' => ∃ (a : Ast) (σ' : St), e = .returned (.int .i64 ((σ.P.length + a.size - 1 : Nat) : Int)) ∧ Hid (To base M vs s σ w σ' w' [a]) ∧ EOk (d + 1) a ∧ a.size < sz (d + 1) := by
  have HE := Lib.hid hE
  have HE0 := Lib.hid hE0
  have hz4 := sz_pos d
  obtain ⟨S, hSz⟩ := hid_ex (sz d)
  have HZ : Hid (sz (d + 1) = 4 * S) := (show _ = _ by rw [← hSz.out]; rfl)
  rw [HZ.out] at hP ⊢
  rw [hSz.out] at hz4
  have hdw : IntKind.i64.wrap ((d : Int) + 1 - 1) = (d : Int) + 1 - 1 := IntWalk.i64_in _ (by omega)
  obtain ⟨p, hp⟩ := hid_ex σ.P.length
  rw [hp.out] at hP hlf ⊢
  have hd0 : ¬ (d : Int) + 1 ≤ 0 := by omega
  have hl0 : ¬ 160 - (p : Int) ≤ 0 := by omega
  clear hS hE hE0
  go_enter Tryz.func47, Tryz.ntmps47
  go_upto_region 4 with (go_at_call 23; refine hnext.mono ?_; clear hnext; rintro e w1 ⟨r, σ1, rfl, hr, H1⟩; have c3 := H1.out.st.cell 3; simp only [List.getElem?_toArray, List.getElem?_cons_succ, List.getElem?_cons_zero] at c3; rw [H1.out.len, hp.out] at c3; simp only [sizes, Nat.add_zero] at c3)
  rcases hr with rfl | rfl | rfl | rfl | rfl | rfl | rfl | rfl
  · clear c3 hl0 hlf hd0
    go_wp2_with (first
      | (go_at_call 23; refine (next_at H1.out w1 (Below.refl _ _) 5 (by omega) (by omega)).mono ?_; rintro e w2 ⟨r2, σ2, rfl, hr2, H2, H2'⟩)
      | (go_at_call 25; refine (leaf_at H2.out w2 (Below.refl _ _) (4) (r2 : Int) ⟨#[]⟩ (by rw [hp.out]; simp only [List.nil_append, List.cons_append, sizes]; omega)).mono ?_; rintro e w3 ⟨σ3, rfl, H3, H3'⟩; rw [hp.out]))
    go_ret
    refine ⟨_, σ3, ?_, H3, EOk.int _ _ ⟨by omega, hr2⟩, by rw [size_mk]; simp only [sizes]; omega⟩
    rw [size_mk]; rfl
  · clear c3 hl0 hlf hd0
    go_wp2_with (first
      | (go_at_call 91; refine (name_at H1.out w1 (Below.refl _ _)).mono ?_; rintro e w2 ⟨t2, σ2, rfl, ht2, H2, _⟩; have HN := Lib.hid ht2; clear ht2)
      | (go_at_call 25; refine (leaf_at H2.out w2 (Below.refl _ _) (6) 0 ⟨t2.toArray⟩ (by rw [hp.out]; simp only [List.nil_append, List.cons_append, sizes]; omega)).mono ?_; rintro e w3 ⟨σ3, rfl, H3, H3'⟩; rw [hp.out]))
    go_ret
    refine ⟨.mk 6 t2 0 [], σ3, ?_, (by have := H3; simpa using this), EOk.name _ _ (Or.inl HN.out), by rw [size_mk]; simp only [sizes]; omega⟩
    rw [size_mk]; rfl
  · clear c3 hl0 hlf hd0
    go_wp2_with (first
      | (go_at_call 23; refine (next_at H1.out _ ((Below.refl _ _).alloc (Nat.le_refl _) _) 4 (by omega) (by omega)).mono ?_; rintro e w2 ⟨r2, σ2, rfl, hr2, H2, H2'⟩; obtain ⟨x, hx, hc⟩ := pick_text H1.out.st H2'.out str4 rfl r2 (by show r2 < 4; omega); have HX := Lib.hid hx; clear hx)
      | (go_at_call 25; refine (leaf_at H2.out w2 (Below.refl _ _) (5) 0 ⟨x.toArray⟩ (by rw [hp.out]; simp only [List.nil_append, List.cons_append, sizes]; omega)).mono ?_; rintro e w3 ⟨σ3, rfl, H3, H3'⟩; rw [hp.out]))
    go_ret
    refine ⟨.mk 5 x 0 [], σ3, ?_, (by have := H3; simpa using this), EOk.str _ _ (str4_len x HX.out), by rw [size_mk]; simp only [sizes]; omega⟩
    rw [size_mk]; rfl
  · clear c3 hl0 hlf hd0
    go_wp2_with (first
      | (go_at_call 23; refine (next_at H1.out _ ((Below.refl _ _).alloc (Nat.le_refl _) _) 3 (by omega) (by omega)).mono ?_; rintro e w2 ⟨r2, σ2, rfl, hr2, H2, H2'⟩; obtain ⟨x, hx, hc⟩ := pick_int H1.out.st H2'.out lit3 rfl r2 (by show r2 < 3; omega); have HX := Lib.hid hx; clear hx)
      | (go_at_call 25; refine (leaf_at H2.out w2 (Below.refl _ _) (x) 0 ⟨#[]⟩ (by rw [hp.out]; simp only [List.nil_append, List.cons_append, sizes]; omega)).mono ?_; rintro e w3 ⟨σ3, rfl, H3, H3'⟩; rw [hp.out]))
    go_ret
    refine ⟨.mk x [] 0 [], σ3, ?_, H3, EOk.lit _ _ (by have := HX.out; simpa [lit3] using this), by rw [size_mk]; simp only [sizes]; omega⟩
    rw [size_mk]; rfl
  · clear c3 hl0 hlf hd0
    go_wp2_with (first
      | (go_at_call 23; refine (next_at H1.out _ ((Below.refl _ _).alloc (Nat.le_refl _) _) 8 (by omega) (by omega)).mono ?_; rintro e w2 ⟨r2, σ2, rfl, hr2, H2, H2'⟩; obtain ⟨x, hx, hc⟩ := pick_text H1.out.st H2'.out ar8 rfl r2 (by show r2 < 8; omega); have HX := Lib.hid hx; clear hx)
      | (go_at_call 92; refine (two_at HE.out H2.out w2 (Below.refl _ _) (by rw [hp.out, hSz.out]; exact hP) hd (12) ⟨x.toArray⟩).mono ?_; rintro e w3 ⟨a, b, σ3, rfl, H3, HA, HB, hs3⟩; rw [hp.out]; rw [hSz.out] at hs3))
    go_ret
    refine ⟨_, σ3, rfl, H3, ?_, hs3⟩
    exact EOk.bin _ _ _ _ (by simpa using ar8_ok x HX.out) HA HB
  · clear c3 hl0 hlf hd0
    go_wp2_with (first
      | (go_at_call 23; refine (next_at H1.out _ ((Below.refl _ _).alloc (Nat.le_refl _) _) 10 (by omega) (by omega)).mono ?_; rintro e w2 ⟨r2, σ2, rfl, hr2, H2, H2'⟩; obtain ⟨x, hx, hc⟩ := pick_text H1.out.st H2'.out co10 rfl r2 (by show r2 < 10; omega); have HX := Lib.hid hx; clear hx)
      | (go_at_call 92; refine (two_at HE.out H2.out w2 (Below.refl _ _) (by rw [hp.out, hSz.out]; exact hP) hd (13) ⟨x.toArray⟩).mono ?_; rintro e w3 ⟨a, b, σ3, rfl, H3, HA, HB, hs3⟩; rw [hp.out]; rw [hSz.out] at hs3))
    go_ret
    refine ⟨_, σ3, rfl, H3, ?_, hs3⟩
    exact EOk.cmp _ _ _ _ (by simpa using co10_ok x HX.out) HA HB
  · clear c3 hl0 hlf hd0
    go_wp2_with (first
      | (go_at_call 92; refine (two_at HE.out H1.out w1 (Below.refl _ _) (by rw [hp.out, hSz.out]; exact hP) hd (14) ⟨#[]⟩).mono ?_; rintro e w2 ⟨a, b, σ2, rfl, H2, HA, HB, hs2⟩; rw [hp.out]; rw [hSz.out] at hs2))
    go_ret
    exact ⟨_, σ2, rfl, H2, EOk.pair _ _ _ _ (by omega) HA HB, hs2⟩
  · clear c3 hl0 hlf hd0
    go_wp2_with (first
      | (go_at_call 47; refine (expr_at (d := d) HE.out H1.out w1 (Below.refl _ _) (by rw [hp.out, hSz.out]; simp only [List.nil_append, List.cons_append, sizes]; omega)).mono ?_; rintro e w2 ⟨a, σ2, rfl, H2, HA2, ha2, H2'⟩; rw [hp.out]; rw [hSz.out] at ha2)
      | (go_at_call 25; have hl := lit_at H2.out #[.int .i64 ((p + sizes [] + a.size - 1 : Nat) : Int)] (by rw [hp.out]; simp [rootsA, sizes]) 1 rfl; refine (add_at H2.out _ ((Below.refl _ _).alloc (Nat.le_refl _) _) (11) 0 ⟨#[]⟩ _ hl.1 (fun _ => hl.2) (by rw [hp.out]; simp only [List.nil_append, List.cons_append, sizes]; omega) (by simp)).mono ?_; rintro e w3 ⟨σ3, rfl, H3⟩; rw [hp.out]))
    go_ret
    refine ⟨_, σ3, ?_, H3, EOk.one _ _ _ (by omega) HA2, by rw [size_mk]; simp only [List.nil_append, List.cons_append, sizes]; omega⟩
    rw [size_mk]; rfl
end Go.Proofs.YtkmmcphiijolkaaGreatDoor

set_option linter.unusedVariables false
set_option linter.unusedSimpArgs false
namespace Go.Proofs.YtkmmcphiijolkaaGreatDoor
open Go.RowKit Go.Shelf
open Tr

set_option maxRecDepth 100000 in
/-- A row of numbers of the call's own, perhaps nothing, is appended to another one. -/
theorem wpList_kapp2 {ops : Array Oper} {rest : List Oper} {o : Oper} {a : Act} {Q' : Exit → Act → World → Prop} (hgd : o.guard = none) (s x : Operand)
    (ho : o.op = .call { callee := .builtin .append, args := #[s, x], argTypes := #[24, 24] }) (base bk n q : Nat) (v kv : Value) (l ks : List Int) (w : World) (hown : w.ownsRow base 3 1 v n (l.map (Value.int .i64))) (hn : 0 < n) (hbase : base ≤ w.heap.size)
    (hk : w.ownsRow bk 3 1 kv q (ks.map (Value.int .i64))) (hs : a.eval s = v) (hx : a.eval x = kv) (hlen : n + q ≤ 1000000)
    (h : ∀ g c w', Hid (w'.ownsRow base 3 1 (.slice (some ⟨g, 0, none⟩) (n + q) c) (n + q) ((l ++ ks).map (Value.int .i64))) → Hid (But (fun b => v.ownBlock = some b) w w') → Hid (base ≤ g ∧ (some g = v.ownBlock ∨ w.heap.size ≤ g)) → wpList Tryz.prog ops Q' rest (a.put o.dst (.slice (some ⟨g, 0, none⟩) (n + q) c)) w') :
    wpList Tryz.prog ops Q' (o :: rest) a w := by
  obtain ⟨i0, hi, hz0, hz1, hz2⟩ := info_parts infoInt
  have hkl := hk.1
  rw [List.length_map, Nat.mul_one] at hkl
  rcases hk.2 with ⟨rfl, rfl⟩ | ⟨gk, ck, cur, rfl, hgk, _⟩
  · have hks : ks = [] := List.eq_nil_of_length_eq_zero hkl
    subst hks
    rcases hown.2 with ⟨_, h0⟩ | ⟨gv, cv, cur, rfl, hgv, hb, hnc, _⟩
    · omega
    · refine wpList_plain hgd fun K hK => ?_
      have hr := run_append_nothing (P := Tryz.prog) w 24 24 o.type 3 i0 Tryz.underlying24 hi (some ⟨gv, 0, none⟩) n cv hnc (.slice none 0 0) (Src.ofNil w Tryz.underlying24 0)
      unfold Oper.wp execOp
      simp only [ho, resolve, invoke, builtin, Sem.run_bind, Sem.run_pure, Result.andThen_ok, List.map_toArray, List.map_cons, List.map_nil, hs, hx, hr]
      exact hK _ _ (h gv cv w (show World.ownsRow _ _ _ _ _ _ _ by rw [List.append_nil]; exact hown) (Chg.refl _ _) ⟨hgv, Or.inl rfl⟩)
  · refine wpList_append_own_at _ hgd s x 24 ho base 3 i0 _ 1 8 Tryz.underlying24 hi hz0 hz1 hz2 rfl (by decide) v n _ hs hown ⟨gk, 0, none⟩ q ck (ks.map (Value.int .i64)) hx (by rw [List.length_map, hkl, Nat.mul_one]) ?_ ?_ (by unfold maxLen; omega) (by omega) hbase ?_
    · intro j u hu
      rw [List.getElem?_map] at hu
      cases hj : ks[j]? with
      | none => rw [hj] at hu; simp at hu
      | some c =>
        rw [hj] at hu
        simp only [Option.map_some, Option.some.injEq] at hu
        subst hu
        obtain ⟨g', e2, _, _, hcell, _⟩ := own_cellI hk hj
        injection e2 with e2
        injection e2 with e3
        subst e3
        have e5 : ((⟨gk, 0, none⟩ : Addr).add j) = ⟨gk, j, none⟩ := by unfold Addr.add; split <;> simp_all
        rw [e5]
        exact hcell
    · intro u hu
      obtain ⟨c, _, rfl⟩ := List.mem_map.1 hu
      rfl
    · intro v' w' hown' hgrow _ hloc
      rw [← List.map_append] at hown'
      rcases hown'.2 with ⟨e, hn2⟩ | ⟨g, cap, cur, e, hg, r⟩
      · omega
      · subst e
        refine h g cap w' hown' (show But _ _ _ from ⟨hgrow.os, hgrow.tape, hgrow.output, hgrow.size, fun k hk hn => ⟨hgrow.block k hk (fun e => hn e.symm), fun e => hn e⟩⟩) ⟨hg, ?_⟩
        rcases hloc with e | e
        · exact Or.inl e
        · simp only [Value.ownBlock, Option.some.injEq] at e
          exact Or.inr (by omega)
/-- One number written out, as a row of the caller's own. -/
theorem Ow.lit {base M : Nat} {vs : Value} {s : List Int} {σ : St} {w : World} (h : MkS base M vs s σ w) (k : Int) : Ow base w.heap.size (.slice (some ⟨w.heap.size, 0, none⟩) 1 1) 1 [k] M σ (w.alloc (.cells #[.int .i64 k] 3)) := by
  have hl := h.lt
  refine ⟨⟨rfl, Or.inr ⟨w.heap.size, 1, #[.int .i64 k], rfl, Nat.le_refl _, heap_alloc_new w _, Nat.le_refl _, by unfold maxLen; omega, rfl, rfl⟩⟩, by have := h.hb; omega, fun g e => ?_, fun g e e2 => ?_, fun p hp hne g e e2 => ?_⟩
  · simp only [Value.ownBlock, Option.some.injEq] at e; omega
  · simp only [Value.ownBlock, Option.some.injEq] at e
    have := (h.row.1.lt g e2).2
    omega
  · simp only [Value.ownBlock, Option.some.injEq] at e2
    have := (h.row.2 p hp).1.lt hne g e
    omega
/-- A step on a row of the caller's own turns nothing of the maker's. -/
theorem To.kapp {base M b n : Nat} {vs v : Value} {s l : List Int} {σ0 σ : St} {w0 w w' : World} {al : List Ast} (H : To base M vs s σ0 w0 σ w al) (HO : Ow base b v n l M σ w) (hb0 : w0.heap.size ≤ b) (hb : But (fun k => v.ownBlock = some k) w w') : To base M vs s σ0 w0 σ w' al :=
  H.own (H.st.but hb (fun e => HO.neM M e rfl) (fun g e e2 => HO.neT g e2 e) (fun q hq hne g e e2 => HO.neK q hq hne g e e2) (fun g e => Nat.le_trans HO.hb (HO.row.lt g e).1)) hb (fun k e => Nat.le_trans hb0 (HO.row.lt k e).1)
end Go.Proofs.YtkmmcphiijolkaaGreatDoor

set_option linter.unusedVariables false
set_option linter.unusedSimpArgs false
namespace Go.Proofs.YtkmmcphiijolkaaGreatDoor
open Go.RowKit Go.Shelf
open Tr

set_option maxHeartbeats 4000000 in
set_option maxRecDepth 100000 in
theorem exprB_of {base M : Nat} {vs : Value} {s : List Int} {d : Nat} (hE : ExprC base M vs s d) (hE0 : ExprC base M vs s 0) (σ : St) (w : World) (hS : MkS base M vs s σ w) (hP : σ.P.length + sz (d + 1) ≤ 1000000) (hd : d ≤ 100) (hlf : σ.P.length < 160)
    (hnext : Calls Tryz.prog 23 #[.pointer (some ⟨M, 0, none⟩), .int .i64 30] w fun e w' => ∃ (r : Nat) (σ' : St), e = .returned (.int .i64 (r : Int)) ∧ (r = 2 ∨ r = 3 ∨ r = 7 ∨ r = 9) ∧ Hid (To base M vs s σ w σ' w' [])) :
    Calls Tryz.prog 47 #[.pointer (some ⟨M, 0, none⟩), .int .i64 ((d : Int) + 1)] w fun e w' => ∃ (a : Ast) (σ' : St), e = .returned (.int .i64 ((σ.P.length + a.size - 1 : Nat) : Int)) ∧ Hid (To base M vs s σ w σ' w' [a]) ∧ EOk (d + 1) a ∧ a.size < sz (d + 1) := by
  have HE := Lib.hid hE
  have HE0 := Lib.hid hE0
  have hz4 := sz_pos d
  obtain ⟨S, hSz⟩ := hid_ex (sz d)
  have HZ : Hid (sz (d + 1) = 4 * S) := (show _ = _ by rw [← hSz.out]; rfl)
  rw [HZ.out] at hP ⊢
  rw [hSz.out] at hz4
  have hdw : IntKind.i64.wrap ((d : Int) + 1 - 1) = (d : Int) + 1 - 1 := IntWalk.i64_in _ (by omega)
  obtain ⟨p, hp⟩ := hid_ex σ.P.length
  rw [hp.out] at hP hlf ⊢
  have hd0 : ¬ (d : Int) + 1 ≤ 0 := by omega
  have hl0 : ¬ 160 - (p : Int) ≤ 0 := by omega
  clear hS hE hE0
  go_enter Tryz.func47, Tryz.ntmps47
  go_upto_region 4 with (go_at_call 23; refine hnext.mono ?_; clear hnext; rintro e w1 ⟨r, σ1, rfl, hr, H1⟩; have c3 := H1.out.st.cell 3; simp only [List.getElem?_toArray, List.getElem?_cons_succ, List.getElem?_cons_zero] at c3; rw [H1.out.len, hp.out] at c3; simp only [sizes, Nat.add_zero] at c3)
  rcases hr with rfl | rfl | rfl | rfl
  · clear c3 hl0 hlf hd0
    go_wp2_with (first
      | (go_at_call 25; refine (leaf_at H2.out w2 (Below.refl _ _) (6) 0 ⟨t2.toArray⟩ (by rw [hp.out]; simp only [List.nil_append, List.cons_append, sizes, size_mk]; omega)).mono ?_; rintro e w3 ⟨σ3, rfl, H3, H3'⟩; rw [hp.out])
      | (go_at_call 91; refine (name_at H1.out w1 (Below.refl _ _)).mono ?_; rintro e w2 ⟨t2, σ2, rfl, ht2, H2, _⟩; have HN := Lib.hid ht2; clear ht2))
    go_ret
    refine ⟨.mk 6 t2 0 [], σ3, ?_, (by have := H3; simpa using this), EOk.name _ _ (Or.inl HN.out), by rw [size_mk]; simp only [sizes]; omega⟩
    rw [size_mk]; rfl
  · clear c3 hl0 hlf hd0
    go_wp2_with (first
      | (go_at_call 25; refine (leaf_at H2.out w2 (Below.refl _ _) (6) 0 ⟨t2.toArray⟩ (by rw [hp.out]; simp only [List.nil_append, List.cons_append, sizes, size_mk]; omega)).mono ?_; rintro e w3 ⟨σ3, rfl, H3, H3'⟩; rw [hp.out])
      | (go_at_call 91; refine (name_at H1.out w1 (Below.refl _ _)).mono ?_; rintro e w2 ⟨t2, σ2, rfl, ht2, H2, _⟩; have HN := Lib.hid ht2; clear ht2))
    go_ret
    refine ⟨.mk 6 t2 0 [], σ3, ?_, (by have := H3; simpa using this), EOk.name _ _ (Or.inl HN.out), by rw [size_mk]; simp only [sizes]; omega⟩
    rw [size_mk]; rfl
  · clear c3 hl0 hlf hd0
    go_wp2_with (first
      | (go_at_call 92; refine (two_at HE.out H2.out w2 (Below.refl _ _) (by rw [hp.out, hSz.out]; exact hP) hd (12) ⟨x.toArray⟩).mono ?_; rintro e w3 ⟨a, b, σ3, rfl, H3, HA, HB, hs3⟩; rw [hp.out]; rw [hSz.out] at hs3)
      | (go_at_call 23; refine (next_at H1.out _ ((Below.refl _ _).alloc (Nat.le_refl _) _) 8 (by omega) (by omega)).mono ?_; rintro e w2 ⟨r2, σ2, rfl, hr2, H2, H2'⟩; obtain ⟨x, hx, hc⟩ := pick_text H1.out.st H2'.out ar8 rfl r2 (by show r2 < 8; omega); have HX := Lib.hid hx; clear hx))
    go_ret
    refine ⟨_, σ3, rfl, H3, ?_, hs3⟩
    exact EOk.bin _ _ _ _ (by simpa using ar8_ok x HX.out) HA HB
  · clear c3 hl0 hlf hd0
    go_wp2_with (first
      | (go_at_call 92; refine (two_at HE.out H2.out w2 (Below.refl _ _) (by rw [hp.out, hSz.out]; exact hP) hd (13) ⟨x.toArray⟩).mono ?_; rintro e w3 ⟨a, b, σ3, rfl, H3, HA, HB, hs3⟩; rw [hp.out]; rw [hSz.out] at hs3)
      | (go_at_call 23; refine (next_at H1.out _ ((Below.refl _ _).alloc (Nat.le_refl _) _) 10 (by omega) (by omega)).mono ?_; rintro e w2 ⟨r2, σ2, rfl, hr2, H2, H2'⟩; obtain ⟨x, hx, hc⟩ := pick_text H1.out.st H2'.out co10 rfl r2 (by show r2 < 10; omega); have HX := Lib.hid hx; clear hx))
    go_ret
    refine ⟨_, σ3, rfl, H3, ?_, hs3⟩
    exact EOk.cmp _ _ _ _ (by simpa using co10_ok x HX.out) HA HB
end Go.Proofs.YtkmmcphiijolkaaGreatDoor
