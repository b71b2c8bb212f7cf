/-
  Texts of the tree package put behind one another: MkO, MkP, MkQ, MkS, MkR, MkT, MkV.
-/
import Derived.Test.YtkmmcphiijolkaaGreatDoorZn
import Derived.Deep.DeepCutAuto
import Derived.Deep.CutBlock
import Derived.Deep.RegionLaw
set_option linter.unusedVariables false
set_option linter.unusedSimpArgs false
namespace Go.Proofs.YtkmmcphiijolkaaGreatDoor
open Go.RowKit Go.Shelf
open Tr

namespace Tr
def ab2 : List Sp.Bs := [[97], [98]]
theorem ab2_ok (x : Sp.Bs) (h : x ∈ ab2) : sName x = true := List.all_eq_true.1 (show (ab2.all fun x => sName x) = true by decide +kernel) x h
/-- Targets as the maker makes them. -/
inductive TOk : Ast → Prop
  | name (t : Sp.Bs) (h : t ∈ nm8) : TOk (.mk 6 t 0 [])
  | attr (t u : Sp.Bs) (h : sName t = true) (hu : u ∈ nm8) : TOk (.mk 18 t 0 [.mk 6 u 0 []])
  | idx (u : Sp.Bs) (a : Ast) (hu : u ∈ nm8) (ha : EOk 0 a) : TOk (.mk 19 [] 0 [.mk 6 u 0 [], a])
end Tr
theorem expr0 (base M : Nat) (vs : Value) (s : List Int) : ExprC base M vs s 0 := fun σ w hS hP => exprL0_of σ w hS hP ((next_any base M vs s σ w hS 30 (by omega) (by omega)))

set_option maxHeartbeats 8000000 in
set_option maxRecDepth 100000 in
theorem mktarget_any (base M : Nat) (vs : Value) (s : List Int) (σ : St) (w : World) (hS : MkS base M vs s σ w) (hP : σ.P.length + 10 ≤ 1000000) :
    Calls Tryz.prog 48 #[.pointer (some ⟨M, 0, none⟩)] w fun e w' => ∃ (a : Ast) (σ' : St), e = .returned (.int .i64 ((σ.P.length + a.size - 1 : Nat) : Int)) ∧ Hid (To base M vs s σ w σ' w' [a]) ∧ TOk a ∧ a.size ≤ 5 := by
  have H0 := Lib.hid (To.refl hS)
  have HE0 := Lib.hid (expr0 base M vs s)
  obtain ⟨p, hp⟩ := hid_ex σ.P.length
  rw [hp.out] at hP ⊢
  clear hS
  go_enter Tryz.func48, Tryz.ntmps48
  go_upto_region 2 with (go_at_call 23; refine (next_at H0.out w (Below.refl _ _) 8 (by omega) (by omega)).mono ?_; rintro e w1 ⟨r, σ1, rfl, hr, H1, _⟩; clear H0)
  by_cases h0 : r = 0
  · subst h0
    go_wp2_with (first
      | (go_at_call 25; have hl := lit_at H4.out #[.int .i64 ((p : Int) + ((sizes [] : Nat) : Int))] (by rw [hp.out]; simp [rootsA, sizes, Ast.size]) 1 rfl; refine (add_at H4.out _ ((Below.refl _ _).alloc (Nat.le_refl _) _) (18) 0 ⟨x.toArray⟩ _ hl.1 (fun _ => hl.2) (by rw [hp.out]; simp only [List.nil_append, List.cons_append, sizes, size_mk]; omega) (by simp)).mono ?_; rintro e w5 ⟨σ5, rfl, H5⟩; rw [hp.out])
      | (go_at_call 23; refine (next_at H3.out _ ((Below.refl _ _).alloc (Nat.le_refl _) _) 2 (by omega) (by omega)).mono ?_; rintro e w4 ⟨r4, σ4, rfl, hr4, H4, H4'⟩; obtain ⟨x, hx, hc⟩ := pick_text H3.out.st H4'.out ab2 rfl r4 (by show r4 < 2; omega); have HX := Lib.hid hx; clear hx)
      | (go_at_call 25; refine (leaf_at H2.out w2 (Below.refl _ _) (6) 0 ⟨t2.toArray⟩ (by rw [hp.out]; simp only [List.nil_append, List.cons_append, sizes, size_mk]; omega)).mono ?_; rintro e w3 ⟨σ3, rfl, H3, H3'⟩; rw [hp.out])
      | (go_at_call 91; refine (name_at H1.out w1 (Below.refl _ _)).mono ?_; rintro e w2 ⟨t2, σ2, rfl, ht2, H2, _⟩; have HN := Lib.hid ht2; clear ht2))
    go_ret
    refine ⟨.mk 18 x 0 [.mk 6 t2 0 []], σ5, ?_, (by have := H5; simpa using this), TOk.attr _ _ (ab2_ok x HX.out) HN.out, by rw [size_mk]; simp [sizes, size_mk]⟩
    rw [size_mk]; simp [sizes, size_mk]
  · by_cases h1 : r = 1
    · subst h1
      go_wp2_with (first
        | (go_at_call 25; have hl := lit_at H4.out #[.int .i64 ((p : Int) + ((sizes [] : Nat) : Int)), .int .i64 ((p + sizes ([] ++ [Ast.mk 6 (⟨t2.toArray⟩ : ByteArray).data.toList 0 []]) + a.size - 1 : Nat) : Int)] (by rw [hp.out]; simp [rootsA, sizes, Ast.size, Nat.add_assoc]) 2 rfl; refine (add_at H4.out _ ((Below.refl _ _).alloc (Nat.le_refl _) _) (19) 0 ⟨#[]⟩ _ hl.1 (fun _ => hl.2) (by rw [hp.out]; simp only [List.nil_append, List.cons_append, sizes, size_mk]; omega) (by simp)).mono ?_; rintro e w5 ⟨σ5, rfl, H5⟩; rw [hp.out])
        | (go_at_call 47; refine (expr_at (d := 0) HE0.out H3.out w3 (Below.refl _ _) (by rw [hp.out]; show _ + 4 ≤ _; simp only [List.nil_append, List.cons_append, sizes, size_mk]; omega)).mono ?_; rintro e w4 ⟨a, σ4, rfl, H4, HA4, ha4, H4'⟩; rw [hp.out]; have ha4b : a.size < 4 := ha4)
        | (go_at_call 25; refine (leaf_at H2.out w2 (Below.refl _ _) (6) 0 ⟨t2.toArray⟩ (by rw [hp.out]; simp only [List.nil_append, List.cons_append, sizes, size_mk]; omega)).mono ?_; rintro e w3 ⟨σ3, rfl, H3, H3'⟩; rw [hp.out])
        | (go_at_call 91; refine (name_at H1.out w1 (Below.refl _ _)).mono ?_; rintro e w2 ⟨t2, σ2, rfl, ht2, H2, _⟩; have HN := Lib.hid ht2; clear ht2))
      go_ret
      refine ⟨.mk 19 [] 0 [.mk 6 t2 0 [], a], σ5, ?_, (by have := H5; simpa using this), TOk.idx _ _ HN.out HA4, by rw [size_mk]; simp [sizes, size_mk]; omega⟩
      rw [size_mk]; simp [sizes, size_mk]
    · have g0 : ¬ (r : Int) = 0 := by omega
      have g1 : ¬ (r : Int) = 1 := by omega
      clear h0 h1
      go_wp2_with (first
        | (go_at_call 25; refine (leaf_at H2.out w2 (Below.refl _ _) (6) 0 ⟨t2.toArray⟩ (by rw [hp.out]; simp only [List.nil_append, List.cons_append, sizes, size_mk]; omega)).mono ?_; rintro e w3 ⟨σ3, rfl, H3, H3'⟩; rw [hp.out])
        | (go_at_call 91; refine (name_at H1.out w1 (Below.refl _ _)).mono ?_; rintro e w2 ⟨t2, σ2, rfl, ht2, H2, _⟩; have HN := Lib.hid ht2; clear ht2))
      go_ret
      refine ⟨.mk 6 t2 0 [], σ3, ?_, (by have := H3; simpa using this), TOk.name _ HN.out, by rw [size_mk]; simp [sizes]⟩
      rw [size_mk]; simp [sizes]
end Go.Proofs.YtkmmcphiijolkaaGreatDoor

set_option linter.unusedVariables false
set_option linter.unusedSimpArgs false
namespace Go.Proofs.YtkmmcphiijolkaaGreatDoor
open Go.RowKit Go.Shelf
open Tr

/-- Targets, or a tuple of some, as the maker makes them. -/
inductive Tr.WOk : Ast → Prop
  | one (a : Ast) (h : TOk a) : WOk a
  | tuple (l : List Ast) (h : 0 < l.length) (hl : ∀ a ∈ l, TOk a) : WOk (.mk 8 [] 0 l)

section
variable {base M : Nat} {vs : Value} {s : List Int} {σ0 σ : St} {w0 w : World} {al : List Ast}
theorem target_at (H : To base M vs s σ0 w0 σ w al) (wq : World) (hb : Below w.heap.size w wq) (hP : σ0.P.length + sizes al + 10 ≤ 1000000) :
    Calls Tryz.prog 48 #[.pointer (some ⟨M, 0, none⟩)] wq fun e w' => ∃ (a : Ast) (σ' : St), e = .returned (.int .i64 ((σ0.P.length + sizes al + a.size - 1 : Nat) : Int)) ∧ Hid (To base M vs s σ0 w0 σ' w' (al ++ [a])) ∧ TOk a ∧ a.size ≤ 5 ∧ Hid (To base M vs s σ wq σ' w' [a]) :=
  (mktarget_any base M vs s σ wq (H.st.below hb) (by rw [H.len]; exact hP)).mono (by
    rintro e w' ⟨a, σ', rfl, HT, ha, hs⟩
    exact ⟨a, σ', by rw [H.len], (H.below hb).trans HT.out, ha, hs, HT⟩)
end

set_option maxHeartbeats 8000000 in
set_option maxRecDepth 100000 in
theorem targets_any (base M : Nat) (vs : Value) (s : List Int) (σ : St) (w : World) (hS : MkS base M vs s σ w) (hP : σ.P.length + 30 ≤ 1000000) :
    Calls Tryz.prog 46 #[.pointer (some ⟨M, 0, none⟩)] w fun e w' => ∃ (a : Ast) (σ' : St), e = .returned (.int .i64 ((σ.P.length + a.size - 1 : Nat) : Int)) ∧ Hid (To base M vs s σ w σ' w' [a]) ∧ WOk a ∧ a.size ≤ 11 := by
  have H0 := Lib.hid (To.refl hS)
  have hbw : base ≤ w.heap.size := by have := hS.hb; have := hS.lt; omega
  obtain ⟨p, hp⟩ := hid_ex σ.P.length
  rw [hp.out] at hP ⊢
  clear hS
  go_enter Tryz.func46, Tryz.ntmps46
  go_upto_region 2 with (go_at_call 23; refine (next_at H0.out w (Below.refl _ _) 6 (by omega) (by omega)).mono ?_; rintro e w1 ⟨r, σ1, rfl, hr, H1, _⟩; clear H0)
  · go_wp2_with (go_at_call 48; refine (target_at H1.out w1 (Below.refl _ _) (by rw [hp.out]; simp only [sizes]; omega)).mono ?_; rintro e w2 ⟨a, σ2, rfl, H2, HA, ha, _⟩; rw [hp.out])
    go_ret
    exact ⟨a, σ2, rfl, H2, .one _ HA, by omega⟩
  · have e1 : decide (0 < r) = false := decide_eq_false (by omega)
    simp only [e1]
    clear e1
    have HO1 := Lib.hid (Ow.nil base w.heap.size M σ1 w1 hbw)
    go_loopw [3, 4] (fun v3 v4 wr => ∃ (i : Nat) (p7 : Option Addr) (c7 : Nat) (al : List Ast) (σi : St), v4 = .int .i64 (i : Int) ∧ v3 = .slice p7 i c7 ∧ i ≤ 2 ∧ Hid (i = al.length) ∧ Hid (To base M vs s σ w σi wr al) ∧ Hid (Ow base w.heap.size (.slice p7 i c7) i (rootsA p al) M σi wr) ∧ Hid (∀ a ∈ al, TOk a) ∧ Hid (sizes al ≤ i * 5)) (fun _ v4 _ => 2 - (intOf v4).toNat)
    case atStart => exact ⟨0, none, 0, [], σ1, rfl, rfl, by omega, rfl, H1, HO1, fun a h => by simp at h, (show _ ≤ _ by simp [sizes])⟩
    case round =>
      obtain ⟨i, p7, c7, al, σi, rfl, rfl, hi, HL, HT, HO, HEA, HBZ⟩ := hrel
      clear H1 HO1
      go_upto_if 13 with (go_at_call 23; refine (next_at HT.out wr (Below.refl _ _) 2 (by omega) (by omega)).mono ?_; rintro e w2 ⟨r2, σ2, rfl, hr2, H2, H2'⟩)
      have HO2 := Lib.hid (HO.out.to H2'.out)
      by_cases hir : i ≤ r2
      · have gi : (i : Int) ≤ (r2 : Int) := by omega
        have hz := HBZ.out
        have HPP : Hid (p + sizes al + 10 ≤ 1000000) := (show _ ≤ _ by omega)
        have hi6 : i + 1 ≤ 1000000 := by omega
        clear hz
        go_wp2_with (first
          | (at_builtin; refine wpList_iapp rfl _ _ rfl w.heap.size i _ _ w3 HO3.out.row hbs3 ((p + sizes al + a.size - 1 : Nat) : Int) rfl (by rfl) hi6 ?_; intro g5 c5 w5 HK5 HB5 HG5; have H5 := Lib.hid (To.app H3.out HO3.out HK5.out HB5.out HG5.out))
          | (go_at_call 48; refine (target_at H2.out w2 (Below.refl _ _) (by rw [hp.out]; exact HPP.out)).mono ?_; rintro e w3 ⟨a, σ3, rfl, H3, HA, ha, H3'⟩; rw [hp.out]; have HO3 := Lib.hid (HO2.out.to H3'.out); have hbs3 : w.heap.size ≤ w3.heap.size := H3.out.but.size))
        go_roundw
        case measure => simp [intOf]; omega
        case rel =>
          refine ⟨i + 1, _, c5, al ++ [a], σ3, rfl, rfl, by omega, ?_, H5.out.1, ?_, ?_, ?_⟩
          · show _ = _; rw [List.length_append, ← HL.out]; rfl
          · show Ow _ _ _ _ _ _ _ _
            rw [rootsA_append, rootsA_one]
            exact H5.out.2
          · show ∀ b ∈ al ++ [a], TOk b
            intro b hb
            rcases List.mem_append.1 hb with hb | hb
            · exact HEA.out b hb
            · simp only [List.mem_cons, List.not_mem_nil, or_false] at hb
              rw [hb]; exact HA
          · show sizes (al ++ [a]) ≤ (i + 1) * 5
            rw [sizes_append]
            have := HBZ.out
            simp only [sizes]
            omega
      · have gi : ¬ (i : Int) ≤ (r2 : Int) := by omega
        have hi1 : 0 < i := by omega
        have hz := HBZ.out
        have HZ2 : Hid (sizes al ≤ 10) := (show _ ≤ _ by omega)
        clear hz
        go_wp2_with (go_at_call 25; refine (add_at H2.out w2 (Below.refl _ _) 8 0 ⟨#[]⟩ _ (by rw [hp.out]; exact own_krowI HO2.out.row) (fun _ => HO2.out.neM) (by rw [hp.out]; have := HZ2.out; omega) (by rw [← HL.out]; omega)).mono ?_; rintro e w4 ⟨σ4, rfl, H4⟩; rw [hp.out])
        go_ret
        refine ⟨_, σ4, ?_, H4, .tuple _ (by rw [← HL.out]; exact hi1) HEA.out, by rw [size_mk]; have := HZ2.out; omega⟩
        rw [size_mk]; rfl
end Go.Proofs.YtkmmcphiijolkaaGreatDoor

set_option linter.unusedVariables false
set_option linter.unusedSimpArgs false
namespace Go.Proofs.YtkmmcphiijolkaaGreatDoor
open Go.RowKit Go.Shelf
open Tr

/-- Where a statement stands, as a value. -/
def placeV (f l c : Bool) : Value := .agg #[.bool f, .bool l, .bool c]
/-- How many nodes a statement has at most: few where nothing is left. -/
def Few (p n d : Nat) : Prop := (160 ≤ p → n ≤ 300) ∧ (p < 160 → n + p ≤ 160 + 8000 * (d + 1))
/-- What a statement's making tells: these trees, whatever is asked of them (Q). -/
def StmtC (base M : Nat) (vs : Value) (s : List Int) (Q : Nat → Ast → Prop) (d : Nat) : Prop := ∀ (σ : St) (w : World) (f l c : Bool), MkS base M vs s σ w → σ.P.length ≤ 500000 →
  Calls Tryz.prog 24 #[.pointer (some ⟨M, 0, none⟩), .int .i64 (d : Int), placeV f l c] w fun e w' => ∃ (a : Ast) (σ' : St), e = .returned (.int .i64 ((σ.P.length + a.size - 1 : Nat) : Int)) ∧ Hid (To base M vs s σ w σ' w' [a]) ∧ Q d a ∧ Few σ.P.length a.size d
/-- What a block's making tells. -/
def FewB (p n d : Nat) : Prop := (160 ≤ p → n ≤ 901) ∧ (p < 160 → n + p ≤ 160 + 8000 * (d + 1) + 901)

theorem stmt_at {base M : Nat} {vs : Value} {s : List Int} {Q : Nat → Ast → Prop} {d : Nat} {σ0 σ : St} {w0 w : World} {al : List Ast} (hE : StmtC base M vs s Q d) (H : To base M vs s σ0 w0 σ w al) (wq : World) (hb : Below w.heap.size w wq) (hP : σ0.P.length + sizes al ≤ 500000) (f l c : Bool) :
    Calls Tryz.prog 24 #[.pointer (some ⟨M, 0, none⟩), .int .i64 (d : Int), .agg #[.bool f, .bool l, .bool c]] wq fun e w' => ∃ (a : Ast) (σ' : St), e = .returned (.int .i64 ((σ0.P.length + sizes al + a.size - 1 : Nat) : Int)) ∧ Hid (To base M vs s σ0 w0 σ' w' (al ++ [a])) ∧ Q d a ∧ Few (σ0.P.length + sizes al) a.size d ∧ Hid (To base M vs s σ wq σ' w' [a]) :=
  (hE σ wq f l c (H.st.below hb) (by rw [H.len]; exact hP)).mono (by
    rintro e w' ⟨a, σ', rfl, HT, ha, hs⟩
    exact ⟨a, σ', by rw [H.len], (H.below hb).trans HT.out, ha, (by rw [← H.len]; exact hs), HT⟩)

set_option maxHeartbeats 8000000 in
set_option maxRecDepth 100000 in
theorem block_of {base M : Nat} {vs : Value} {s : List Int} {Q : Nat → Ast → Prop} {d : Nat} (hE : StmtC base M vs s Q d) (hd : d ≤ 10) (σ : St) (w : World) (hS : MkS base M vs s σ w) (hP : σ.P.length ≤ 400000) (f l c : Bool) :
    Calls Tryz.prog 49 #[.pointer (some ⟨M, 0, none⟩), .int .i64 ((d : Int) + 1), placeV f l c] w fun e w' => ∃ (al : List Ast) (σ' : St), e = .returned (.int .i64 ((σ.P.length + (Ast.mk 41 [] 0 al).size - 1 : Nat) : Int)) ∧ Hid (To base M vs s σ w σ' w' [.mk 41 [] 0 al]) ∧ 0 < al.length ∧ (∀ a ∈ al, Q d a) ∧ FewB σ.P.length (Ast.mk 41 [] 0 al).size d := by
  have H0 := Lib.hid (To.refl hS)
  have HE := Lib.hid hE
  have hml := hS.lt
  have hbw : base ≤ w.heap.size := by have := hS.hb; omega
  have hvt : ∀ g, σ.vt.ownBlock = some g → g < w.heap.size := fun g e => (hS.row.1.lt g e).2
  have HVT := Lib.hid hvt
  have hdw : IntKind.i64.wrap ((d : Int) + 1 - 1) = (d : Int) + 1 - 1 := IntWalk.i64_in _ (by omega)
  obtain ⟨p, hp⟩ := hid_ex σ.P.length
  rw [hp.out] at hP ⊢
  clear hS hE hvt
  unfold placeV
  go_enter Tryz.func49, Tryz.ntmps49
  go_wp2_with (go_at_call 23; go_loud (refine (next_at H0.out _ (by first | exact (Below.refl _ _).alloc (Nat.le_refl _) _ | exact Below.refl _ _) 3 (by omega) (by omega)).mono ?_; rintro e w1 ⟨r, σ1, rfl, hr, H1, H1'⟩; clear H0))
  have hg0 : w1.heap[w.heap.size]? = some (.cells #[.bool f, .bool l, .bool c] 57 (0, 0)) ∧ σ1.vt.ownBlock ≠ some w.heap.size := by
    have := H1'.out.far (g := w.heap.size) (by simp) (by omega) (fun e => by have := HVT.out _ e; omega)
    rw [heap_alloc_new] at this
    exact this
  have hsz1 : w.heap.size < w1.heap.size := (Array.getElem?_eq_some_iff.1 hg0.1).1
  have HO1 := Lib.hid (Ow.nil base w.heap.size M σ1 w1 hbw)
  have HG0 := Lib.hid hg0
  have HMG : Hid (w.heap.size ≠ M) := (show _ ≠ _ by omega)
  clear hg0
  go_loopw [7, 9] (fun v7 v9 wr => ∃ (i : Nat) (p7 : Option Addr) (c7 : Nat) (al : List Ast) (σi : St), v9 = .int .i64 (i : Int) ∧ v7 = .slice p7 i c7 ∧ i ≤ 1 + r ∧ Hid (i = al.length) ∧ Hid (To base M vs s σ w σi wr al) ∧ Hid (Ow base w.heap.size (.slice p7 i c7) i (rootsA p al) M σi wr) ∧ Hid (∀ a ∈ al, Q d a) ∧ Hid ((160 ≤ p → sizes al ≤ 300 * i) ∧ (p < 160 → p + sizes al ≤ 160 + 8000 * (d + 1) + 300 * i)) ∧ Hid (wr.heap[w.heap.size]? = some (.cells #[.bool f, .bool l, .bool c] 57 (0, 0)) ∧ σi.vt.ownBlock ≠ some w.heap.size ∧ (Value.slice p7 i c7).ownBlock ≠ some w.heap.size)) (fun _ v9 _ => 1 + r - (intOf v9).toNat)
  case atStart => exact ⟨0, none, 0, [], σ1, rfl, rfl, by omega, rfl, H1, HO1, fun a h => by simp at h, (show _ ∧ _ by simp only [sizes]; omega), (show _ ∧ _ from ⟨HG0.out.1, HG0.out.2, by simp [Value.ownBlock]⟩)⟩
  case round =>
    obtain ⟨i, p7, c7, al, σi, rfl, rfl, hi, HL, HT, HO, HEA, HBZ, HG⟩ := hrel
    clear H1 HO1 HG0
    by_cases hir : i < 1 + r
    · have gi : (i : Int) < 1 + (r : Int) := by omega
      have hz := HBZ.out
      have HPP : Hid (p + sizes al ≤ 500000) := (show _ ≤ _ by omega)
      have hi6 : i + 1 ≤ 1000000 := by omega
      have b0 := cell_of_row wr w.heap.size 0 _ _ _ HG.out.1
      have b1 := cell_of_row wr w.heap.size 1 _ _ _ HG.out.1
      have b2 := cell_of_row wr w.heap.size 2 _ _ _ HG.out.1
      simp only [List.getElem?_toArray, List.getElem?_cons_succ, List.getElem?_cons_zero] at b0 b1 b2
      have hgl : w.heap.size < wr.heap.size := (Array.getElem?_eq_some_iff.1 HG.out.1).1
      clear hz
      go_wp2_with (first
        | (at_builtin; go_loud (refine wpList_iapp rfl _ _ rfl w.heap.size i _ _ w3 HO3.out.row hbs3 ((p + sizes al + a.size - 1 : Nat) : Int) rfl (by rfl) hi6 ?_; intro g5 c5 w5 HK5 HB5 HG5; have H5 := Lib.hid (To.app H3.out HO3.out HK5.out HB5.out HG5.out)))
        | (go_at_call 24; go_loud (refine (stmt_at HE.out HT.out wr (Below.refl _ _) (by rw [hp.out]; exact HPP.out) f l c).mono ?_; rintro e w3 ⟨a, σ3, rfl, H3, HA, ha, H3'⟩; rw [hp.out]; rw [hp.out] at ha; have HO3 := Lib.hid (HO.out.to H3'.out); have hbs3 : w.heap.size ≤ w3.heap.size := H3.out.but.size; have HF3 := Lib.hid (H3'.out.far hgl HMG.out HG.out.2.1))))
      have hg5 : w5.heap[w.heap.size]? = some (.cells #[.bool f, .bool l, .bool c] 57 (0, 0)) := ((HB5.out.both w.heap.size (Nat.lt_of_lt_of_le hgl H3'.out.but.size) HG.out.2.2).1).trans (HF3.out.1.trans HG.out.1)
      have hg6 : (Value.slice (some ⟨g5, 0, none⟩) (i + 1) c5).ownBlock ≠ some w.heap.size := by
        intro e
        simp only [Value.ownBlock, Option.some.injEq] at e
        rcases HG5.out.2 with e2 | e2
        · exact HG.out.2.2 (by rw [← e2, e])
        · have := H3'.out.but.size; omega
      have HG5' := Lib.hid hg5
      have HG6 := Lib.hid hg6
      clear hg5 hg6 b0 b1 b2
      refine ⟨⟨i + 1, _, c5, al ++ [a], σ3, rfl, rfl, by omega, ?_, H5.out.1, ?_, ?_, ?_, ⟨HG5'.out, HF3.out.2, HG6.out⟩⟩, by simp [intOf]; omega⟩
      · show _ = _; rw [List.length_append, ← HL.out]; rfl
      · show Ow _ _ _ _ _ _ _ _
        rw [rootsA_append, rootsA_one]
        exact H5.out.2
      · show ∀ b ∈ al ++ [a], Q d b
        intro b hb
        rcases List.mem_append.1 hb with hb | hb
        · exact HEA.out b hb
        · simp only [List.mem_cons, List.not_mem_nil, or_false] at hb
          rw [hb]; exact HA
      · show _ ∧ _
        rw [sizes_append]
        have := HBZ.out
        unfold Few at ha
        simp only [sizes]
        omega
    · obtain rfl : i = 1 + r := by omega
      have hz := HBZ.out
      have HZ2 : Hid (p + sizes al + 1 ≤ 1000000) := (show _ ≤ _ by omega)
      have HBF : Hid (FewB p (sizes al + 1) d) := (show FewB _ _ _ by unfold FewB; omega)
      have hi1 : 0 < al.length := by rw [← HL.out]; omega
      have hi2 : al.length ≤ 1000000 := by rw [← HL.out]; omega
      clear hz
      go_wp2_with (go_at_call 25; go_loud (refine (add_at HT.out wr (Below.refl _ _) 41 0 ⟨#[]⟩ _ (by rw [hp.out]; exact own_krowI HO.out.row) (fun _ => HO.out.neM) (by rw [hp.out]; exact HZ2.out) hi2).mono ?_; rintro e w4 ⟨σ4, rfl, H4⟩; rw [hp.out]))
      go_ret
      refine ⟨al, σ4, ?_, H4, hi1, HEA.out, by rw [size_mk]; exact HBF.out⟩
      rw [size_mk]; rfl
end Go.Proofs.YtkmmcphiijolkaaGreatDoor

set_option linter.unusedVariables false
set_option linter.unusedSimpArgs false
namespace Go.Proofs.YtkmmcphiijolkaaGreatDoor
open Go.RowKit Go.Shelf
open Tr

set_option maxHeartbeats 8000000 in
set_option maxRecDepth 100000 in
theorem made_of {Q : Nat → Ast → Prop} (hE : ∀ base M vs s, StmtC base M vs s Q 4) (vs : Value) (s : List Int) (w : World) (hk : KRow vs s w) (hwf : ∀ x ∈ s, (Lit.int .i64 x).wf = true) (hsl : s.length ≤ maxLen) :
    Calls Tryz.prog 10 #[vs] w fun e w' => ∃ (al : List Ast) (vt : Value) (P : List (NodeD × Value)), e = .returned vt ∧ Hid (TRow w.heap.size vt P w') ∧ P.map (·.1) = (Ast.mk 40 [] 0 al).flat 0 ∧ 1 < al.length ∧ (∀ a ∈ al, Q 4 a) ∧ P.length ≤ 100000 ∧ Below w.heap.size w w' := by
  have hS : MkS w.heap.size w.heap.size vs s ⟨0, .slice none 0 0, []⟩ (w.alloc (.cells #[vs, .int .i64 0, .slice none 0 0, .int .i64 160] 53)) :=
    ⟨heap_alloc_new w _, ⟨World.ownsRow_nil _ _ _ _, fun p h => by simp at h⟩, Nat.le_refl _, fun g e => by simp [Value.ownBlock] at e, fun q hq => by simp at hq, hk.below ((Below.refl _ _).alloc (Nat.le_refl _) _), fun hne g e => hk.lt hne g e, ⟨none, 0, rfl⟩, Nat.zero_le _, hwf, hsl⟩
  have H0 := Lib.hid (To.refl hS)
  have HE := Lib.hid (hE w.heap.size w.heap.size vs s)
  obtain ⟨pv, cv, rfl, fv⟩ := hk
  clear hS hE fv
  go_enter Tryz.func10, Tryz.ntmps10
  go_wp2_with (go_at_call 23; go_loud (refine (next_at H0.out _ (Below.refl _ _) 7 (by omega) (by omega)).mono ?_; rintro e w1 ⟨r, σ1, rfl, hr, H1, _⟩; clear H0))
  have HO1 := Lib.hid (Ow.nil w.heap.size (w.alloc (.cells #[.slice pv s.length cv, .int .i64 0, .slice none 0 0, .int .i64 160] 53)).heap.size w.heap.size σ1 w1 (by simp))
  obtain ⟨W0, hW0⟩ : ∃ W0, W0 = (w.alloc (.cells #[.slice pv s.length cv, .int .i64 0, .slice none 0 0, .int .i64 160] 53)) := ⟨_, rfl⟩
  rw [← hW0] at H1 HO1
  have HW0 := Lib.hid hW0
  clear hW0
  go_loopw [4, 6] (fun v4 v6 wr => ∃ (i : Nat) (p7 : Option Addr) (c7 : Nat) (al : List Ast) (σi : St), v6 = .int .i64 (i : Int) ∧ v4 = .slice p7 i c7 ∧ i ≤ 2 + r ∧ Hid (i = al.length) ∧ Hid (To w.heap.size w.heap.size (.slice pv s.length cv) s ⟨0, .slice none 0 0, []⟩ W0 σi wr al) ∧ Hid (Ow w.heap.size W0.heap.size (.slice p7 i c7) i (rootsA 0 al) w.heap.size σi wr) ∧ Hid (∀ a ∈ al, Q 4 a) ∧ Hid (sizes al ≤ 160 + 8000 * 5 + 300 * i)) (fun _ v6 _ => 2 + r - (intOf v6).toNat)
  case atStart => exact ⟨0, none, 0, [], σ1, rfl, rfl, by omega, rfl, H1, HO1, fun a h => by simp at h, (show _ ≤ _ by simp only [sizes]; omega)⟩
  case round =>
    obtain ⟨i, p7, c7, al, σi, rfl, rfl, hi, HL, HT, HO, HEA, HBZ⟩ := hrel
    clear H1 HO1
    by_cases hir : i < 2 + r
    · have gi : (i : Int) < 2 + (r : Int) := by omega
      have hz := HBZ.out
      have HPP : Hid ((([] : List (NodeD × Value)).length) + sizes al ≤ 500000) := (show _ ≤ _ by simp only [List.length_nil]; omega)
      have hi6 : i + 1 ≤ 1000000 := by omega
      clear hz
      go_wp2_with (first
        | (at_builtin; go_loud (refine wpList_iapp rfl _ _ rfl W0.heap.size i _ _ w3 HO3.out.row hbs3 ((sizes al + a.size - 1 : Nat) : Int) rfl (by rfl) hi6 ?_; intro g5 c5 w5 HK5 HB5 HG5; have H5 := Lib.hid (To.app H3.out HO3.out HK5.out HB5.out HG5.out)))
        | (go_at_call 24; go_loud (refine (stmt_at HE.out HT.out wr (Below.refl _ _) HPP.out false false false).mono ?_; rintro e w3 ⟨a, σ3, rfl, H3, HA, ha, H3'⟩; have HO3 := Lib.hid (HO.out.to H3'.out); have hbs3 : W0.heap.size ≤ w3.heap.size := H3.out.but.size; simp only [List.length_nil] at ha ⊢)))
      refine ⟨⟨i + 1, _, c5, al ++ [a], σ3, rfl, rfl, by omega, ?_, H5.out.1, ?_, ?_, ?_⟩, by simp [intOf]; omega⟩
      · show _ = _; rw [List.length_append, ← HL.out]; rfl
      · show Ow _ _ _ _ _ _ _ _
        rw [rootsA_append, rootsA_one, Nat.zero_add]
        exact H5.out.2
      · show ∀ b ∈ al ++ [a], Q 4 b
        intro b hb
        rcases List.mem_append.1 hb with hb | hb
        · exact HEA.out b hb
        · simp only [List.mem_cons, List.not_mem_nil, or_false] at hb
          rw [hb]; exact HA
      · show sizes (al ++ [a]) ≤ 160 + 8000 * 5 + 300 * (i + 1)
        rw [sizes_append]
        have := HBZ.out
        unfold Few at ha
        simp only [sizes]
        omega
    · obtain rfl : i = 2 + r := by omega
      have hz := HBZ.out
      have HZ2 : Hid (sizes al ≤ 50000) := (show _ ≤ _ by omega)
      have hi1 : 1 < al.length := by rw [← HL.out]; omega
      have hi2 : al.length ≤ 1000000 := by rw [← HL.out]; omega
      clear hz
      go_wp2_with (go_at_call 25; go_loud (refine (add_at HT.out wr (Below.refl _ _) 40 0 ⟨#[]⟩ _ (by have := own_krowI HO.out.row; simpa using this) (fun _ => HO.out.neM) (by have := HZ2.out; simp only [List.length_nil]; omega) hi2).mono ?_; rintro e w4 ⟨σ4, rfl, H4⟩; obtain ⟨pt, ct, evt⟩ := H4.out.st.form; have c2 := H4.out.st.cell 2; simp only [List.getElem?_toArray, List.getElem?_cons_succ, List.getElem?_cons_zero] at c2; rw [evt] at c2; have EVT := Lib.hid evt; clear evt))
      go_ret
      obtain ⟨N, hN, hNm, _⟩ := H4.out.grow
      have hlen := H4.out.len
      refine ⟨al, _, σ4.P, rfl, ?_, ?_, hi1, HEA.out, ?_, ?_⟩
      · show TRow _ _ _ _
        have := H4.out.st.row
        rw [EVT.out] at this
        exact this
      · rw [hN, List.nil_append, hNm, flats_one]; rfl
      · rw [hlen]
        have := HZ2.out
        simp only [sizes, size_mk, List.length_nil]
        omega
      · have h1 : Below w.heap.size w W0 := by rw [HW0.out]; exact (Below.refl _ _).alloc (Nat.le_refl _) _
        exact h1.trans (H4.out.but.below (by rw [HW0.out]; simp) (fun b hb e => e.elim (fun h => by omega) (fun h => by simp [Value.ownBlock] at h)))
end Go.Proofs.YtkmmcphiijolkaaGreatDoor

set_option linter.unusedVariables false
set_option linter.unusedSimpArgs false
namespace Go.Proofs.YtkmmcphiijolkaaGreatDoor
open Go.RowKit Go.Shelf
open Tr

namespace Tr
def par4 : List (List Sp.Bs) := [[], [[97]], [[97], [98]], [[120]]]
/-- A parameter as the maker makes it. -/
inductive POk : Ast → Prop
  | bare (t : Sp.Bs) (h : sName t = true) : POk (.mk 22 t 0 [])
  | deft (t : Sp.Bs) (a : Ast) (h : sName t = true) (ha : EOk 1 a) : POk (.mk 22 t 0 [a])
theorem par4_ok : ∀ L ∈ par4, ∀ x ∈ L, sName x = true := by decide +kernel
/-- Parameters as the maker makes them, of n: but the last one none has a kid. -/
def PsI (n : Nat) (al : List Ast) : Prop := (∀ a ∈ al, POk a) ∧ ∀ j a, al[j]? = some a → j + 1 < n → a.kids = []
theorem PsI.nil (n : Nat) : PsI n [] := ⟨fun a h => by simp at h, fun j a h => by simp at h⟩
theorem PsI.snoc {n : Nat} {al : List Ast} {b : Ast} (h : PsI n al) (hb : POk b) (hk : al.length + 1 < n → b.kids = []) : PsI n (al ++ [b]) := by
  refine ⟨fun a ha => ?_, fun j a hj hn => ?_⟩
  · rcases List.mem_append.1 ha with ha | ha
    · exact h.1 a ha
    · simp only [List.mem_cons, List.not_mem_nil, or_false] at ha
      rw [ha]; exact hb
  · by_cases hlt : j < al.length
    · rw [List.getElem?_append_left hlt] at hj
      exact h.2 j a hj hn
    · have hj2 := (List.getElem?_eq_some_iff.1 hj).1
      simp only [List.length_append, List.length_cons, List.length_nil] at hj2
      have e : j = al.length := by omega
      subst e
      rw [List.getElem?_append_right (Nat.le_refl _), Nat.sub_self] at hj
      simp only [List.getElem?_cons_zero, Option.some.injEq] at hj
      subst hj
      exact hk hn
end Tr

/-- A number written out is appended to a row of the call's own, in a region that draws its order. -/
theorem step_iapp {ops : Array Oper} {o : Oper} {a : Act} {K : Act → World → Prop} {Q' : Exit → Act → World → Prop} {E : Prop} (hgd : o.guard = none) (s x : Operand)
    (ho : o.op = .call { callee := .builtin .append, args := #[s, x], argTypes := #[24, 24] }) (base n : Nat) (v : Value) (l : List Int) (w : World) (hown : w.ownsRow base 3 1 v n (l.map (Value.int .i64))) (hbase : base ≤ w.heap.size) (W : World) (hb : Below w.heap.size w W) (hz : W.heap.size = w.heap.size + 1) (k : Int) (hc : W.heap[w.heap.size]? = some (.cells #[.int .i64 k] 3 (0, 0)))
    (hs : a.eval s = v) (hx : a.eval x = .slice (some ⟨w.heap.size, 0, none⟩) 1 1) (hlen : n + 1 ≤ 1000000)
    (h : ∀ g c w', Hid (w'.ownsRow base 3 1 (.slice (some ⟨g, 0, none⟩) (n + 1) c) (n + 1) ((l ++ [k]).map (Value.int .i64))) → Hid (But (fun b => v.ownBlock = some b) w w') → Hid (base ≤ g ∧ (some g = v.ownBlock ∨ w.heap.size ≤ g)) → K (a.put o.dst (.slice (some ⟨g, 0, none⟩) (n + 1) c)) w') :
    if Region.wanted o (yielded ops a.tmps) = true then Oper.wp Tryz.prog o a W K Q' else E := by
  obtain ⟨i0, hi, hz0, hz1, hz2⟩ := info_parts infoInt
  refine step_append_lies _ hgd s x 24 ho base 3 i0 _ 1 8 Tryz.underlying24 hi hz0 hz1 hz2 rfl (by decide) v n _ hs (own_below hown hb) ⟨w.heap.size, 0, none⟩ 1 1 [.int .i64 k] hx rfl ?_ ?_ (by omega) (by unfold maxLen; omega) (by omega) (by omega) (w.heap.size + 1) hz ?_
  · intro j u hu
    have e : ((⟨w.heap.size, 0, none⟩ : Addr).add j) = ⟨w.heap.size, j, none⟩ := by unfold Addr.add; split <;> simp_all
    rw [e, cell_of_row W w.heap.size j _ 3 (0, 0) hc, ← Array.getElem?_toList]
    exact hu
  · intro u hu
    simp at hu
    subst hu
    rfl
  · intro g c w' hown' hgrow hat hlt
    have hs2 := hb.size
    have hg := (hown'.lt g rfl).1
    refine h g c w' (show World.ownsRow _ _ _ _ _ _ _ by rw [List.map_append]; exact hown') (show But _ _ _ from ⟨hgrow.os.trans hb.os, hgrow.tape.trans hb.tape, hgrow.output.trans hb.output, Nat.le_trans hs2 hgrow.size, fun k hk hn => ⟨(hgrow.block k (by omega) (fun e => hn e.symm)).trans (hb.block k hk), fun e => hn e⟩⟩) (show _ ∧ _ from ⟨hg, ?_⟩)
    rcases hat with e | e
    · exact Or.inl e.symm
    · exact Or.inr (by omega)
theorem par_lit {base M : Nat} {vs : Value} {s : List Int} {σ σ1 : St} {w w1 : World} {al : List Ast} (hml : M < w.heap.size) (hvt : ∀ g, σ.vt.ownBlock = some g → g < w.heap.size) (hT : To base M vs s σ (((((w.alloc (.cells #[] 9)).alloc (.cells #[.string ⟨#[97]⟩] 9)).alloc (.cells #[.string ⟨#[97]⟩, .string ⟨#[98]⟩] 9)).alloc (.cells #[.string ⟨#[120]⟩] 9)).alloc (.cells #[.slice (some ⟨w.heap.size, 0, none⟩) 0 0, .slice (some ⟨w.heap.size + 1, 0, none⟩) 1 1, .slice (some ⟨w.heap.size + 1 + 1, 0, none⟩) 2 2, .slice (some ⟨w.heap.size + 1 + 1 + 1, 0, none⟩) 1 1] 59)) σ1 w1 al) (r : Nat) (hr : r < 4) :
    ∃ (gl n : Nat) (L : List Sp.Bs), L ∈ par4 ∧ n = L.length ∧ n ≤ 2 ∧ w1.cell? ⟨w.heap.size + 1 + 1 + 1 + 1, r, none⟩ = some (.slice (some ⟨gl, 0, none⟩) n n) ∧ w1.heap[gl]? = some (.cells (L.map fun x => Value.string ⟨x.toArray⟩).toArray 9 (0, 0)) ∧ σ1.vt.ownBlock ≠ some gl ∧ gl ≠ M ∧ gl < w1.heap.size := by
  have hk : ∀ k, k < 5 → ∀ o, ((((((w.alloc (.cells #[] 9)).alloc (.cells #[.string ⟨#[97]⟩] 9)).alloc (.cells #[.string ⟨#[97]⟩, .string ⟨#[98]⟩] 9)).alloc (.cells #[.string ⟨#[120]⟩] 9)).alloc (.cells #[.slice (some ⟨w.heap.size, 0, none⟩) 0 0, .slice (some ⟨w.heap.size + 1, 0, none⟩) 1 1, .slice (some ⟨w.heap.size + 1 + 1, 0, none⟩) 2 2, .slice (some ⟨w.heap.size + 1 + 1 + 1, 0, none⟩) 1 1] 59))).heap[w.heap.size + k]? = o → w1.heap[w.heap.size + k]? = o ∧ σ1.vt.ownBlock ≠ some (w.heap.size + k) ∧ w.heap.size + k ≠ M ∧ w.heap.size + k < w1.heap.size := fun k hk o ho => by
    have hlt : w.heap.size + k < ((((((w.alloc (.cells #[] 9)).alloc (.cells #[.string ⟨#[97]⟩] 9)).alloc (.cells #[.string ⟨#[97]⟩, .string ⟨#[98]⟩] 9)).alloc (.cells #[.string ⟨#[120]⟩] 9)).alloc (.cells #[.slice (some ⟨w.heap.size, 0, none⟩) 0 0, .slice (some ⟨w.heap.size + 1, 0, none⟩) 1 1, .slice (some ⟨w.heap.size + 1 + 1, 0, none⟩) 2 2, .slice (some ⟨w.heap.size + 1 + 1 + 1, 0, none⟩) 1 1] 59))).heap.size := by simp; omega
    have := hT.far (g := w.heap.size + k) hlt (by omega) (fun e => by have := hvt _ e; omega)
    exact ⟨this.1.trans ho, this.2, by omega, Nat.lt_of_lt_of_le hlt hT.but.size⟩
  have h0 := hk 0 (by omega) (some (.cells #[] 9 (0, 0))) (by show (((((w.heap.push _).push _).push _).push _).push _)[_]? = _; simp only [Array.getElem?_push, Array.size_push]; repeat (first | rw [if_true] | rw [if_neg (by omega)] | rw [if_pos (by omega)]))
  have h1 := hk 1 (by omega) (some (.cells #[.string ⟨#[97]⟩] 9 (0, 0))) (by show (((((w.heap.push _).push _).push _).push _).push _)[_]? = _; simp only [Array.getElem?_push, Array.size_push]; repeat (first | rw [if_true] | rw [if_neg (by omega)] | rw [if_pos (by omega)]))
  have h2 := hk 2 (by omega) (some (.cells #[.string ⟨#[97]⟩, .string ⟨#[98]⟩] 9 (0, 0))) (by show (((((w.heap.push _).push _).push _).push _).push _)[_]? = _; simp only [Array.getElem?_push, Array.size_push]; repeat (first | rw [if_true] | rw [if_neg (by omega)] | rw [if_pos (by omega)]))
  have h3 := hk 3 (by omega) (some (.cells #[.string ⟨#[120]⟩] 9 (0, 0))) (by show (((((w.heap.push _).push _).push _).push _).push _)[_]? = _; simp only [Array.getElem?_push, Array.size_push]; repeat (first | rw [if_true] | rw [if_neg (by omega)] | rw [if_pos (by omega)]))
  have h4 := hk 4 (by omega) (some (.cells #[.slice (some ⟨w.heap.size, 0, none⟩) 0 0, .slice (some ⟨w.heap.size + 1, 0, none⟩) 1 1, .slice (some ⟨w.heap.size + 1 + 1, 0, none⟩) 2 2, .slice (some ⟨w.heap.size + 1 + 1 + 1, 0, none⟩) 1 1] 59 (0, 0))) (by show (((((w.heap.push _).push _).push _).push _).push _)[_]? = _; simp only [Array.getElem?_push, Array.size_push]; repeat (first | rw [if_true] | rw [if_neg (by omega)] | rw [if_pos (by omega)]))
  have hc := fun j => cell_of_row w1 (w.heap.size + 4) j _ _ _ h4.1
  match r, hr with
  | 0, _ => exact ⟨w.heap.size, 0, [], by decide, rfl, by omega, hc 0, h0.1, h0.2.1, h0.2.2.1, h0.2.2.2⟩
  | 1, _ => exact ⟨w.heap.size + 1, 1, [[97]], by decide, rfl, by omega, hc 1, h1.1, h1.2.1, h1.2.2.1, h1.2.2.2⟩
  | 2, _ => exact ⟨w.heap.size + 2, 2, [[97], [98]], by decide, rfl, by omega, hc 2, h2.1, h2.2.1, h2.2.2.1, h2.2.2.2⟩
  | 3, _ => exact ⟨w.heap.size + 3, 1, [[120]], by decide, rfl, by omega, hc 3, h3.1, h3.2.1, h3.2.2.1, h3.2.2.2⟩

set_option maxHeartbeats 8000000 in
set_option maxRecDepth 100000 in
theorem params_of {base M : Nat} {vs : Value} {s : List Int} (hE : ExprC base M vs s 1) (σ : St) (w : World) (hS : MkS base M vs s σ w) (hP : σ.P.length + 100 ≤ 1000000) :
    Calls Tryz.prog 50 #[.pointer (some ⟨M, 0, none⟩)] w fun e w' => ∃ (al : List Ast) (σ' : St) (i : Nat) (p : Option Addr) (c : Nat), e = .returned (.slice p i c) ∧ i = al.length ∧ i ≤ 2 ∧ Hid (To base M vs s σ w σ' w' al) ∧ Hid (Ow base w.heap.size (.slice p i c) i (rootsA σ.P.length al) M σ' w') ∧ Hid (PsI i al) ∧ Hid (sizes al ≤ 40) := by
  have H0 := Lib.hid (To.refl hS)
  have HE := Lib.hid hE
  have hml := hS.lt
  have hbw : base ≤ w.heap.size := by have := hS.hb; omega
  have hvt : ∀ g, σ.vt.ownBlock = some g → g < w.heap.size := fun g e => (hS.row.1.lt g e).2
  have HVT := Lib.hid hvt
  obtain ⟨p, hp⟩ := hid_ex σ.P.length
  rw [hp.out] at hP ⊢
  clear hS hE hvt
  go_enter Tryz.func50, Tryz.ntmps50
  go_upto_region 5 with (first
    | (go_at_call 23; go_loud (refine (next_at H1.out w1 (Below.refl _ _) 3 (by omega) (by omega)).mono ?_; rintro e w2 ⟨r2, σ2, rfl, hr2, H2, H2'⟩))
    | (go_at_call 23; go_loud (refine (next_at H0.out _ (((((Below.refl _ _).alloc (Nat.le_refl _) _).alloc (by simp) _).alloc (by simp; omega) _).alloc (by simp; omega) _ |>.alloc (by simp; omega) _) 4 (by omega) (by omega)).mono ?_; rintro e w1 ⟨r, σ1, rfl, hr, H1, H1'⟩; obtain ⟨gl, n, L, hL, hnL, hn2, hcl, hbl, hf1, hf2, hf3⟩ := par_lit hml HVT.out H1'.out r (by omega); have HL0 := Lib.hid hL; have HNL := Lib.hid hnL; have HBL := Lib.hid hbl; have HF1 := Lib.hid hf1; have HF2 := Lib.hid hf2; have HF3 := Lib.hid hf3; clear hL hnL hbl hf1 hf2 hf3)))
  have hLok := par4_ok L HL0.out
  have HLK := Lib.hid hLok
  have HLG : Hid (w2.heap[gl]? = some (.cells (L.map fun x => Value.string ⟨x.toArray⟩).toArray 9 (0, 0)) ∧ σ2.vt.ownBlock ≠ some gl) := (show _ ∧ _ from ⟨((H2'.out.far HF3.out HF2.out HF1.out).1).trans HBL.out, (H2'.out.far HF3.out HF2.out HF1.out).2⟩)
  have HGW : Hid (gl < w2.heap.size) := (show _ < _ from Nat.lt_of_lt_of_le HF3.out H2'.out.but.size)
  have HO2 := Lib.hid (Ow.nil base w.heap.size M σ2 w2 hbw)
  obtain ⟨late, hlate⟩ : ∃ late : Bool, late = ((r2 : Int) == 0) := ⟨_, rfl⟩
  have hl1 : decide (r2 = 0) = late := by rw [hlate]; cases r2 <;> rfl
  have hl2 : (r2 == 0) = late := by rw [hlate]; cases r2 <;> rfl
  simp only [← hlate, hl1, hl2]
  clear HBL HF1 HF3 hcl H1 H1' H2' HL0 hl1 hl2 hlate
  go_loopw [3, 6] (fun v3 v6 wr => ∃ (i : Nat) (p7 : Option Addr) (c7 : Nat) (al : List Ast) (σi : St), v6 = .int .i64 (i : Int) ∧ v3 = .slice p7 i c7 ∧ i ≤ n ∧ Hid (i = al.length) ∧ Hid (To base M vs s σ w σi wr al) ∧ Hid (Ow base w.heap.size (.slice p7 i c7) i (rootsA p al) M σi wr) ∧ Hid (PsI n al) ∧ Hid (sizes al ≤ 20 * i) ∧ Hid (wr.heap[gl]? = some (.cells (L.map fun x => Value.string ⟨x.toArray⟩).toArray 9 (0, 0)) ∧ σi.vt.ownBlock ≠ some gl ∧ (Value.slice p7 i c7).ownBlock ≠ some gl)) (fun _ v6 _ => n - (intOf v6).toNat)
  case atStart => exact ⟨0, none, 0, [], σ2, rfl, rfl, by omega, rfl, H2, HO2, PsI.nil n, (show _ ≤ _ by simp [sizes]), (show _ ∧ _ from ⟨HLG.out.1, HLG.out.2, by simp [Value.ownBlock]⟩)⟩
  case round =>
    obtain ⟨i, p7, c7, al, σi, rfl, rfl, hi, HL, HT, HO, HEA, HBZ, HG⟩ := hrel
    clear H2 HO2 HLG HGW
    by_cases hir : i < n
    · obtain ⟨x, hx⟩ : ∃ x, L[i]? = some x := ⟨_, List.getElem?_eq_getElem (by rw [← HNL.out]; exact hir)⟩
      have hsx : sName x = true := HLK.out x (List.mem_of_getElem? hx)
      have xc : wr.cell? ⟨gl, i, none⟩ = some (.string ⟨x.toArray⟩) := by
        rw [cell_of_row wr gl i _ _ _ HG.out.1]
        simp [hx]
      have hgl : gl < wr.heap.size := (Array.getElem?_eq_some_iff.1 HG.out.1).1
      have hz := HBZ.out
      have HPP : Hid (p + sizes al + 1 ≤ 1000000) := (show _ ≤ _ by omega)
      have HPQ : Hid (p + sizes al + 16 + 1 ≤ 1000000) := (show _ ≤ _ by omega)
      have gi : (i : Int) < (n : Int) := by omega
      have hi6 : i + 1 ≤ 1000000 := by omega
      have hnw : IntKind.i64.wrap ((n : Int) - 1) = (n : Int) - 1 := IntWalk.i64_in _ (by omega)
      clear hz hx
      have hcase : late = false ∨ (late = true ∧ ¬ (i : Int) = (n : Int) - 1) ∨ (late = true ∧ (i : Int) = (n : Int) - 1) := by
        cases late
        · exact Or.inl rfl
        · by_cases h : (i : Int) = (n : Int) - 1
          · exact Or.inr (Or.inr ⟨rfl, h⟩)
          · exact Or.inr (Or.inl ⟨rfl, h⟩)
      rcases hcase with rfl | ⟨rfl, he⟩ | ⟨rfl, he⟩
      · skip
        go_wp2_with (first
          | (at_builtin; go_loud (refine wpList_iapp rfl _ _ rfl w.heap.size i _ _ w3 HO3.out.row hbs3 ((p : Int) + ((sizes al : Nat) : Int)) rfl (by rfl) hi6 ?_; intro g5 c5 w5 HK5 HB5 HG5; have H5 := Lib.hid (To.app H3.out HO3.out HK5.out HB5.out HG5.out)))
          | (go_at_call 25; go_loud (refine (leaf_at HT.out wr (Below.refl _ _) 22 0 ⟨x.toArray⟩ (by rw [hp.out]; exact HPP.out)).mono ?_; rintro e w3 ⟨σ3, rfl, H3, H3'⟩; rw [hp.out]; have HO3 := Lib.hid (HO.out.to H3'.out); have hbs3 : w.heap.size ≤ w3.heap.size := H3.out.but.size; have HF3 := Lib.hid (H3'.out.far hgl HF2.out HG.out.2.1))))
        have hg5 : w5.heap[gl]? = some (.cells (L.map fun x => Value.string ⟨x.toArray⟩).toArray 9 (0, 0)) := ((HB5.out.both gl (Nat.lt_of_lt_of_le hgl H3'.out.but.size) HG.out.2.2).1).trans (HF3.out.1.trans HG.out.1)
        have hg6 : (Value.slice (some ⟨g5, 0, none⟩) (i + 1) c5).ownBlock ≠ some gl := by
          intro e
          simp only [Value.ownBlock, Option.some.injEq] at e
          rcases HG5.out.2 with e2 | e2
          · exact HG.out.2.2 (by rw [← e2, e])
          · have := H3'.out.but.size; omega
        have HG5' := Lib.hid hg5
        have HG6 := Lib.hid hg6
        have HSX := Lib.hid hsx
        clear hg5 hg6 xc hsx
        go_roundw
        case measure => simp [intOf]; omega
        case rel =>
          refine ⟨i + 1, _, c5, al ++ [.mk 22 x 0 []], σ3, rfl, rfl, by omega, ?_, Lib.hid (by have := H5.out.1; simpa using this), ?_, ?_, ?_, ⟨HG5'.out, HF3.out.2, HG6.out⟩⟩
          · show _ = _; rw [List.length_append, ← HL.out]; rfl
          · show Ow _ _ _ _ _ _ _ _
            have e : ((p + sizes al + (Ast.mk 22 x 0 []).size - 1 : Nat) : Int) = (p : Int) + ((sizes al : Nat) : Int) := by rw [size_mk]; simp [sizes]
            rw [rootsA_append, rootsA_one, e]
            exact H5.out.2
          · show PsI n (al ++ [.mk 22 x 0 []])
            exact HEA.out.snoc (POk.bare _ HSX.out) (fun _ => rfl)
          · show sizes (al ++ [.mk 22 x 0 []]) ≤ 20 * (i + 1)
            rw [sizes_append]
            have := HBZ.out
            simp only [sizes, size_mk]
            omega
      · skip
        go_wp2_with (first
          | (at_builtin; go_loud (refine wpList_iapp rfl _ _ rfl w.heap.size i _ _ w3 HO3.out.row hbs3 ((p : Int) + ((sizes al : Nat) : Int)) rfl (by rfl) hi6 ?_; intro g5 c5 w5 HK5 HB5 HG5; have H5 := Lib.hid (To.app H3.out HO3.out HK5.out HB5.out HG5.out)))
          | (go_at_call 25; go_loud (refine (leaf_at HT.out wr (Below.refl _ _) 22 0 ⟨x.toArray⟩ (by rw [hp.out]; exact HPP.out)).mono ?_; rintro e w3 ⟨σ3, rfl, H3, H3'⟩; rw [hp.out]; have HO3 := Lib.hid (HO.out.to H3'.out); have hbs3 : w.heap.size ≤ w3.heap.size := H3.out.but.size; have HF3 := Lib.hid (H3'.out.far hgl HF2.out HG.out.2.1))))
        have hg5 : w5.heap[gl]? = some (.cells (L.map fun x => Value.string ⟨x.toArray⟩).toArray 9 (0, 0)) := ((HB5.out.both gl (Nat.lt_of_lt_of_le hgl H3'.out.but.size) HG.out.2.2).1).trans (HF3.out.1.trans HG.out.1)
        have hg6 : (Value.slice (some ⟨g5, 0, none⟩) (i + 1) c5).ownBlock ≠ some gl := by
          intro e
          simp only [Value.ownBlock, Option.some.injEq] at e
          rcases HG5.out.2 with e2 | e2
          · exact HG.out.2.2 (by rw [← e2, e])
          · have := H3'.out.but.size; omega
        have HG5' := Lib.hid hg5
        have HG6 := Lib.hid hg6
        have HSX := Lib.hid hsx
        clear hg5 hg6 xc hsx
        go_roundw
        case measure => simp [intOf]; omega
        case rel =>
          refine ⟨i + 1, _, c5, al ++ [.mk 22 x 0 []], σ3, rfl, rfl, by omega, ?_, Lib.hid (by have := H5.out.1; simpa using this), ?_, ?_, ?_, ⟨HG5'.out, HF3.out.2, HG6.out⟩⟩
          · show _ = _; rw [List.length_append, ← HL.out]; rfl
          · show Ow _ _ _ _ _ _ _ _
            have e : ((p + sizes al + (Ast.mk 22 x 0 []).size - 1 : Nat) : Int) = (p : Int) + ((sizes al : Nat) : Int) := by rw [size_mk]; simp [sizes]
            rw [rootsA_append, rootsA_one, e]
            exact H5.out.2
          · show PsI n (al ++ [.mk 22 x 0 []])
            exact HEA.out.snoc (POk.bare _ HSX.out) (fun _ => rfl)
          · show sizes (al ++ [.mk 22 x 0 []]) ≤ 20 * (i + 1)
            rw [sizes_append]
            have := HBZ.out
            simp only [sizes, size_mk]
            omega
      · obtain rfl : n = i + 1 := by omega
        have hnw2 : IntKind.i64.wrap ((i : Int) + 1 - 1) = (i : Int) + 1 - 1 := IntWalk.i64_in _ (by omega)
        have gi2 : (i : Int) < (i : Int) + 1 := by omega
        clear he hnw gi
        go_upto_region 8 with fail
        go_region_law (first
          | (refine step_iapp (by rfl) _ _ (by rfl) w.heap.size i _ _ w4 HO4.out.row hbs4 _ (by first | exact (Below.refl _ _).alloc (Nat.le_refl _) _ | exact ((Below.refl _ _).alloc (Nat.le_refl _) _).drew) (by simp) ((p : Int) + ((sizes al : Nat) : Int) + ((sizes [a] : Nat) : Int)) (by exact heap_alloc_new w4 _) (by rfl) (by first | rfl | (simp; done) | (simp; rfl)) hi6 ?_; intro g5 c5 w5 HK5 HB5 HG5; have H5 := Lib.hid (To.app (HT.out.trans HT4.out) HO4.out HK5.out HB5.out HG5.out))
          | (go_simp; go_at_call 25; go_loud (have hl := lit_at H3'.out #[.int .i64 ((p + sizes al + a.size - 1 : Nat) : Int)] (by rw [HT.out.len, hp.out]; simp [rootsA]) 1 rfl; refine (add_at H3'.out _ (by first | exact (Below.refl _ _).alloc (Nat.le_refl _) _ | exact ((Below.refl _ _).alloc (Nat.le_refl _) _).drew) 22 0 ⟨x.toArray⟩ _ hl.1 (fun _ => hl.2) (by rw [HT.out.len, hp.out]; have := HPQ.out; simp only [sizes]; omega) (by simp)).mono ?_; rintro e w4 ⟨σ4, rfl, H4⟩; rw [HT.out.len, hp.out]; have HT4 := Lib.hid (To.after HT.out.st (by first | exact Below.refl _ _ | exact (Below.refl _ _).drew) H4.out); have HO4 := Lib.hid (HO.out.to HT4.out); have hbs4 : w.heap.size ≤ w4.heap.size := Nat.le_trans HT.out.but.size HT4.out.but.size; have HF4 := Lib.hid (HT4.out.far hgl HF2.out HG.out.2.1)))
          | (go_simp; go_at_call 47; go_loud (refine (expr_at (d := 1) HE.out HT.out _ (by first | exact Below.refl _ _ | exact (Below.refl _ _).drew) (by rw [hp.out]; show _ + 16 ≤ _; have := HPQ.out; omega)).mono ?_; rintro e w3 ⟨a, σ3, rfl, H3, HA, ha, H3'⟩; rw [hp.out]; have ha16 : a.size < 16 := ha; clear ha; have HF3 := Lib.hid (H3'.out.far hgl HF2.out HG.out.2.1); have xc3 := (World.cell?_of_block (a := ⟨gl, i, none⟩) HF3.out.1).trans xc; have xc3' := fun o => (World.cell?_alloc_lt w3 o ⟨gl, i, none⟩ (Nat.lt_of_lt_of_le hgl H3'.out.but.size)).trans xc3)))
        all_goals
          have hg5 : w5.heap[gl]? = some (.cells (L.map fun x => Value.string ⟨x.toArray⟩).toArray 9 (0, 0)) := ((HB5.out.both gl (Nat.lt_of_lt_of_le hgl HT4.out.but.size) HG.out.2.2).1).trans (HF4.out.1.trans HG.out.1)
          have hg6 : (Value.slice (some ⟨g5, 0, none⟩) (i + 1) c5).ownBlock ≠ some gl := by
            intro e
            simp only [Value.ownBlock, Option.some.injEq] at e
            rcases HG5.out.2 with e2 | e2
            · exact HG.out.2.2 (by rw [← e2, e])
            · have := HT4.out.but.size; omega
          have HG5' := Lib.hid hg5
          have HG6 := Lib.hid hg6
          have HSX := Lib.hid hsx
          have HA16 := Lib.hid ha16
          clear hg5 hg6 hsx ha16
          go_wp2_with fail
          go_roundw
          case measure => simp [intOf]
          case rel =>
            refine ⟨i + 1, _, c5, al ++ [.mk 22 x 0 [a]], σ4, rfl, rfl, by omega, ?_, Lib.hid (by have := H5.out.1; simpa using this), ?_, ?_, ?_, ⟨HG5'.out, HF4.out.2, HG6.out⟩⟩
            · show _ = _; rw [List.length_append, ← HL.out]; rfl
            · show Ow _ _ _ _ _ _ _ _
              have e : ((p + sizes al + (Ast.mk 22 x 0 [a]).size - 1 : Nat) : Int) = (p : Int) + ((sizes al : Nat) : Int) + ((sizes [a] : Nat) : Int) := by rw [size_mk]; simp
              rw [rootsA_append, rootsA_one, e]
              exact H5.out.2
            · show PsI (i + 1) (al ++ [.mk 22 x 0 [a]])
              exact HEA.out.snoc (POk.deft _ _ HSX.out HA) (fun h => by rw [← HL.out] at h; omega)
            · show sizes (al ++ [.mk 22 x 0 [a]]) ≤ 20 * (i + 1)
              rw [sizes_append]
              have := HBZ.out
              have := HA16.out
              simp only [sizes, size_mk]
              omega
    · obtain rfl : i = n := by omega
      have hz := HBZ.out
      have HZ2 : Hid (sizes al ≤ 40) := (show _ ≤ _ by omega)
      clear hz
      go_wp2_with fail
      go_ret
      exact ⟨al, σi, i, p7, c7, rfl, HL.out, hn2, HT, HO, HEA, HZ2⟩
end Go.Proofs.YtkmmcphiijolkaaGreatDoor

set_option linter.unusedVariables false
set_option linter.unusedSimpArgs false
namespace Go.Proofs.YtkmmcphiijolkaaGreatDoor
open Go.RowKit Go.Shelf
open Tr

namespace Tr
/-- Statements (0), blocks (1), handlers (2, 3) and finals (4) as the maker makes them, so deep. -/
inductive SOk : Nat → Nat → Ast → Prop
  | expr (d : Nat) (a : Ast) (ha : EOk 3 a) : SOk 0 d (.mk 42 [] 0 [a])
  | assign (d : Nat) (t a : Ast) (ht : WOk t) (ha : EOk 3 a) : SOk 0 d (.mk 43 [] 0 [t, a])
  | aug (d : Nat) (s : Sp.Bs) (t a : Ast) (hs : sArith s = true) (ht : TOk t) (ha : EOk 3 a) : SOk 0 d (.mk 44 s 0 [t, a])
  | lone (d : Nat) (o : Int) (ho : o = 48 ∨ o = 49 ∨ o = 50 ∨ o = 53 ∨ o = 54) : SOk 0 d (.mk o [] 0 [])
  | one (d : Nat) (o : Int) (a : Ast) (ho : o = 53 ∨ o = 54 ∨ o = 61 ∨ o = 62) (ha : EOk 3 a) : SOk 0 d (.mk o [] 0 [a])
  | del (d : Nat) (t : Ast) (ht : TOk t) : SOk 0 d (.mk 60 [] 0 [t])
  | if2 (d : Nat) (t b : Ast) (ht : EOk 3 t) (hb : SOk 1 d b) : SOk 0 d (.mk 45 [] 0 [t, b])
  | if3 (d : Nat) (t b c : Ast) (ht : EOk 3 t) (hb : SOk 1 d b) (hc : SOk 1 d c) : SOk 0 d (.mk 45 [] 0 [t, b, c])
  | whil (d : Nat) (t b : Ast) (ht : EOk 3 t) (hb : SOk 1 d b) : SOk 0 d (.mk 46 [] 0 [t, b])
  | forr (d : Nat) (w e b : Ast) (hw : WOk w) (he : EOk 3 e) (hb : SOk 1 d b) : SOk 0 d (.mk 47 [] 0 [w, e, b])
  | deff (d : Nat) (s : Sp.Bs) (ps : List Ast) (b : Ast) (hs : sName s = true) (hp : PsI ps.length ps) (hb : SOk 1 d b) : SOk 0 d (.mk 51 s 0 (ps ++ [b]))
  | cls (d : Nat) (s : Sp.Bs) (cs : List Ast) (b : Ast) (hs : sName s = true) (hc : ∀ a ∈ cs, EOk 0 a) (hb : SOk 1 d b) : SOk 0 d (.mk 52 s 0 (cs ++ [b]))
  | tri (d : Nat) (b : Ast) (hs h0 fs : List Ast) (hb : SOk 1 d b) (h1 : ∀ a ∈ hs, SOk 2 d a) (h2 : ∀ a ∈ h0, SOk 3 d a) (h3 : ∀ a ∈ fs, SOk 4 d a) (n2 : h0.length ≤ 1) (n3 : fs.length ≤ 1) (hn : 0 < hs.length + h0.length + fs.length) : SOk 0 d (.mk 55 [] 0 ([b] ++ hs ++ h0 ++ fs))
  | block (d : Nat) (l : List Ast) (h : 0 < l.length) (hl : ∀ a ∈ l, SOk 0 d a) : SOk 1 (d + 1) (.mk 41 [] 0 l)
  | hand (d : Nat) (s t : Sp.Bs) (b : Ast) (hs : s = [] ∨ s = [101]) (ht : sName t = true) (hb : SOk 1 d b) : SOk 2 d (.mk 56 s 0 [.mk 6 t 0 [], b])
  | bare (d : Nat) (b : Ast) (hb : SOk 1 d b) : SOk 3 d (.mk 56 [] 0 [b])
  | fin (d : Nat) (b : Ast) (hb : SOk 1 d b) : SOk 4 d (.mk 57 [] 0 [b])
end Tr

/-- Where a statement stands, in memory. -/
def Plc (g : Nat) (f l c : Bool) (σ : St) (w : World) : Prop := w.heap[g]? = some (.cells #[.bool f, .bool l, .bool c] 57 (0, 0)) ∧ σ.vt.ownBlock ≠ some g
theorem Plc.lt {g : Nat} {f l c : Bool} {σ : St} {w : World} (h : Plc g f l c σ w) : g < w.heap.size := (Array.getElem?_eq_some_iff.1 h.1).1
theorem Plc.below {g : Nat} {f l c : Bool} {σ : St} {w w' : World} (h : Plc g f l c σ w) (hb : Below w.heap.size w w') : Plc g f l c σ w' := ⟨(hb.block g h.lt).trans h.1, h.2⟩
theorem Plc.to {base M g : Nat} {vs : Value} {s : List Int} {f l c : Bool} {σ σ' : St} {w wq w' : World} {al : List Ast} (h : Plc g f l c σ w) (hM : g ≠ M) (hb : Below w.heap.size w wq) (k : To base M vs s σ wq σ' w' al) : Plc g f l c σ' w' := by
  have h2 := h.below hb
  have := k.far h2.lt hM h2.2
  exact ⟨this.1.trans h2.1, this.2⟩
theorem Plc.one {base M : Nat} {vs : Value} {s : List Int} {f l c : Bool} {σ σ' : St} {w w' : World} {al : List Ast} (h : MkS base M vs s σ w) (k : To base M vs s σ (w.alloc (.cells #[.bool f, .bool l, .bool c] 57)) σ' w' al) : Plc w.heap.size f l c σ' w' ∧ w.heap.size ≠ M := by
  have hl := h.lt
  have := k.far (g := w.heap.size) (by simp) (by omega) (fun e => by have := (h.row.1.lt _ e).2; omega)
  rw [heap_alloc_new] at this
  exact ⟨this, by omega⟩
theorem Plc.cells {g : Nat} {f l c : Bool} {σ : St} {w : World} (h : Plc g f l c σ w) : w.cell? ⟨g, 0, none⟩ = some (.bool f) ∧ w.cell? ⟨g, 1, none⟩ = some (.bool l) ∧ w.cell? ⟨g, 2, none⟩ = some (.bool c) :=
  ⟨cell_of_row w g 0 _ _ _ h.1, cell_of_row w g 1 _ _ _ h.1, cell_of_row w g 2 _ _ _ h.1⟩
theorem Plc.but {g : Nat} {f l c : Bool} {σ : St} {w w' : World} {p : Nat → Prop} (h : Plc g f l c σ w) (hb : But p w w') (hp : ¬ p g) : Plc g f l c σ w' := ⟨((hb.both g h.lt hp).1).trans h.1, h.2⟩
theorem few_leaf {p n d : Nat} (h : n ≤ 300) : Few p n d := by unfold Few; omega
theorem few_deep {p n d : Nat} (hp : p < 160) (h : n + p ≤ 160 + 8000 * (d + 1)) : Few p n d := by unfold Few; omega

section
variable {base M : Nat} {vs : Value} {s : List Int} {σ0 σ : St} {w0 w : World} {al : List Ast}
theorem block_at {d : Nat} (hE : StmtC base M vs s (SOk 0) d) (hd : d ≤ 4) (H : To base M vs s σ0 w0 σ w al) (wq : World) (hb : Below w.heap.size w wq) (hP : σ0.P.length + sizes al ≤ 400000) (f l c : Bool) :
    Calls Tryz.prog 49 #[.pointer (some ⟨M, 0, none⟩), .int .i64 ((d : Int) + 1), .agg #[.bool f, .bool l, .bool c]] wq fun e w' => ∃ (a : Ast) (σ' : St), e = .returned (.int .i64 ((σ0.P.length + sizes al + a.size - 1 : Nat) : Int)) ∧ Hid (To base M vs s σ0 w0 σ' w' (al ++ [a])) ∧ SOk 1 (d + 1) a ∧ Hid (FewB (σ0.P.length + sizes al) a.size d) ∧ a.size ≤ 50000 ∧ Hid (To base M vs s σ wq σ' w' [a]) :=
  (block_of hE (by omega) σ wq (H.st.below hb) (by rw [H.len]; exact hP) f l c).mono (by
    rintro e w' ⟨bl, σ', rfl, HT, hl, ha, hs⟩
    refine ⟨_, σ', by rw [H.len], (H.below hb).trans HT.out, .block _ _ hl ha, (show FewB _ _ _ by rw [← H.len]; exact hs), ?_, HT⟩
    unfold FewB at hs
    omega)
theorem block_k {d : Nat} (hE : StmtC base M vs s (SOk 0) d) (hd : d ≤ 4) (H : To base M vs s σ0 w0 σ w al) (wq : World) (hb : Below w.heap.size w wq) (hP : σ0.P.length + sizes al ≤ 400000) (f l c : Bool) :
    Calls Tryz.prog 49 #[.pointer (some ⟨M, 0, none⟩), .int .i64 ((d : Int) + 1), .agg #[.bool f, .bool l, .bool c]] wq fun e w' => ∃ (k : Nat) (a : Ast) (σ' : St), e = .returned (.int .i64 (k : Int)) ∧ Hid (k = σ0.P.length + sizes al + a.size - 1) ∧ Hid (To base M vs s σ0 w0 σ' w' (al ++ [a])) ∧ SOk 1 (d + 1) a ∧ Hid (FewB (σ0.P.length + sizes al) a.size d) ∧ a.size ≤ 50000 ∧ Hid (To base M vs s σ wq σ' w' [a]) :=
  (block_at hE hd H wq hb hP f l c).mono (by
    rintro e w' ⟨a, σ', rfl, h1, h2, h3, h4, h5⟩
    exact ⟨_, a, σ', rfl, Lib.hid rfl, h1, h2, h3, h4, h5⟩)
theorem add_k (H : To base M vs s σ0 w0 σ w al) (wq : World) (hb : Below w.heap.size w wq) (op n : Int) (t : ByteArray) (kv : Value) (hk : KRow kv (rootsA σ0.P.length al) wq) (hM : al ≠ [] → ∀ g, kv.ownBlock = some g → g ≠ M) (hP : σ0.P.length + sizes al + 1 ≤ 1000000) (hl : al.length ≤ 1000000) :
    Calls Tryz.prog 25 #[.pointer (some ⟨M, 0, none⟩), .int .i64 op, .string t, .int .i64 n, kv] wq fun e w' => ∃ (k : Nat) (σ' : St), e = .returned (.int .i64 (k : Int)) ∧ Hid (k = σ0.P.length + sizes al) ∧ Hid (To base M vs s σ0 w0 σ' w' [.mk op t.data.toList n al]) :=
  (add_at H wq hb op n t kv hk hM hP hl).mono (by
    rintro e w' ⟨σ', rfl, h1⟩
    exact ⟨_, σ', rfl, Lib.hid rfl, h1⟩)
theorem params_at (hE : ExprC base M vs s 1) (H : To base M vs s σ0 w0 σ w []) (wq : World) (hb : Below w.heap.size w wq) (hP : σ0.P.length + 100 ≤ 1000000) :
    Calls Tryz.prog 50 #[.pointer (some ⟨M, 0, none⟩)] wq fun e w' => ∃ (bl : List Ast) (σ' : St) (i : Nat) (p : Option Addr) (c : Nat), e = .returned (.slice p i c) ∧ i = bl.length ∧ i ≤ 2 ∧ Hid (To base M vs s σ0 w0 σ' w' bl) ∧ Hid (To base M vs s σ wq σ' w' bl) ∧ Hid (Ow base wq.heap.size (.slice p i c) i (rootsA σ0.P.length bl) M σ' w') ∧ Hid (PsI i bl) ∧ Hid (sizes bl ≤ 40) := by
  have hl := H.len
  simp only [sizes, Nat.add_zero] at hl
  refine (params_of hE σ wq (H.st.below hb) (by rw [hl]; exact hP)).mono ?_
  rintro e w' ⟨bl, σ', i, p, c, rfl, hi, hin, HT, HO, HEA, HZ⟩
  rw [hl] at HO
  exact ⟨bl, σ', i, p, c, rfl, hi, hin, (show To _ _ _ _ _ _ _ _ _ from by have := (H.below hb).trans HT.out; rwa [List.nil_append] at this), HT, HO, HEA, HZ⟩
theorem targets_at (H : To base M vs s σ0 w0 σ w al) (wq : World) (hb : Below w.heap.size w wq) (hP : σ0.P.length + sizes al + 30 ≤ 1000000) :
    Calls Tryz.prog 46 #[.pointer (some ⟨M, 0, none⟩)] wq fun e w' => ∃ (a : Ast) (σ' : St), e = .returned (.int .i64 ((σ0.P.length + sizes al + a.size - 1 : Nat) : Int)) ∧ Hid (To base M vs s σ0 w0 σ' w' (al ++ [a])) ∧ WOk a ∧ a.size ≤ 11 ∧ Hid (To base M vs s σ wq σ' w' [a]) :=
  (targets_any base M vs s σ wq (H.st.below hb) (by rw [H.len]; exact hP)).mono (by
    rintro e w' ⟨a, σ', rfl, HT, ha, hs⟩
    exact ⟨a, σ', by rw [H.len], (H.below hb).trans HT.out, ha, hs, HT⟩)
end
end Go.Proofs.YtkmmcphiijolkaaGreatDoor

set_option linter.unusedVariables false
set_option linter.unusedSimpArgs false
namespace Go.Proofs.YtkmmcphiijolkaaGreatDoor
open Go.RowKit Go.Shelf
open Tr

namespace Tr
def ar3 : List Sp.Bs := [[43], [45], [42]]
def ra5 : List Sp.Bs := [[86, 97, 108, 117, 101, 69, 114, 114, 111, 114], [75, 101, 121, 69, 114, 114, 111, 114], [69, 120, 99, 101, 112, 116, 105, 111, 110], [75], [101]]
def df7 : List Sp.Bs := [[102], [103], [97], [95, 95, 105, 110, 105, 116, 95, 95], [95, 95, 115, 116, 114, 95, 95], [95, 95, 97, 100, 100, 95, 95], [95, 95, 110, 101, 120, 116, 95, 95]]
def cl3 : List Sp.Bs := [[75], [69, 120, 99, 101, 112, 116, 105, 111, 110], [86, 97, 108, 117, 101, 69, 114, 114, 111, 114]]
def cn2 : List Sp.Bs := [[75], [101]]
def ha5 : List Sp.Bs := [[86, 97, 108, 117, 101, 69, 114, 114, 111, 114], [69, 120, 99, 101, 112, 116, 105, 111, 110], [75, 101, 121, 69, 114, 114, 111, 114], [84, 121, 112, 101, 69, 114, 114, 111, 114], [78, 97, 109, 101, 69, 114, 114, 111, 114]]
def hn2 : List Sp.Bs := [[], [101]]
def bc2 : List Int := [48, 49]
theorem ra5_ok (x : Sp.Bs) (h : x ∈ ra5) : x ∈ nm8 ∨ x ∈ nm16 := by
  have := List.all_eq_true.1 (show (ra5.all fun x => decide (x ∈ nm8 ∨ x ∈ nm16)) = true by decide) x h
  simpa using this
theorem cl3_ok (x : Sp.Bs) (h : x ∈ cl3) : x ∈ nm8 ∨ x ∈ nm16 := by
  have := List.all_eq_true.1 (show (cl3.all fun x => decide (x ∈ nm8 ∨ x ∈ nm16)) = true by decide) x h
  simpa using this
theorem df7_ok (x : Sp.Bs) (h : x ∈ df7) : sName x = true := List.all_eq_true.1 (show (df7.all fun x => sName x) = true by decide +kernel) x h
theorem cn2_ok (x : Sp.Bs) (h : x ∈ cn2) : sName x = true := List.all_eq_true.1 (show (cn2.all fun x => sName x) = true by decide +kernel) x h
theorem ha5_ok (x : Sp.Bs) (h : x ∈ ha5) : sName x = true := List.all_eq_true.1 (show (ha5.all fun x => sName x) = true by decide +kernel) x h
theorem ar3_ok (x : Sp.Bs) (h : x ∈ ar3) : sArith x = true := List.all_eq_true.1 (show (ar3.all fun x => sArith x) = true by decide) x h
theorem hn2_ok (x : Sp.Bs) (h : x ∈ hn2) : x = [] ∨ x = [101] := by simpa [hn2] using h
end Tr
end Go.Proofs.YtkmmcphiijolkaaGreatDoor
