/-
  Tests that are values, at this program.
-/
import Derived.Test.YtkmmcphiijolkaaDoorTreeC
import Derived.Laws.EntriesVeiled
import Derived.Deep.DeepCutAuto
import Derived.Shelf.RegionOpen
set_option linter.unusedVariables false
set_option linter.unusedSimpArgs false
namespace Go.Proofs.YtkmmcphiijolkaaDoor
open Go.RowKit Go.Shelf
open Tr

/-- Cells are as they were; no block has gone. -/
structure Kept (w w' : World) : Prop where
  size : w.heap.size ≤ w'.heap.size
  cells : ∀ (k : Nat) (cs : Array Value) (t : TypeId) (fr : Nat × Nat), w.heap[k]? = some (Obj.cells cs t fr) → w'.heap[k]? = some (Obj.cells cs t fr)
theorem Kept.refl (w : World) : Kept w w := ⟨Nat.le_refl _, fun _ _ _ _ h => h⟩
theorem Kept.trans {a b c : World} (h : Kept a b) (k : Kept b c) : Kept a c := ⟨Nat.le_trans h.size k.size, fun i cs t fr e => k.cells i cs t fr (h.cells i cs t fr e)⟩
theorem Kept.of_below {w w' : World} (h : Below w.heap.size w w') : Kept w w' := ⟨h.size, fun k cs t fr e => (h.block k (Array.getElem?_eq_some_iff.1 e).1).trans e⟩
theorem Kept.alloc (w : World) (o : Obj) : Kept w (w.alloc o) := Kept.of_below ((Below.refl _ w).alloc (Nat.le_refl _) o)
theorem Kept.grown {w w' : World} {b : Nat} (h : w.grownBy w' (some b)) (hb : ∀ (cs : Array Value) (t : TypeId) (fr : Nat × Nat), w.heap[b]? ≠ some (Obj.cells cs t fr)) : Kept w w' :=
  ⟨h.size, fun k cs t fr e => (h.block k (Array.getElem?_eq_some_iff.1 e).1 (by intro e2; cases e2; exact hb cs t fr e)).trans e⟩
theorem Kept.cell {w w' : World} (h : Kept w w') {a : Addr} {v : Value} (hc : w.cell? a = some v) : w'.cell? a = some v := by
  unfold World.cell? at hc ⊢
  cases hb : w.heap[a.block]? with
  | none => rw [hb] at hc; simp at hc
  | some o =>
    cases o with
    | cells cs t fr => rw [h.cells _ _ _ _ hb]; rw [hb] at hc; exact hc
    | _ => rw [hb] at hc; simp at hc

theorem KRow.kept {v : Value} {l : List Int} {w w' : World} (h : KRow v l w) (hb : Kept w w') : KRow v l w' := by
  obtain ⟨pa, cap, e, hc⟩ := h
  refine ⟨pa, cap, e, fun k c hk => ?_, hc.2⟩
  obtain ⟨g, o, e2, hg, a0⟩ := hc.1 k c hk
  exact ⟨g, o, e2, Nat.lt_of_lt_of_le hg hb.size, hb.cell a0⟩
theorem ArgT.kept {v : Value} {l : List NodeD} {w w' : World} (h : ArgT v l w) (hb : Kept w w') : ArgT v l w' := by
  obtain ⟨pa, cap, e, hc⟩ := h
  refine ⟨pa, cap, e, fun k x hx => ?_⟩
  obtain ⟨g, o, vk, e2, hg, a0, a1, a2, a3, a4, a5⟩ := hc k x hx
  exact ⟨g, o, vk, e2, Nat.lt_of_lt_of_le hg hb.size, hb.cell a0, hb.cell a1, hb.cell a2, hb.cell a3, hb.cell a4, a5.kept hb⟩
theorem NodeV.kept {nv : Value} {x : NodeD} {w w' : World} (h : NodeV nv x w) (hb : Kept w w') : NodeV nv x w' := by
  obtain ⟨vk, e, h⟩ := h
  exact ⟨vk, e, h.kept hb⟩

/-- All nodes are such as may be looked at: texts and rows are short, all Kids are numbers of nodes. -/
def AllIn (t : List NodeD) : Prop := t.length ≤ 1000000 ∧ ∀ y ∈ t, y.2.2.1.length ≤ 1000000 ∧ y.2.2.2.2.length ≤ maxLen ∧ ∀ k ∈ y.2.2.2.2, 0 ≤ k ∧ k < (t.length : Int)
theorem nodeAt_mem {t : List NodeD} {k : Int} (h : 0 ≤ k ∧ k < (t.length : Int)) : nodeAt t k ∈ t ∧ t[k.toNat]? = some (nodeAt t k) := by
  have hk : k.toNat < t.length := by omega
  have : t[k.toNat]? = some t[k.toNat] := List.getElem?_eq_getElem hk
  unfold nodeAt
  rw [this]
  exact ⟨List.getElem_mem hk, rfl⟩

/-- A value that is a test of texts. -/
def IsText (f : Sp.Bs → Bool) (v : Value) (w : World) : Prop := ∃ k caps, v = .func (.func k) #[] caps ∧ (∀ args w, (callFunc k args).run Tryd.prog w = .ok (.enter k args) w) ∧ ∀ w' (s : ByteArray), Kept w w' → s.size ≤ 1000000 → Calls Tryd.prog k (#[.string s] ++ caps) w' fun e w'' => e = .returned (.bool (f s.data.toList)) ∧ Below w'.heap.size w' w''
/-- A value that is a test of nodes, where pre holds. -/
def IsTest (pre : List NodeD → NodeD → Prop) (T : Test) (v : Value) (w : World) : Prop := ∃ k caps, v = .func (.func k) #[] caps ∧ (∀ args w, (callFunc k args).run Tryd.prog w = .ok (.enter k args) w) ∧ ∀ w' tv nv t x, Kept w w' → ArgT tv t w' → NodeV nv x w' → AllIn t → x ∈ t → pre t x → Calls Tryd.prog k (#[tv, nv] ++ caps) w' fun e w'' => e = .returned (.bool (T t x)) ∧ Below w'.heap.size w' w''
theorem IsText.kept {f : Sp.Bs → Bool} {v : Value} {w w' : World} (h : IsText f v w) (hk : Kept w w') : IsText f v w' := by
  obtain ⟨k, caps, e, he, h⟩ := h
  exact ⟨k, caps, e, he, fun w2 s h2 => h w2 s (hk.trans h2)⟩
theorem IsTest.kept {pre : List NodeD → NodeD → Prop} {T : Test} {v : Value} {w w' : World} (h : IsTest pre T v w) (hk : Kept w w') : IsTest pre T v w' := by
  obtain ⟨k, caps, e, he, h⟩ := h
  exact ⟨k, caps, e, he, fun w2 tv nv t x h2 => h w2 tv nv t x (hk.trans h2)⟩
theorem IsTest.imp {pre pre' : List NodeD → NodeD → Prop} {T : Test} {v : Value} {w : World} (h : IsTest pre T v w) (hp : ∀ t x, AllIn t → x ∈ t → pre' t x → pre t x) : IsTest pre' T v w := by
  obtain ⟨k, caps, e, he, h⟩ := h
  exact ⟨k, caps, e, he, fun w2 tv nv t x h2 h3 h4 h5 h6 h7 => h w2 tv nv t x h2 h3 h4 h5 h6 (hp t x h5 h6 h7)⟩
def All2 : List NodeD → NodeD → Prop := fun _ _ => True
/-- A row of parts. -/
def PartsIs (ps : List PartD) (v : Value) (w : World) : Prop := ∃ pa cap, v = .slice pa ps.length cap ∧ ∀ (i : Nat) (p : PartD), ps[i]? = some p → ∃ g o u, pa = some ⟨g, o, none⟩ ∧ w.cell? ⟨g, o + i * 3, none⟩ = some u ∧ IsTest All2 p.1 u w ∧ w.cell? ⟨g, o + i * 3 + 1, none⟩ = some (.int .i64 (p.2.1 : Int)) ∧ w.cell? ⟨g, o + i * 3 + 2, none⟩ = some (.int .i64 (p.2.2 : Int))
theorem PartsIs.kept {ps : List PartD} {v : Value} {w w' : World} (h : PartsIs ps v w) (hk : Kept w w') : PartsIs ps v w' := by
  obtain ⟨pa, cap, e, h⟩ := h
  refine ⟨pa, cap, e, fun i p hp => ?_⟩
  obtain ⟨g, o, u, e1, h0, h1, h2, h3⟩ := h i p hp
  exact ⟨g, o, u, e1, hk.cell h0, h1.kept hk, hk.cell h2, hk.cell h3⟩

theorem text_of {f : Sp.Bs → Bool} {k : Nat} (w : World) (he : ∀ args w, (callFunc k args).run Tryd.prog w = .ok (.enter k args) w) (h : ∀ (s : ByteArray) (w : World), s.size ≤ 1000000 → Calls Tryd.prog k #[.string s] w fun e w' => e = .returned (.bool (f s.data.toList)) ∧ Below w.heap.size w w') : IsText f (.func (.func k) #[] #[]) w :=
  ⟨k, #[], rfl, he, fun w' s _ hs => h s w' hs⟩
theorem test_of {pre : List NodeD → NodeD → Prop} {T : Test} {k : Nat} (w : World) (he : ∀ args w, (callFunc k args).run Tryd.prog w = .ok (.enter k args) w) (h : ∀ w' tv nv t x, ArgT tv t w' → NodeV nv x w' → AllIn t → x ∈ t → pre t x → Calls Tryd.prog k #[tv, nv] w' fun e w'' => e = .returned (.bool (T t x)) ∧ Below w'.heap.size w' w'') : IsTest pre T (.func (.func k) #[] #[]) w :=
  ⟨k, #[], rfl, he, fun w' tv nv t x _ => h w' tv nv t x⟩
theorem text_empty (w : World) : IsText sEmpty (.func (.func 42) #[] #[]) w := text_of w (enters_of Tryd.func42 (by kernel_rfl) rfl) empty_any
theorem text_short (w : World) : IsText sShort (.func (.func 48) #[] #[]) w := text_of w (enters_of Tryd.func48 (by kernel_rfl) rfl) short_any
theorem text_name (w : World) : IsText sName (.func (.func 49) #[] #[]) w := text_of w (enters_of Tryd.func49 (by kernel_rfl) rfl) fun s w hs => name_any s w hs
theorem text_nameE (w : World) : IsText sNameE (.func (.func 61) #[] #[]) w := text_of w (enters_of Tryd.func61 (by kernel_rfl) rfl) nameOrEmpty_any
theorem text_arith (w : World) : IsText sArith (.func (.func 52) #[] #[]) w := text_of w (enters_of Tryd.func52 (by kernel_rfl) rfl) arithmetic_any
theorem text_comp (w : World) : IsText sComp (.func (.func 53) #[] #[]) w := text_of w (enters_of Tryd.func53 (by kernel_rfl) rfl) comparison_any
theorem test_expr (w : World) : IsTest All2 tExpr (.func (.func 44) #[] #[]) w := test_of w (enters_of Tryd.func44 (by kernel_rfl) rfl) fun w' tv nv t x _ hn _ _ _ => expr_any tv nv x w' hn
theorem test_stmt (w : World) : IsTest All2 tStmt (.func (.func 56) #[] #[]) w := test_of w (enters_of Tryd.func56 (by kernel_rfl) rfl) fun w' tv nv t x _ hn _ _ _ => statement_any tv nv x w' hn
theorem test_target (w : World) : IsTest All2 tTarget (.func (.func 58) #[] #[]) w := test_of w (enters_of Tryd.func58 (by kernel_rfl) rfl) fun w' tv nv t x _ hn _ _ _ => target_any tv nv x w' hn
theorem test_even (w : World) : IsTest All2 tEven (.func (.func 51) #[] #[]) w := test_of w (enters_of Tryd.func51 (by kernel_rfl) rfl) fun w' tv nv t x _ hn _ _ _ => even_any tv nv x w' hn
theorem test_number (w : World) : IsTest All2 tNumber (.func (.func 47) #[] #[]) w := test_of w (enters_of Tryd.func47 (by kernel_rfl) rfl) fun w' tv nv t x _ hn _ _ _ => number_any tv nv x w' hn

set_option maxHeartbeats 2000000 in
theorem op_any (k : Int) (w : World) : Calls Tryd.prog 46 #[.int .i64 k] w fun e w' => ∃ v, e = .returned v ∧ IsTest All2 (tOp k) v w' ∧ Below w.heap.size w w' := by
  go_enter Tryd.func46, Tryd.ntmps46
  go_wp2_with fail
  go_ret
  refine ⟨_, rfl, ⟨71, _, rfl, enters_of Tryd.func71 (by kernel_rfl) rfl, ?_⟩, (Below.refl _ _).alloc (Nat.le_refl _) _⟩
  intro w' tv nv t x hk _ hn _ _ _
  have hc : w'.cell? ⟨w.heap.size, 0, none⟩ = some (.int .i64 k) := hk.cell (by simp)
  have hlt : w.heap.size < w'.heap.size := by have := hk.size; simp at this; omega
  obtain ⟨b, hb⟩ : ∃ b, b = w.heap.size := ⟨_, rfl⟩
  rw [← hb] at hc hlt ⊢
  clear hb
  obtain ⟨vk, rfl, pk, ck, rfl, fk⟩ := hn
  clear fk hk
  obtain ⟨x0, x1, x2, x3, ks⟩ := x
  simp only
  obtain ⟨m, hm⟩ : ∃ m, m = ks.length := ⟨_, rfl⟩
  rw [← hm]
  clear hm
  by_cases h0 : x0 = k
  · have HR : Hid (tOp k t (x0, x1, x2, x3, ks) = true) := by show _ = _; simp [tOp, h0]
    rw [HR.out]
    clear HR
    show Calls Tryd.prog 71 #[tv, _, .pointer (some ⟨b, 0, none⟩)] w' _
    go_enter Tryd.func71, Tryd.ntmps71
    go_wp2_with fail
    go_ret
    exact ⟨ret_bool (by simp [*]), (Below.refl _ _).alloc (Nat.le_refl _) _⟩
  · have HR : Hid (tOp k t (x0, x1, x2, x3, ks) = false) := by show _ = _; simp [tOp, h0]
    rw [HR.out]
    clear HR
    show Calls Tryd.prog 71 #[tv, _, .pointer (some ⟨b, 0, none⟩)] w' _
    go_enter Tryd.func71, Tryd.ntmps71
    go_wp2_with fail
    go_ret
    exact ⟨ret_bool (by simp [*]), (Below.refl _ _).alloc (Nat.le_refl _) _⟩

set_option maxHeartbeats 4000000 in
theorem both_any (Ta Tb : Test) (va vb : Value) (w : World) (ha : IsTest All2 Ta va w) (hb : IsTest (fun t x => Ta t x = true) Tb vb w) : Calls Tryd.prog 50 #[va, vb] w fun e w' => ∃ v, e = .returned v ∧ IsTest All2 (tBoth Ta Tb) v w' ∧ Below w.heap.size w w' := by
  obtain ⟨ka, ca, rfl, ea, ha⟩ := ha
  obtain ⟨kb, cb, rfl, eb, hb⟩ := hb
  have HA := Lib.hid ha
  have HB := Lib.hid hb
  clear ha hb
  go_enter Tryd.func50, Tryd.ntmps50
  go_wp2_with fail
  go_ret
  refine ⟨_, rfl, ⟨75, _, rfl, enters_of Tryd.func75 (by kernel_rfl) rfl, ?_⟩, ((Below.refl _ _).alloc (Nat.le_refl _) _).alloc (by simp) _⟩
  intro w' tv nv t x hk hat hn hal hx _
  have hc1 : w'.cell? ⟨w.heap.size, 0, none⟩ = some (.func (.func ka) #[] ca) := hk.cell (by rw [World.cell?_alloc_past _ _ _ (by simp), World.cell?_alloc_at _ _ _ _ rfl]; rfl)
  have hc2 : w'.cell? ⟨w.heap.size + 1, 0, none⟩ = some (.func (.func kb) #[] cb) := hk.cell (by rw [World.cell?_alloc_at _ _ _ _ (by simp)]; rfl)
  have hlt : w.heap.size + 1 < w'.heap.size := by have := hk.size; simp at this; omega
  have hk0 : Kept w w' := ((Kept.alloc _ _).trans (Kept.alloc _ _)).trans hk
  obtain ⟨b, hb⟩ : ∃ b, b = w.heap.size := ⟨_, rfl⟩
  rw [← hb] at hc1 hc2 hlt ⊢
  have hlt0 : b < w'.heap.size := by omega
  have hcA : ∀ w2, Kept w' w2 → Calls Tryd.prog ka (#[tv, nv] ++ ca) w2 fun e w'' => e = .returned (.bool (Ta t x)) ∧ Below w2.heap.size w2 w'' ∧ Kept w' w'' := fun w2 h2 =>
    (HA.out w2 tv nv t x (hk0.trans h2) (hat.kept h2) (hn.kept h2) hal hx trivial).mono (fun e w3 h => ⟨h.1, h.2, h2.trans (Kept.of_below h.2)⟩)
  have hcB : Ta t x = true → ∀ w2, Kept w' w2 → Calls Tryd.prog kb (#[tv, nv] ++ cb) w2 fun e w'' => e = .returned (.bool (Tb t x)) ∧ Below w2.heap.size w2 w'' := fun hT w2 h2 =>
    HB.out w2 tv nv t x (hk0.trans h2) (hat.kept h2) (hn.kept h2) hal hx hT
  clear hb HA HB hk hk0 hal hx
  obtain ⟨vk, rfl, pk, ck, rfl, fk⟩ := hn
  obtain ⟨pa, cat, rfl, fa⟩ := hat
  clear fk fa
  obtain ⟨x0, x1, x2, x3, ks⟩ := x
  simp only at hcA hcB ⊢
  obtain ⟨m, hm⟩ : ∃ m, m = ks.length := ⟨_, rfl⟩
  obtain ⟨q, hq⟩ : ∃ q, q = t.length := ⟨_, rfl⟩
  rw [← hm, ← hq] at hcA hcB
  rw [← hm, ← hq]
  clear hm hq
  obtain ⟨W1, hW1⟩ : ∃ W1, W1 = w'.alloc (.cells #[.int .i64 x0, .int .i64 x1, .string ⟨x2.toArray⟩, .int .i64 x3, .slice pk m ck] 37) := ⟨_, rfl⟩
  have hb1 : Below w'.heap.size w' W1 := by rw [hW1]; exact (Below.refl _ _).alloc (Nat.le_refl _) _
  have hN1 : W1.heap[w'.heap.size]? = some (.cells #[.int .i64 x0, .int .i64 x1, .string ⟨x2.toArray⟩, .int .i64 x3, .slice pk m ck] 37) := by rw [hW1]; show (w'.heap.push _)[_]? = _; simp
  obtain ⟨Bt, hBt⟩ := hid_ex (Ta t (x0, x1, x2, x3, ks))
  have hca := hcA W1 (Kept.of_below hb1)
  rw [hBt.out] at hca
  have HW1 := Lib.hid hW1
  show Calls Tryd.prog 75 #[.slice pa q cat, .agg #[.int .i64 x0, .int .i64 x1, .string ⟨x2.toArray⟩, .int .i64 x3, .slice pk m ck], .pointer (some ⟨b, 0, none⟩), .pointer (some ⟨b + 1, 0, none⟩)] w' _
  rw [hW1] at hca
  have hNx : ∀ w3, Below W1.heap.size W1 w3 → w3.heap[w'.heap.size]? = some (.cells #[.int .i64 x0, .int .i64 x1, .string ⟨x2.toArray⟩, .int .i64 x3, .slice pk m ck] 37) ∧ Below w'.heap.size w' w3 := fun w3 h3 =>
    ⟨(h3.block w'.heap.size (Array.getElem?_eq_some_iff.1 hN1).1).trans hN1, hb1.trans (h3.mono hb1.size)⟩
  rw [hW1] at hNx
  cases hB : Bt with
  | false =>
    have HR : Hid (tBoth Ta Tb t (x0, x1, x2, x3, ks) = false) := by show _ = _; unfold tBoth; rw [hBt.out, hB]; rfl
    rw [HR.out]
    rw [hB] at hca
    clear hcA hcB HR hBt hB hN1 hW1
    go_enter Tryd.func75, Tryd.ntmps75
    go_wp2_with (refine hca.mono ?_; clear hca; rintro e w3 ⟨rfl, hb3, hk3⟩)
    go_ret
    exact ⟨rfl, (hNx w3 hb3).2⟩
  | true =>
    obtain ⟨Bb, hBb⟩ := hid_ex (Tb t (x0, x1, x2, x3, ks))
    have hcb := hcB (hBt.out.trans hB)
    have HR : Hid (tBoth Ta Tb t (x0, x1, x2, x3, ks) = Bb) := by show _ = _; unfold tBoth; rw [hBt.out, hB, hBb.out]; rfl
    rw [HR.out]
    rw [hB] at hca
    rw [hBb.out] at hcb
    clear hcA hcB HR hBt hB hN1 hW1 hBb
    go_enter Tryd.func75, Tryd.ntmps75
    go_wp2_with (first
      | (refine hca.mono ?_; clear hca; rintro e w3 ⟨rfl, hb3, hk3⟩; have d2 := hk3.cell hc2; have hcb3 := hcb w3 hk3; obtain ⟨c0, c1, c2, c3, c4⟩ := box5 (w := w3) (hNx w3 hb3).1; have hbw3 := Lib.hid (hNx w3 hb3).2)
      | (refine hcb3.mono ?_; clear hcb3; rintro e w4 ⟨rfl, hb4⟩))
    go_ret
    exact ⟨rfl, hbw3.out.trans (hb4.mono hbw3.out.size)⟩

set_option maxHeartbeats 4000000 in
theorem either_any (Ta Tb : Test) (va vb : Value) (w : World) (ha : IsTest All2 Ta va w) (hb : IsTest All2 Tb vb w) : Calls Tryd.prog 60 #[va, vb] w fun e w' => ∃ v, e = .returned v ∧ IsTest All2 (tEither Ta Tb) v w' ∧ Below w.heap.size w w' := by
  obtain ⟨ka, ca, rfl, ea, ha⟩ := ha
  obtain ⟨kb, cb, rfl, eb, hb⟩ := hb
  have HA := Lib.hid ha
  have HB := Lib.hid hb
  clear ha hb
  go_enter Tryd.func60, Tryd.ntmps60
  go_wp2_with fail
  go_ret
  refine ⟨_, rfl, ⟨76, _, rfl, enters_of Tryd.func76 (by kernel_rfl) rfl, ?_⟩, ((Below.refl _ _).alloc (Nat.le_refl _) _).alloc (by simp) _⟩
  intro w' tv nv t x hk hat hn hal hx _
  have hc1 : w'.cell? ⟨w.heap.size, 0, none⟩ = some (.func (.func ka) #[] ca) := hk.cell (by rw [World.cell?_alloc_past _ _ _ (by simp), World.cell?_alloc_at _ _ _ _ rfl]; rfl)
  have hc2 : w'.cell? ⟨w.heap.size + 1, 0, none⟩ = some (.func (.func kb) #[] cb) := hk.cell (by rw [World.cell?_alloc_at _ _ _ _ (by simp)]; rfl)
  have hlt : w.heap.size + 1 < w'.heap.size := by have := hk.size; simp at this; omega
  have hk0 : Kept w w' := ((Kept.alloc _ _).trans (Kept.alloc _ _)).trans hk
  obtain ⟨b, hb⟩ : ∃ b, b = w.heap.size := ⟨_, rfl⟩
  rw [← hb] at hc1 hc2 hlt ⊢
  have hlt0 : b < w'.heap.size := by omega
  have hcA : ∀ w2, Kept w' w2 → Calls Tryd.prog ka (#[tv, nv] ++ ca) w2 fun e w'' => e = .returned (.bool (Ta t x)) ∧ Below w2.heap.size w2 w'' ∧ Kept w' w'' := fun w2 h2 =>
    (HA.out w2 tv nv t x (hk0.trans h2) (hat.kept h2) (hn.kept h2) hal hx trivial).mono (fun e w3 h => ⟨h.1, h.2, h2.trans (Kept.of_below h.2)⟩)
  have hcB : ∀ w2, Kept w' w2 → Calls Tryd.prog kb (#[tv, nv] ++ cb) w2 fun e w'' => e = .returned (.bool (Tb t x)) ∧ Below w2.heap.size w2 w'' := fun w2 h2 =>
    HB.out w2 tv nv t x (hk0.trans h2) (hat.kept h2) (hn.kept h2) hal hx trivial
  clear hb HA HB hk hk0 hal hx
  obtain ⟨vk, rfl, pk, ck, rfl, fk⟩ := hn
  obtain ⟨pa, cat, rfl, fa⟩ := hat
  clear fk fa
  obtain ⟨x0, x1, x2, x3, ks⟩ := x
  simp only at hcA hcB ⊢
  obtain ⟨m, hm⟩ : ∃ m, m = ks.length := ⟨_, rfl⟩
  obtain ⟨q, hq⟩ : ∃ q, q = t.length := ⟨_, rfl⟩
  rw [← hm, ← hq] at hcA hcB
  rw [← hm, ← hq]
  clear hm hq
  obtain ⟨W1, hW1⟩ : ∃ W1, W1 = w'.alloc (.cells #[.int .i64 x0, .int .i64 x1, .string ⟨x2.toArray⟩, .int .i64 x3, .slice pk m ck] 37) := ⟨_, rfl⟩
  have hb1 : Below w'.heap.size w' W1 := by rw [hW1]; exact (Below.refl _ _).alloc (Nat.le_refl _) _
  have hN1 : W1.heap[w'.heap.size]? = some (.cells #[.int .i64 x0, .int .i64 x1, .string ⟨x2.toArray⟩, .int .i64 x3, .slice pk m ck] 37) := by rw [hW1]; show (w'.heap.push _)[_]? = _; simp
  obtain ⟨Bt, hBt⟩ := hid_ex (Ta t (x0, x1, x2, x3, ks))
  have hca := hcA W1 (Kept.of_below hb1)
  rw [hBt.out] at hca
  have HW1 := Lib.hid hW1
  show Calls Tryd.prog 76 #[.slice pa q cat, .agg #[.int .i64 x0, .int .i64 x1, .string ⟨x2.toArray⟩, .int .i64 x3, .slice pk m ck], .pointer (some ⟨b, 0, none⟩), .pointer (some ⟨b + 1, 0, none⟩)] w' _
  rw [hW1] at hca
  have hNx : ∀ w3, Below W1.heap.size W1 w3 → w3.heap[w'.heap.size]? = some (.cells #[.int .i64 x0, .int .i64 x1, .string ⟨x2.toArray⟩, .int .i64 x3, .slice pk m ck] 37) ∧ Below w'.heap.size w' w3 := fun w3 h3 =>
    ⟨(h3.block w'.heap.size (Array.getElem?_eq_some_iff.1 hN1).1).trans hN1, hb1.trans (h3.mono hb1.size)⟩
  rw [hW1] at hNx
  cases hB : Bt with
  | true =>
    have HR : Hid (tEither Ta Tb t (x0, x1, x2, x3, ks) = true) := by show _ = _; unfold tEither; rw [hBt.out, hB]; rfl
    rw [HR.out]
    rw [hB] at hca
    clear hcA hcB HR hBt hB hN1 hW1
    go_enter Tryd.func76, Tryd.ntmps76
    go_wp2_with (refine hca.mono ?_; clear hca; rintro e w3 ⟨rfl, hb3, hk3⟩)
    go_ret
    exact ⟨rfl, (hNx w3 hb3).2⟩
  | false =>
    obtain ⟨Bb, hBb⟩ := hid_ex (Tb t (x0, x1, x2, x3, ks))
    have hcb := hcB
    have HR : Hid (tEither Ta Tb t (x0, x1, x2, x3, ks) = Bb) := by show _ = _; unfold tEither; rw [hBt.out, hB, hBb.out]; rfl
    rw [HR.out]
    rw [hB] at hca
    rw [hBb.out] at hcb
    clear hcA hcB HR hBt hB hN1 hW1 hBb
    go_enter Tryd.func76, Tryd.ntmps76
    go_wp2_with (first
      | (refine hca.mono ?_; clear hca; rintro e w3 ⟨rfl, hb3, hk3⟩; have d2 := hk3.cell hc2; have hcb3 := hcb w3 hk3; obtain ⟨c0, c1, c2, c3, c4⟩ := box5 (w := w3) (hNx w3 hb3).1; have hbw3 := Lib.hid (hNx w3 hb3).2)
      | (refine hcb3.mono ?_; clear hcb3; rintro e w4 ⟨rfl, hb4⟩))
    go_ret
    exact ⟨rfl, hbw3.out.trans (hb4.mono hbw3.out.size)⟩
end Go.Proofs.YtkmmcphiijolkaaDoor
