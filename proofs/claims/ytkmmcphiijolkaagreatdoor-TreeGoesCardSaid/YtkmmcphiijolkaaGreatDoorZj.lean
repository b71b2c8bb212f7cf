/-
  Texts of the tree package put behind one another: MkB, MkC, MkD, MkE, MkF, MkG.
-/
import Derived.Test.YtkmmcphiijolkaaGreatDoorZb
import Derived.Test.YtkmmcphiijolkaaGreatDoorZi
import Derived.Test.YtkmmcphiijolkaaGreatDoorZg
import Derived.BigQuiet
import Derived.Deep.AppendLies
import Derived.Deep.RegionHeld3
import Derived.BigRegion
set_option linter.unusedVariables false
set_option linter.unusedSimpArgs false
namespace Go.Proofs.YtkmmcphiijolkaaGreatDoor
open Go.RowKit Go.Shelf
open Tr

/-- A maker: how many numbers it took; its nodes. -/
structure St where
  at_ : Nat
  vt : Value
  P : List (NodeD × Value)
/-- A maker in memory. -/
structure MkS (base M : Nat) (vs : Value) (s : List Int) (σ : St) (w : World) : Prop where
  blk : w.heap[M]? = some (.cells #[vs, .int .i64 (σ.at_ : Int), σ.vt, .int .i64 (160 - (σ.P.length : Int))] 53 (0, 0))
  row : TRow base σ.vt σ.P w
  hb : base ≤ M
  ne : ∀ g, σ.vt.ownBlock = some g → g ≠ M
  kid : ∀ p ∈ σ.P, p.1.2.2.2.2 ≠ [] → ∀ g, p.2.ownBlock = some g → g ≠ M
  src : KRow vs s w
  srclt : s ≠ [] → ∀ g, vs.ownBlock = some g → g < base
  form : ∃ p c, σ.vt = .slice p σ.P.length c
  hat : σ.at_ ≤ s.length
  wf : ∀ x ∈ s, (Lit.int .i64 x).wf = true
  sl : s.length ≤ maxLen
theorem MkS.lt {base M : Nat} {vs : Value} {s : List Int} {σ : St} {w : World} (h : MkS base M vs s σ w) : M < w.heap.size := (Array.getElem?_eq_some_iff.1 h.blk).1
theorem MkS.below {base M : Nat} {vs : Value} {s : List Int} {σ : St} {w w' : World} (h : MkS base M vs s σ w) (hb : Below w.heap.size w w') : MkS base M vs s σ w' :=
  ⟨(hb.block M h.lt).trans h.blk, h.row.below hb, h.hb, h.ne, h.kid, h.src.below hb, h.srclt, h.form, h.hat, h.wf, h.sl⟩
theorem MkS.cell {base M : Nat} {vs : Value} {s : List Int} {σ : St} {w : World} (h : MkS base M vs s σ w) (j : Nat) : w.cell? ⟨M, j, none⟩ = #[vs, .int .i64 (σ.at_ : Int), σ.vt, .int .i64 (160 - (σ.P.length : Int))][j]? := cell_of_row w M j _ _ _ h.blk
theorem MkS.but {base M : Nat} {vs : Value} {s : List Int} {σ : St} {w w' : World} {p : Nat → Prop} (h : MkS base M vs s σ w) (hb : But p w w') (hM : ¬ p M) (hv : ∀ g, σ.vt.ownBlock = some g → ¬ p g) (hk : ∀ q ∈ σ.P, q.1.2.2.2.2 ≠ [] → ∀ g, q.2.ownBlock = some g → ¬ p g) (hp : ∀ g, p g → base ≤ g) : MkS base M vs s σ w' :=
  ⟨((hb.both M h.lt hM).1).trans h.blk, h.row.but2 hb hv hk, h.hb, h.ne, h.kid, h.src.same hb.size (fun hne g e hlt => (hb.both g hlt (fun e2 => by have := h.srclt hne g e; have := hp g e2; omega)).1), h.srclt, h.form, h.hat, h.wf, h.sl⟩

/-- From one state of a maker to a later one: these trees were added. -/
structure To (base M : Nat) (vs : Value) (s : List Int) (σ : St) (w : World) (σ' : St) (w' : World) (al : List Ast) : Prop where
  st : MkS base M vs s σ' w'
  grow : ∃ N, σ'.P = σ.P ++ N ∧ N.map (·.1) = flats σ.P.length al ∧ ∀ p ∈ N, p.1.2.2.2.2 ≠ [] → ∀ g, p.2.ownBlock = some g → w.heap.size ≤ g
  but : But (fun k => k = M ∨ σ.vt.ownBlock = some k) w w'
  loc : σ'.vt.ownBlock = σ.vt.ownBlock ∨ ∃ g, σ'.vt.ownBlock = some g ∧ w.heap.size ≤ g
theorem To.len {base M : Nat} {vs : Value} {s : List Int} {σ σ' : St} {w w' : World} {al : List Ast} (h : To base M vs s σ w σ' w' al) : σ'.P.length = σ.P.length + sizes al := by
  obtain ⟨N, e, hm, _⟩ := h.grow
  have := congrArg List.length hm
  rw [List.length_map, flats_length] at this
  rw [e, List.length_append, this]
theorem To.refl {base M : Nat} {vs : Value} {s : List Int} {σ : St} {w : World} (h : MkS base M vs s σ w) : To base M vs s σ w σ w [] :=
  ⟨h, ⟨[], by simp, by simp [flats], fun p hp => by simp at hp⟩, Chg.refl _ _, Or.inl rfl⟩
theorem To.trans {base M : Nat} {vs : Value} {s : List Int} {σ σ' σ'' : St} {w w' w'' : World} {al bl : List Ast} (h : To base M vs s σ w σ' w' al) (k : To base M vs s σ' w' σ'' w'' bl) : To base M vs s σ w σ'' w'' (al ++ bl) := by
  have hl := h.len
  have hs := h.but.size
  refine ⟨k.st, ?_, ⟨k.but.os.trans h.but.os, k.but.tape.trans h.but.tape, k.but.output.trans h.but.output, Nat.le_trans hs k.but.size, fun b hb hn => ⟨?_, hn⟩⟩, ?_⟩
  · obtain ⟨N, e, hm, hf⟩ := h.grow
    obtain ⟨N', e', hm', hf'⟩ := k.grow
    refine ⟨N ++ N', by rw [e', e, List.append_assoc], by rw [List.map_append, hm, hm', flats_append, hl], fun p hp hne g eg => ?_⟩
    rcases List.mem_append.1 hp with hp | hp
    · exact hf p hp hne g eg
    · exact Nat.le_trans hs (hf' p hp hne g eg)
  · refine ((k.but.both b (Nat.lt_of_lt_of_le hb hs) (fun e => ?_)).1).trans (h.but.both b hb hn).1
    rcases e with e | e
    · exact hn (Or.inl e)
    · rcases h.loc with l | ⟨g, l, hg⟩
      · exact hn (Or.inr (l.symm.trans e))
      · rw [l] at e; injection e with e; omega
  · rcases k.loc with l | ⟨g, l, hg⟩
    · rcases h.loc with l2 | ⟨g, l2, hg⟩
      · exact Or.inl (l.trans l2)
      · exact Or.inr ⟨g, l.trans l2, hg⟩
    · exact Or.inr ⟨g, l, by omega⟩
/-- Behind a step that turns nothing old. -/
theorem To.below {base M : Nat} {vs : Value} {s : List Int} {σ σ' : St} {w w' w'' : World} {al : List Ast} (h : To base M vs s σ w σ' w' al) (hb : Below w'.heap.size w' w'') : To base M vs s σ w σ' w'' al := by
  have h2 : To base M vs s σ' w' σ' w'' [] := ⟨h.st.below hb, ⟨[], by simp, by simp [flats], fun p hp => by simp at hp⟩, ⟨hb.os, hb.tape, hb.output, hb.size, fun b hlt hn => ⟨hb.block b hlt, hn⟩⟩, Or.inl rfl⟩
  have := h.trans h2
  rwa [List.append_nil] at this
/-- Behind a step that turns what came later. -/
theorem To.own {base M : Nat} {vs : Value} {s : List Int} {σ σ' : St} {w w' w'' : World} {al : List Ast} {p : Nat → Prop} (h : To base M vs s σ w σ' w' al) (hs : MkS base M vs s σ' w'') (hb : But p w' w'') (hp : ∀ k, p k → w.heap.size ≤ k) : To base M vs s σ w σ' w'' al :=
  ⟨hs, h.grow, ⟨hb.os.trans h.but.os, hb.tape.trans h.but.tape, hb.output.trans h.but.output, Nat.le_trans h.but.size hb.size, fun b hlt hn => ⟨((hb.both b (Nat.lt_of_lt_of_le hlt h.but.size) (fun e => by have := hp b e; omega)).1).trans (h.but.both b hlt hn).1, hn⟩⟩, h.loc⟩
/-- One node was added. -/
structure Ad (base M : Nat) (vs : Value) (s : List Int) (σ : St) (w : World) (σ' : St) (w' : World) (nd : NodeD) : Prop where
  st : MkS base M vs s σ' w'
  grow : ∃ vk, σ'.P = σ.P ++ [(nd, vk)] ∧ ∀ g, vk.ownBlock = some g → w.heap.size ≤ g
  but : But (fun k => k = M ∨ σ.vt.ownBlock = some k) w w'
  loc : σ'.vt.ownBlock = σ.vt.ownBlock ∨ ∃ g, σ'.vt.ownBlock = some g ∧ w.heap.size ≤ g
theorem To.add {base M : Nat} {vs : Value} {s : List Int} {σ σ' σ'' : St} {w w' w'' : World} {al : List Ast} {op n : Int} {t : List UInt8} (h : To base M vs s σ w σ' w' al) (k : Ad base M vs s σ' w' σ'' w'' (op, 0, t, n, rootsA σ.P.length al)) : To base M vs s σ w σ'' w'' [.mk op t n al] := by
  have hs := h.but.size
  refine ⟨k.st, ?_, ⟨k.but.os.trans h.but.os, k.but.tape.trans h.but.tape, k.but.output.trans h.but.output, Nat.le_trans hs k.but.size, fun b hb hn => ⟨?_, hn⟩⟩, ?_⟩
  · obtain ⟨N, e, hm, hf⟩ := h.grow
    obtain ⟨vk, e', hf'⟩ := k.grow
    refine ⟨N ++ [((op, 0, t, n, rootsA σ.P.length al), vk)], by rw [e', e, List.append_assoc], by rw [List.map_append, hm, flats_one, Ast.flat]; rfl, fun p hp hne g eg => ?_⟩
    rcases List.mem_append.1 hp with hp | hp
    · exact hf p hp hne g eg
    · simp only [List.mem_cons, List.not_mem_nil, or_false] at hp
      subst hp
      exact Nat.le_trans hs (hf' g eg)
  · refine ((k.but.both b (Nat.lt_of_lt_of_le hb hs) (fun e => ?_)).1).trans (h.but.both b hb hn).1
    rcases e with e | e
    · exact hn (Or.inl e)
    · rcases h.loc with l | ⟨g, l, hg⟩
      · exact hn (Or.inr (l.symm.trans e))
      · rw [l] at e; injection e with e; omega
  · rcases k.loc with l | ⟨g, l, hg⟩
    · rcases h.loc with l2 | ⟨g, l2, hg⟩
      · exact Or.inl (l.trans l2)
      · exact Or.inr ⟨g, l.trans l2, hg⟩
    · exact Or.inr ⟨g, l, by omega⟩
/-- A block of the caller's own, that is none of the maker's. -/
theorem To.far {base M : Nat} {vs : Value} {s : List Int} {σ σ' : St} {w w' : World} {al : List Ast} (h : To base M vs s σ w σ' w' al) {g : Nat} (hg : g < w.heap.size) (hM : g ≠ M) (ht : σ.vt.ownBlock ≠ some g) : w'.heap[g]? = w.heap[g]? ∧ σ'.vt.ownBlock ≠ some g := by
  refine ⟨(h.but.both g hg (fun e => e.elim hM ht)).1, fun e => ?_⟩
  rcases h.loc with l | ⟨g', l, hg'⟩
  · exact ht (l.symm.trans e)
  · rw [l] at e; injection e with e; omega
/-- A row of numbers of the caller's own. -/
structure Ow (base b : Nat) (v : Value) (n : Nat) (l : List Int) (M : Nat) (σ : St) (w : World) : Prop where
  row : w.ownsRow b 3 1 v n (l.map (Value.int .i64))
  hb : base ≤ b
  neM : ∀ g, v.ownBlock = some g → g ≠ M
  neT : ∀ g, v.ownBlock = some g → σ.vt.ownBlock ≠ some g
  neK : ∀ p ∈ σ.P, p.1.2.2.2.2 ≠ [] → ∀ g, p.2.ownBlock = some g → v.ownBlock ≠ some g
theorem Ow.nil (base b M : Nat) (σ : St) (w : World) (hb : base ≤ b) : Ow base b (.slice none 0 0) 0 [] M σ w :=
  ⟨World.ownsRow_nil _ _ _ _, hb, fun g e => by simp [Value.ownBlock] at e, fun g e => by simp [Value.ownBlock] at e, fun p hp hne g e => by simp [Value.ownBlock]⟩
theorem Ow.to {base b M n : Nat} {v vs : Value} {l s : List Int} {σ σ' : St} {w w' : World} {al : List Ast} (h : Ow base b v n l M σ w) (k : To base M vs s σ w σ' w' al) : Ow base b v n l M σ' w' := by
  refine ⟨own_but h.row k.but (fun g e e2 => e2.elim (h.neM g e) (h.neT g e)), h.hb, h.neM, fun g e => (k.far (h.row.lt g e).2 (h.neM g e) (h.neT g e)).2, fun p hp hne g e e2 => ?_⟩
  obtain ⟨N, eN, _, hf⟩ := k.grow
  rw [eN] at hp
  rcases List.mem_append.1 hp with hp | hp
  · exact h.neK p hp hne g e e2
  · have h1 := hf p hp hne g e
    have h2 := (h.row.lt g e2).2
    omega
theorem Ow.app {base b M n : Nat} {v vs : Value} {l s : List Int} {σ : St} {w w' : World} {g c : Nat} {k : Int} (h : Ow base b v n l M σ w) (hs : MkS base M vs s σ w) (hown : w'.ownsRow b 3 1 (.slice (some ⟨g, 0, none⟩) (n + 1) c) (n + 1) ((l ++ [k]).map (Value.int .i64)))
    (hb : But (fun k => v.ownBlock = some k) w w') (hg : some g = v.ownBlock ∨ w.heap.size ≤ g) : MkS base M vs s σ w' ∧ Ow base b (.slice (some ⟨g, 0, none⟩) (n + 1) c) (n + 1) (l ++ [k]) M σ w' := by
  refine ⟨hs.but hb (fun e => h.neM M e rfl) (fun g e e2 => h.neT g e2 e) (fun q hq hne g e e2 => h.neK q hq hne g e e2) (fun g e => Nat.le_trans h.hb (h.row.lt g e).1), hown, h.hb, fun g' e => ?_, fun g' e e2 => ?_, fun p hp hne g' e e2 => ?_⟩
  · simp only [Value.ownBlock, Option.some.injEq] at e
    subst e
    rcases hg with e | e
    · exact h.neM g e.symm
    · have := hs.lt; omega
  · simp only [Value.ownBlock, Option.some.injEq] at e
    subst e
    rcases hg with e | e
    · exact h.neT g e.symm e2
    · have := (hs.row.1.lt g e2).2; omega
  · simp only [Value.ownBlock, Option.some.injEq] at e2
    subst e2
    rcases hg with e3 | e3
    · exact h.neK p hp hne g e e3.symm
    · have := (hs.row.2 p hp).1.lt hne g e; omega
end Go.Proofs.YtkmmcphiijolkaaGreatDoor

set_option linter.unusedVariables false
set_option linter.unusedSimpArgs false
namespace Go.Proofs.YtkmmcphiijolkaaGreatDoor
open Go.RowKit Go.Shelf
open Tr

theorem but_below {p : Nat → Prop} {w w' : World} (h : Below w.heap.size w w') : But p w w' := ⟨h.os, h.tape, h.output, h.size, fun k hk hn => ⟨h.block k hk, hn⟩⟩
theorem MkS.at1 {base M : Nat} {vs : Value} {s : List Int} {σ : St} {w w' : World} (h : MkS base M vs s σ w) (hlt : σ.at_ < s.length) (hb : But (fun k => k = M) w w')
    (hM : w'.heap[M]? = some (.cells #[vs, .int .i64 ((σ.at_ : Int) + 1), σ.vt, .int .i64 (160 - (σ.P.length : Int))] 53 (0, 0))) : To base M vs s σ w ⟨σ.at_ + 1, σ.vt, σ.P⟩ w' [] :=
  ⟨⟨hM, h.row.but2 hb (fun g e => h.ne g e) (fun q hq hne g e => h.kid q hq hne g e), h.hb, h.ne, h.kid, h.src.same hb.size (fun hne g e hlt => (hb.both g hlt (fun e2 => by have := h.srclt hne g e; have := h.hb; omega)).1), h.srclt, h.form, hlt, h.wf, h.sl⟩,
    ⟨[], by simp, by simp [flats], fun p hp => by simp at hp⟩, hb.more (fun _ _ e => Or.inl e), Or.inl rfl⟩

set_option maxHeartbeats 8000000 in
set_option maxRecDepth 100000 in
theorem next_any (base M : Nat) (vs : Value) (s : List Int) (σ : St) (w : World) (hS : MkS base M vs s σ w) (n : Int) (hn : 1 ≤ n) (hn2 : n ≤ 1000) :
    Calls Tryz.prog 23 #[.pointer (some ⟨M, 0, none⟩), .int .i64 n] w fun e w' => ∃ (r : Nat) (σ' : St), e = .returned (.int .i64 (r : Int)) ∧ (r : Int) < n ∧ Hid (To base M vs s σ w σ' w' []) := by
  have HS := Lib.hid hS
  have hsl := hS.sl
  have hat := hS.hat
  have hml := hS.lt
  have c0 := hS.cell 0
  have c1 := hS.cell 1
  simp only [List.getElem?_toArray, List.getElem?_cons_succ, List.getElem?_cons_zero] at c0 c1
  have f1 := frozen_of_block hS.blk 1
  obtain ⟨pv, cv, rfl, fv⟩ := hS.src
  obtain ⟨q, hq⟩ : ∃ q, q = s.length := ⟨_, rfl⟩
  obtain ⟨at_, vt, P⟩ := σ
  simp only at hat c1
  rw [← hq] at hsl hat c0
  have hq63 : q ≤ 9223372036854775807 := by unfold maxLen at hsl; omega
  by_cases hlt : at_ < q
  · obtain ⟨x, hx⟩ : ∃ x, s[at_]? = some x := ⟨_, List.getElem?_eq_getElem (by omega)⟩
    obtain ⟨g, o, rfl, hg, xc⟩ := fv.1 at_ x hx
    have hwf := hS.wf x (List.mem_of_getElem? hx)
    have h1 := Int.lt_tmod_of_pos x (show 0 < n by omega)
    have h2 := Int.tmod_lt_of_pos x (show 0 < n by omega)
    have hr := rest_tmod x n
    have hn0 : (n == 0) = false := by simp; omega
    have hr0 := Int.emod_nonneg x (show n ≠ 0 by omega)
    have hr1 := Int.emod_lt_of_pos x (show 0 < n by omega)
    have HR := Lib.hid hr
    have HR0 := Lib.hid hr0
    have HR1 := Lib.hid hr1
    have haw : IntKind.i64.wrap ((at_ : Int) + 1) = (at_ : Int) + 1 := IntWalk.i64_in _ (by omega)
    have hqi : ¬ (q : Int) ≤ (at_ : Int) := by omega
    have hqj : (at_ : Int) < (q : Int) := by omega
    have HQ := Lib.hid hq
    clear hr hr0 hr1 hx hS fv hq hwf hat
    go_enter Tryz.func23, Tryz.ntmps23
    go_wp2_with fail
    go_quiet (fail)
    go_wp2_with fail
    go_quiet (fail)
    go_wp2_with fail
    go_ret
    refine ⟨(x % n).toNat, ⟨at_ + 1, vt, P⟩, ?_, ?_, ?_⟩
    · rw [Int.toNat_of_nonneg HR0.out, ← HR.out]; rfl
    · rw [Int.toNat_of_nonneg HR0.out]; exact HR1.out
    · show To _ _ _ _ _ _ _ _ _
      refine MkS.at1 HS.out (by rw [← HQ.out]; exact hlt) (But.setCell (p := fun k => k = M) (but_below (below_drewN (Below.refl _ _) _)) (x := ⟨M, 1, none⟩) (fun _ => rfl) _) ?_
      rw [heap_setCell_same _ _ _ _ _ _ (show (w.drewN _).heap[M]? = _ from HS.out.blk)]
      rfl
  · obtain rfl : at_ = q := by omega
    have HQ := Lib.hid hq
    clear hS fv hq hat
    go_enter Tryz.func23, Tryz.ntmps23
    go_wp2_with fail
    go_quiet (fail)
    go_wp2_with fail
    go_ret
    exact ⟨0, ⟨at_, vt, P⟩, rfl, by omega, (To.refl HS.out).below (below_drewN (Below.refl _ _) _)⟩
end Go.Proofs.YtkmmcphiijolkaaGreatDoor

set_option linter.unusedVariables false
set_option linter.unusedSimpArgs false
namespace Go.Proofs.YtkmmcphiijolkaaGreatDoor
open Go.RowKit Go.Shelf
open Tr

theorem Ad.of {base M : Nat} {vs : Value} {s : List Int} {σ : St} {w W1 W2 w5 : World} (h : MkS base M vs s σ w) (h1 : But (fun k => k = M) w W1) (h2 : Below W1.heap.size W1 W2) {g5 c5 m : Nat} {nd : NodeD} {vk : Value} {lf : Int}
    (hT5 : TRow base (.slice (some ⟨g5, 0, none⟩) (m + 1) c5) (σ.P ++ [(nd, vk)]) w5) (hB5 : But (fun k => σ.vt.ownBlock = some k) W2 w5) (hG5 : some g5 = σ.vt.ownBlock ∨ W2.heap.size ≤ g5)
    (hM5 : w5.heap[M]? = some (.cells #[vs, .int .i64 (σ.at_ : Int), σ.vt, .int .i64 lf] 53 (0, 0))) (hm : m = σ.P.length) (hlf : lf = 160 - (m : Int) - 1) (hvk : ∀ g, vk.ownBlock = some g → w.heap.size ≤ g) :
    Ad base M vs s σ w ⟨σ.at_, .slice (some ⟨g5, 0, none⟩) (m + 1) c5, σ.P ++ [(nd, vk)]⟩ (w5.setCell ⟨M, 2, none⟩ (.slice (some ⟨g5, 0, none⟩) (m + 1) c5)) nd := by
  have hml := h.lt
  have hs1 := h1.size
  have hs2 := h2.size
  have hs5 := hB5.size
  have hg5 : ∀ g, (Value.slice (some ⟨g5, 0, none⟩) (m + 1) c5).ownBlock = some g → g ≠ M := by
    intro g e
    simp only [Value.ownBlock, Option.some.injEq] at e
    subst e
    rcases hG5 with e | e
    · exact h.ne g5 e.symm
    · omega
  have hall : But (fun k => k = M ∨ σ.vt.ownBlock = some k) w w5 := ⟨hB5.os.trans (h2.os.trans h1.os), hB5.tape.trans (h2.tape.trans h1.tape), hB5.output.trans (h2.output.trans h1.output), by omega, fun k hk hn => ⟨((hB5.both k (by omega) (fun e => hn (Or.inr e))).1).trans ((h2.block k (by omega)).trans (h1.both k hk (fun e => hn (Or.inl e))).1), hn⟩⟩
  have hkid : ∀ q ∈ σ.P ++ [(nd, vk)], q.1.2.2.2.2 ≠ [] → ∀ g, q.2.ownBlock = some g → g ≠ M := fun q hq hne g e => by
    rcases List.mem_append.1 hq with hq | hq
    · exact h.kid q hq hne g e
    · simp only [List.mem_cons, List.not_mem_nil, or_false] at hq
      subst hq
      have := hvk g e
      omega
  have hset : But (fun k => k = M) w5 (w5.setCell ⟨M, 2, none⟩ (.slice (some ⟨g5, 0, none⟩) (m + 1) c5)) := But.setCell (p := fun k => k = M) (Chg.refl _ w5) (x := ⟨M, 2, none⟩) (fun _ => rfl) _
  refine ⟨⟨?_, hT5.but2 hset hg5 hkid, h.hb, hg5, hkid, ?_, h.srclt, ⟨some ⟨g5, 0, none⟩, c5, by simp [hm]⟩, h.hat, h.wf, h.sl⟩, ⟨vk, rfl, hvk⟩, ?_, ?_⟩
  · rw [heap_setCell_same _ _ _ _ _ _ hM5]
    simp [hm, hlf]
    omega
  · exact h.src.same (Nat.le_trans hall.size hset.size) (fun hne g e hlt => ((hset.both g (by omega) (fun e2 => by have := h.srclt hne g e; have := h.hb; omega)).1).trans (hall.both g hlt (fun e2 => by
      have h3 := h.srclt hne g e
      rcases e2 with e2 | e2
      · have := h.hb; omega
      · have := (h.row.1.lt g e2).1; omega)).1)
  · exact But.setCell (p := fun k => k = M ∨ σ.vt.ownBlock = some k) hall (x := ⟨M, 2, none⟩) (fun _ => Or.inl rfl) _
  · rcases hG5 with e | e
    · exact Or.inl e
    · exact Or.inr ⟨g5, rfl, by omega⟩

set_option maxRecDepth 100000 in
/-- A row of numbers is appended to an empty one that was written out, in a region that draws its order. -/
theorem step_kapp {ops : Array Oper} {o : Oper} {a : Act} {K : Act → World → Prop} {Q' : Exit → Act → World → Prop} {E : Prop} (hgd : o.guard = none) (s x : Operand)
    (ho : o.op = .call { callee := .builtin .append, args := #[s, x], argTypes := #[24, 24] }) (b : Nat) (w : World) (hb : w.heap[b]? = some (.cells #[] 3 (0, 0))) (gk ok ck q : Nat) (ks : List Int) (hk : KRow (.slice (some ⟨gk, ok, none⟩) q ck) ks w) (hq : q = ks.length) (hq0 : 0 < q) (hql : q ≤ 1000000)
    (hs : a.eval s = .slice (some ⟨b, 0, none⟩) 0 0) (hx : a.eval x = .slice (some ⟨gk, ok, none⟩) q ck)
    (h : ∀ g c w', Hid (KRow (.slice (some ⟨g, 0, none⟩) q c) ks w') → Hid (But (fun k => k = b) w w') → Hid (g = b ∨ w.heap.size ≤ g) → K (a.put o.dst (.slice (some ⟨g, 0, none⟩) q c)) w') :
    if Region.wanted o (yielded ops a.tmps) = true then Oper.wp Tryz.prog o a w K Q' else E := by
  obtain ⟨i0, hi, hz0, hz1, hz2⟩ := info_parts infoInt
  have hown : w.ownsRow b 3 1 (.slice (some ⟨b, 0, none⟩) 0 0) 0 [] := ⟨rfl, Or.inr ⟨b, 0, #[], rfl, Nat.le_refl _, hb, Nat.le_refl _, by unfold maxLen; omega, rfl, rfl⟩⟩
  have hblt : b < w.heap.size := (Array.getElem?_eq_some_iff.1 hb).1
  refine step_append_lies _ hgd s x 24 ho b 3 i0 _ 1 8 Tryz.underlying24 hi hz0 hz1 hz2 rfl (by decide) _ 0 [] hs hown ⟨gk, ok, none⟩ q ck (ks.map (Value.int .i64)) hx (by rw [List.length_map, hq, Nat.mul_one]) ?_ ?_ hq0 (by unfold maxLen; omega) (by omega) (by omega) w.heap.size rfl ?_
  · intro j u hu
    rw [List.getElem?_map] at hu
    cases hj : ks[j]? with
    | none => rw [hj] at hu; simp at hu
    | some c =>
      rw [hj] at hu
      simp only [Option.map_some, Option.some.injEq] at hu
      subst hu
      obtain ⟨_, _, e, hc⟩ := hk
      obtain ⟨g', o', e2, _, hcell⟩ := hc.1 j c hj
      injection e with e1 _ _
      rw [← e1] at e2
      injection e2 with e2
      injection e2 with e3 e4
      subst e3
      subst e4
      have e5 : ((⟨gk, ok, none⟩ : Addr).add j) = ⟨gk, ok + j, none⟩ := by unfold Addr.add; split <;> simp_all
      rw [e5]
      exact hcell
  · intro u hu
    obtain ⟨c, _, rfl⟩ := List.mem_map.1 hu
    rfl
  · intro g c w' hown' hgrow hat hlt
    rw [Nat.zero_add, List.nil_append] at hown'
    rw [Nat.zero_add]
    refine h g c w' (show KRow _ _ _ from own_krowI hown') (show But _ _ _ from ⟨hgrow.os, hgrow.tape, hgrow.output, hgrow.size, fun k hk hn => ⟨hgrow.block k hk (fun e => hn (by simpa [Value.ownBlock] using e)), hn⟩⟩) ?_
    show _ ∨ _
    rcases hat with e | e
    · left
      simp only [Value.ownBlock, Option.some.injEq] at e
      exact e.symm
    · right; omega

set_option maxHeartbeats 8000000 in
set_option maxRecDepth 100000 in
theorem add_any (base M : Nat) (vs : Value) (s : List Int) (σ : St) (w : World) (hS : MkS base M vs s σ w) (op n : Int) (t : ByteArray) (kv : Value) (ks : List Int) (hk : KRow kv ks w) (hkM : ks ≠ [] → ∀ g, kv.ownBlock = some g → g ≠ M) (hkl : ks.length ≤ 1000000) (hP : σ.P.length + 1 ≤ 1000000) :
    Calls Tryz.prog 25 #[.pointer (some ⟨M, 0, none⟩), .int .i64 op, .string t, .int .i64 n, kv] w fun e w' => ∃ σ' : St, e = .returned (.int .i64 (σ.P.length : Int)) ∧ Hid (Ad base M vs s σ w σ' w' (op, 0, t.data.toList, n, ks)) := by
  have HS := Lib.hid hS
  have HK := Lib.hid hk
  have hml := hS.lt
  have c2 := hS.cell 2
  have c3 := hS.cell 3
  simp only [List.getElem?_toArray, List.getElem?_cons_succ, List.getElem?_cons_zero] at c2 c3
  have f2 := frozen_of_block hS.blk 2
  have f3 := frozen_of_block hS.blk 3
  obtain ⟨pt, ct, evt⟩ := hS.form
  obtain ⟨at_, vt, P⟩ := σ
  simp only at evt hP c2 c3
  subst evt
  obtain ⟨m, hm⟩ : ∃ m, m = P.length := ⟨_, rfl⟩
  have HM := Lib.hid hm
  obtain ⟨pk, ck, rfl, fk⟩ := hk
  obtain ⟨q, hq⟩ : ∃ q, q = ks.length := ⟨_, rfl⟩
  have HQ := Lib.hid hq
  simp only
  rw [← hm] at c2 c3 hP ⊢
  rw [← hq] at hkl ⊢
  have hlw : IntKind.i64.wrap (160 - (m : Int) - 1) = 160 - (m : Int) - 1 := IntWalk.i64_in _ (by omega)
  have hmw : IntKind.i64.wrap ((m : Int) + 1 - 1) = (m : Int) + 1 - 1 := IntWalk.i64_in _ (by omega)
  have HKM : Hid (ks ≠ [] → ∀ g, (Value.slice pk q ck).ownBlock = some g → g ≠ M) := (show ks ≠ [] → ∀ g, (Value.slice pk q ck).ownBlock = some g → g ≠ M by rw [hq]; exact hkM)
  clear hS fk hm hq hkM
  have hT1 : TRow base (.slice pt m ct) P (w.setCell ⟨M, 3, none⟩ (.int .i64 (160 - (m : Int) - 1))) := by
    have := HS.out.row.but2 (But.setCell (p := fun k => k = M) (Chg.refl _ w) (x := ⟨M, 3, none⟩) (fun _ => rfl) (.int .i64 (160 - (m : Int) - 1))) (fun g e => HS.out.ne g e) (fun q hq hne g e => HS.out.kid q hq hne g e)
    simp only at this
    rwa [← HM.out] at this
  have hM1 : (w.setCell ⟨M, 3, none⟩ (.int .i64 (160 - (m : Int) - 1))).heap[M]? = some (.cells #[vs, .int .i64 (at_ : Int), .slice pt m ct, .int .i64 (160 - (m : Int) - 1)] 53 (0, 0)) := by
    rw [heap_setCell_same _ _ _ _ _ _ HS.out.blk]
    simp only
    rw [← HM.out]
    rfl
  have hK1 : KRow (.slice pk q ck) ks (w.setCell ⟨M, 3, none⟩ (.int .i64 (160 - (m : Int) - 1))) := by
    have := HK.out
    rw [← HQ.out] at this
    exact this.same (by simp) (fun hne g e hlt => Below.heap_setCell w ⟨M, 3, none⟩ _ g (HKM.out hne g e))
  obtain ⟨W1, hW1⟩ : ∃ W1, W1 = w.setCell ⟨M, 3, none⟩ (.int .i64 (160 - (m : Int) - 1)) := ⟨_, rfl⟩
  have hs1 : W1.heap.size = w.heap.size := by rw [hW1]; simp
  rw [← hW1] at hT1 hM1 hK1
  have d2 := cell_of_row W1 M 2 _ _ _ hM1
  have g2 := frozen_of_block hM1 2
  simp only [List.getElem?_toArray, List.getElem?_cons_succ, List.getElem?_cons_zero] at d2
  have HNE : Hid (∀ g, (Value.slice pt m ct).ownBlock = some g → g ≠ M) := by
    have := HS.out.ne
    simp only at this
    rw [← HM.out] at this
    exact this
  have HSm : Hid (MkS base M vs s ⟨at_, .slice pt m ct, P⟩ w) := by
    have := HS.out
    rw [← HM.out] at this
    exact this
  have HC1 : Hid (But (fun k => k = M) w W1) := by
    rw [hW1]
    exact But.setCell (p := fun k => k = M) (Chg.refl _ w) (x := ⟨M, 3, none⟩) (fun _ => rfl) _
  have HT1 := Lib.hid hT1
  have HM1 := Lib.hid hM1
  have HK1 := Lib.hid hK1
  have HS1 := Lib.hid hs1
  have HW1 := Lib.hid hW1
  clear hT1 hM1 hK1 hs1
  by_cases hq0 : q = 0
  · subst hq0
    go_enter Tryz.func25, Tryz.ntmps25
    go_wp2_with fail
    rw [← hW1]
    clear hW1 c2 c3 f2 f3
    have hb3 : Below W1.heap.size W1 ((W1.alloc (.cells #[] 3)).drew) := ((Below.refl _ _).alloc (Nat.le_refl _) _).drew
    have HB3 := Lib.hid hb3
    have hks : ks = [] := List.eq_nil_of_length_eq_zero HQ.out.symm
    have HKS := Lib.hid hks
    have hbs : base ≤ W1.heap.size := by have := HS.out.hb; have := HS1.out; omega
    have e2 : ((W1.alloc (.cells #[] 3)).drew).cell? ⟨M, 2, none⟩ = some (.slice pt m ct) := (hb3.cell (p := ⟨M, 2, none⟩) (by show M < _; have := HS1.out; omega)).trans d2
    have e3 : ∀ o : Obj, (((W1.alloc (.cells #[] 3)).alloc o).drew).cell? ⟨M, 2, none⟩ = some (.slice pt m ct) := fun o => ((hb3.alloc hb3.size o).cell (p := ⟨M, 2, none⟩) (by show M < _; have := HS1.out; omega)).trans d2
    clear hb3 hks
    cases pk with
    | none =>
      go_region_law (refine step_tapp (by rfl) _ _ (by rfl) base _ P ((W1.alloc (.cells #[] 3)).drew) (HT1.out.below HB3.out) (Nat.le_trans hbs HB3.out.size) _ ((Below.refl _ _).alloc (Nat.le_refl _) _) (by simp) [((op, 0, t.data.toList, n, []), .slice (some ⟨W1.heap.size, 0, none⟩) 0 0)] m 1 HM.out.symm rfl (by decide) _ (heap_alloc_new _ _) (by simp [flatT, flatN]) (by rfl) (by first | rfl | (simp; done) | (simp; rfl)) (by intro q hq; simp only [List.mem_cons, List.not_mem_nil, or_false] at hq; subst hq; exact ⟨⟨_, 0, rfl, fun k c hk => by simp at hk, Nat.le_refl _⟩, fun h => absurd rfl h⟩) (by omega) ?_; intro g5 c5 w5 HT5 HL5 HB5 HG5; have hM5 := ((HB5.out.both M (by have := HB3.out.size; have := HS1.out; omega) (fun e => HNE.out M e rfl)).1).trans ((HB3.out.block M (by have := HS1.out; omega)).trans HM1.out); have d5 := cell_of_row w5 M 2 _ _ _ hM5; simp only [List.getElem?_toArray, List.getElem?_cons_succ, List.getElem?_cons_zero] at d5; have k5 := frozen_of_block hM5 2; have HM5 := Lib.hid hM5; clear hM5)
      all_goals go_wp2_with fail
      all_goals go_ret
      all_goals (refine ⟨⟨at_, .slice (some ⟨g5, 0, none⟩) (m + 1) c5, P ++ [((op, 0, t.data.toList, n, []), .slice (some ⟨W1.heap.size, 0, none⟩) 0 0)]⟩, rfl, ?_⟩; rw [HKS.out]; exact Ad.of HSm.out HC1.out HB3.out HT5.out HB5.out HG5.out HM5.out HM.out rfl (fun g e => by simp only [Value.ownBlock, Option.some.injEq] at e; have := HS1.out; omega))
    | some pk =>
      go_region_law (refine step_tapp (by rfl) _ _ (by rfl) base _ P ((W1.alloc (.cells #[] 3)).drew) (HT1.out.below HB3.out) (Nat.le_trans hbs HB3.out.size) _ ((Below.refl _ _).alloc (Nat.le_refl _) _) (by simp) [((op, 0, t.data.toList, n, []), .slice (some ⟨W1.heap.size, 0, none⟩) 0 0)] m 1 HM.out.symm rfl (by decide) _ (heap_alloc_new _ _) (by simp [flatT, flatN]) (by rfl) (by first | rfl | (simp; done) | (simp; rfl)) (by intro q hq; simp only [List.mem_cons, List.not_mem_nil, or_false] at hq; subst hq; exact ⟨⟨_, 0, rfl, fun k c hk => by simp at hk, Nat.le_refl _⟩, fun h => absurd rfl h⟩) (by omega) ?_; intro g5 c5 w5 HT5 HL5 HB5 HG5; have hM5 := ((HB5.out.both M (by have := HB3.out.size; have := HS1.out; omega) (fun e => HNE.out M e rfl)).1).trans ((HB3.out.block M (by have := HS1.out; omega)).trans HM1.out); have d5 := cell_of_row w5 M 2 _ _ _ hM5; simp only [List.getElem?_toArray, List.getElem?_cons_succ, List.getElem?_cons_zero] at d5; have k5 := frozen_of_block hM5 2; have HM5 := Lib.hid hM5; clear hM5)
      all_goals go_wp2_with fail
      all_goals go_ret
      all_goals (refine ⟨⟨at_, .slice (some ⟨g5, 0, none⟩) (m + 1) c5, P ++ [((op, 0, t.data.toList, n, []), .slice (some ⟨W1.heap.size, 0, none⟩) 0 0)]⟩, rfl, ?_⟩; rw [HKS.out]; exact Ad.of HSm.out HC1.out HB3.out HT5.out HB5.out HG5.out HM5.out HM.out rfl (fun g e => by simp only [Value.ownBlock, Option.some.injEq] at e; have := HS1.out; omega))
  · obtain ⟨k0, hk0⟩ : ∃ k, ks[0]? = some k := ⟨_, List.getElem?_eq_getElem (by have := HQ.out; omega)⟩
    obtain ⟨_, _, e0, hc0⟩ := HK1.out
    obtain ⟨gk, ok, e1, _, _⟩ := hc0.1 0 k0 hk0
    injection e0 with e0 e0b e0c
    rw [← e0] at e1
    subst e1
    clear e0b e0c
    have hqp : 0 < q := by omega
    have hb3 : Below W1.heap.size W1 ((W1.alloc (.cells #[] 3)).drew) := ((Below.refl _ _).alloc (Nat.le_refl _) _).drew
    have HB3 := Lib.hid hb3
    have HK3 := Lib.hid (HK1.out.below hb3)
    have hbs : base ≤ W1.heap.size := by have := HS.out.hb; have := HS1.out; omega
    have hM1s : M < W1.heap.size := by have := HS1.out; omega
    have e2 : ((W1.alloc (.cells #[] 3)).drew).cell? ⟨M, 2, none⟩ = some (.slice pt m ct) := (hb3.cell (p := ⟨M, 2, none⟩) hM1s).trans d2
    clear hb3 e0 hc0 hk0 hq0
    go_enter Tryz.func25, Tryz.ntmps25
    go_wp2_with fail
    rw [← hW1]
    clear hW1 c2 c3 f2 f3
    go_region_law (first
      | (refine step_kapp (by rfl) _ _ (by rfl) W1.heap.size ((W1.alloc (.cells #[] 3)).drew) (heap_alloc_new W1 _) gk ok ck q ks HK3.out HQ.out hqp hkl (by rfl) (by rfl) ?_; intro g8 c8 w8 HK8 HB8 HG8; have hw8 : Below W1.heap.size W1 w8 := HB3.out.trans (HB8.out.below HB3.out.size (fun b hb e => by omega)); have HW8 := Lib.hid hw8; have d8 := (hw8.cell (p := ⟨M, 2, none⟩) hM1s).trans d2; have d9 : ∀ o : Obj, (w8.alloc o).cell? ⟨M, 2, none⟩ = some (.slice pt m ct) := (fun o => ((hw8.alloc hw8.size o).cell (p := ⟨M, 2, none⟩) hM1s).trans d2); clear hw8)
      | (refine step_tapp (by rfl) _ _ (by rfl) base _ P w8 (HT1.out.below HW8.out) (Nat.le_trans hbs HW8.out.size) _ ((Below.refl _ _).alloc (Nat.le_refl _) _) (by simp) [((op, 0, t.data.toList, n, ks), .slice (some ⟨g8, 0, none⟩) q c8)] m 1 HM.out.symm rfl (by decide) _ (heap_alloc_new _ _) (by simp [flatT, flatN]) (by rfl) (by first | rfl | (simp; done) | (simp; rfl)) (by intro q hq; simp only [List.mem_cons, List.not_mem_nil, or_false] at hq; subst hq; exact ⟨HK8.out, fun _ g e e2 => by simp only [Value.ownBlock, Option.some.injEq] at e; have h1 := (HT1.out.1.lt g e2).2; have h2 := HG8.out; have h3 := HB3.out.size; omega⟩) (by omega) ?_; intro g5 c5 w5 HT5 HL5 HB5 HG5; have hM5 := ((HB5.out.both M (by have := HW8.out.size; omega) (fun e => HNE.out M e rfl)).1).trans ((HW8.out.block M hM1s).trans HM1.out); have d5 := cell_of_row w5 M 2 _ _ _ hM5; simp only [List.getElem?_toArray, List.getElem?_cons_succ, List.getElem?_cons_zero] at d5; have k5 := frozen_of_block hM5 2; have HM5 := Lib.hid hM5; clear hM5))
    all_goals go_wp2_with fail
    all_goals go_ret
    all_goals (refine ⟨⟨at_, .slice (some ⟨g5, 0, none⟩) (m + 1) c5, P ++ [((op, 0, t.data.toList, n, ks), .slice (some ⟨g8, 0, none⟩) q c8)]⟩, rfl, ?_⟩; exact Ad.of HSm.out HC1.out HW8.out HT5.out HB5.out HG5.out HM5.out HM.out rfl (fun g e => by simp only [Value.ownBlock, Option.some.injEq] at e; have h2 := HG8.out; have h3 := HB3.out.size; have := HS1.out; omega))
end Go.Proofs.YtkmmcphiijolkaaGreatDoor

set_option linter.unusedVariables false
set_option linter.unusedSimpArgs false
namespace Go.Proofs.YtkmmcphiijolkaaGreatDoor
open Go.RowKit Go.Shelf
open Tr

/-- A text of a row that was written out, behind steps of the maker. -/
theorem pick_text {base M : Nat} {vs : Value} {s : List Int} {σ σ' : St} {w0 w2 : World} {al : List Ast} {cs : Array Value} {T : TypeId} (hS : MkS base M vs s σ w0) (hT : To base M vs s σ (w0.alloc (.cells cs T)) σ' w2 al) (L : List Sp.Bs) (hcs : cs = (L.map fun x => Value.string ⟨x.toArray⟩).toArray) (r : Nat) (hr : r < L.length) :
    ∃ x ∈ L, w2.cell? ⟨w0.heap.size, r, none⟩ = some (.string ⟨x.toArray⟩) := by
  have h1 := (hT.far (g := w0.heap.size) (by simp) (by have := hS.lt; omega) (fun e => by have := (hS.row.1.lt _ e).2; omega)).1
  rw [heap_alloc_new] at h1
  refine ⟨L[r], List.getElem_mem hr, ?_⟩
  rw [cell_of_row w2 w0.heap.size r cs T (0, 0) h1, hcs]
  simp [hr]
theorem pick_int {base M : Nat} {vs : Value} {s : List Int} {σ σ' : St} {w0 w2 : World} {al : List Ast} {cs : Array Value} {T : TypeId} (hS : MkS base M vs s σ w0) (hT : To base M vs s σ (w0.alloc (.cells cs T)) σ' w2 al) (L : List Int) (hcs : cs = (L.map fun x => Value.int .i64 x).toArray) (r : Nat) (hr : r < L.length) :
    ∃ x ∈ L, w2.cell? ⟨w0.heap.size, r, none⟩ = some (.int .i64 x) := by
  have h1 := (hT.far (g := w0.heap.size) (by simp) (by have := hS.lt; omega) (fun e => by have := (hS.row.1.lt _ e).2; omega)).1
  rw [heap_alloc_new] at h1
  refine ⟨L[r], List.getElem_mem hr, ?_⟩
  rw [cell_of_row w2 w0.heap.size r cs T (0, 0) h1, hcs]
  simp [hr]
/-- Ahead of the steps memory was made. -/
theorem To.after {base M : Nat} {vs : Value} {s : List Int} {σ σ' : St} {w w1 w' : World} {al : List Ast} (h : MkS base M vs s σ w) (hb : Below w.heap.size w w1) (k : To base M vs s σ w1 σ' w' al) : To base M vs s σ w σ' w' al := by
  have := ((To.refl h).below hb).trans k
  rwa [List.nil_append] at this

namespace Tr
def nm8 : List Sp.Bs := [[97], [98], [99], [102], [103], [75], [101], [120]]
def nm16 : List Sp.Bs := [[112, 114, 105, 110, 116], [108, 101, 110], [114, 97, 110, 103, 101], [115, 116, 114], [86, 97, 108, 117, 101, 69, 114, 114, 111, 114], [75, 101, 121, 69, 114, 114, 111, 114], [69, 120, 99, 101, 112, 116, 105, 111, 110], [110, 101, 120, 116], [105, 116, 101, 114], [108, 105, 118, 101], [99, 111, 108, 108, 101, 99, 116], [119, 101, 97, 107], [100, 101, 114, 101, 102], [83, 116, 111, 112, 73, 116, 101, 114, 97, 116, 105, 111, 110], [84, 121, 112, 101, 69, 114, 114, 111, 114], [105, 115, 105, 110, 115, 116, 97, 110, 99, 101]]
/-- Expressions as the maker makes them, so deep. -/
inductive EOk : Nat → Ast → Prop
  | int (d : Nat) (n : Int) (h : 0 ≤ n ∧ n < 5) : EOk d (.mk 4 [] n [])
  | name (d : Nat) (t : Sp.Bs) (h : t ∈ nm8 ∨ t ∈ nm16) : EOk d (.mk 6 t 0 [])
  | str (d : Nat) (t : Sp.Bs) (h : t.length ≤ 3) : EOk d (.mk 5 t 0 [])
  | lit (d : Nat) (o : Int) (h : o = 1 ∨ o = 2 ∨ o = 3) : EOk d (.mk o [] 0 [])
  | bin (d : Nat) (t : Sp.Bs) (a b : Ast) (h : sArith t = true) (ha : EOk d a) (hb : EOk d b) : EOk (d + 1) (.mk 12 t 0 [a, b])
  | cmp (d : Nat) (t : Sp.Bs) (a b : Ast) (h : sComp t = true) (ha : EOk d a) (hb : EOk d b) : EOk (d + 1) (.mk 13 t 0 [a, b])
  | pair (d : Nat) (o : Int) (a b : Ast) (h : o = 14 ∨ o = 15 ∨ o = 19) (ha : EOk d a) (hb : EOk d b) : EOk (d + 1) (.mk o [] 0 [a, b])
  | one (d : Nat) (o : Int) (a : Ast) (h : o = 10 ∨ o = 11) (ha : EOk d a) : EOk (d + 1) (.mk o [] 0 [a])
  | row (d : Nat) (o : Int) (l : List Ast) (h : o = 7 ∨ o = 8) (hl : ∀ a ∈ l, EOk d a) : EOk (d + 1) (.mk o [] 0 l)
  | dict (d : Nat) (l : List Ast) (h : l.length % 2 = 0) (hl : ∀ a ∈ l, EOk d a) : EOk (d + 1) (.mk 9 [] 0 l)
  | call (d : Nat) (l : List Ast) (h : 0 < l.length) (hl : ∀ a ∈ l, EOk d a) : EOk (d + 1) (.mk 17 [] 0 l)
  | attr (d : Nat) (t : Sp.Bs) (a : Ast) (h : sName t = true) (ha : EOk d a) : EOk (d + 1) (.mk 18 t 0 [a])
  | three (d : Nat) (o : Int) (a b c : Ast) (h : o = 16 ∨ o = 20) (ha : EOk d a) (hb : EOk d b) (hc : EOk d c) : EOk (d + 1) (.mk o [] 0 [a, b, c])
  | lam (d : Nat) (t : Sp.Bs) (a : Ast) (h : t ∈ nm8) (ha : EOk d a) : EOk (d + 1) (.mk 21 [] 0 [.mk 22 t 0 [], a])
/-- A bound of how many nodes an expression has, so deep. -/
def sz : Nat → Nat
  | 0 => 4
  | d + 1 => 4 * sz d
theorem sz_pos : ∀ d, 4 ≤ sz d
  | 0 => Nat.le_refl _
  | d + 1 => by have := sz_pos d; simp only [sz]; omega
end Tr

set_option maxHeartbeats 8000000 in
set_option maxRecDepth 100000 in
theorem mkname_any (base M : Nat) (vs : Value) (s : List Int) (σ : St) (w : World) (hS : MkS base M vs s σ w) :
    Calls Tryz.prog 91 #[.pointer (some ⟨M, 0, none⟩)] w fun e w' => ∃ (t : Sp.Bs) (σ' : St), e = .returned (.string ⟨t.toArray⟩) ∧ t ∈ nm8 ∧ Hid (To base M vs s σ w σ' w' []) := by
  have HS := Lib.hid hS
  have hnx := fun o => next_any base M vs s σ (w.alloc o) (hS.below ((Below.refl _ _).alloc (Nat.le_refl _) _)) 8 (by omega) (by omega)
  clear hS
  go_enter Tryz.func91, Tryz.ntmps91
  go_wp2_with (go_at_call 23; refine (hnx _).mono ?_; clear hnx; rintro e w2 ⟨r, σ2, rfl, hr, HT⟩; obtain ⟨x, hx, hc⟩ := pick_text HS.out HT.out nm8 rfl r (by show r < 8; omega); have HX := Lib.hid hx; clear hx)
  go_ret
  exact ⟨x, σ2, rfl, HX.out, To.after HS.out ((Below.refl _ _).alloc (Nat.le_refl _) _) HT.out⟩
set_option maxHeartbeats 8000000 in
set_option maxRecDepth 100000 in
theorem mkglobal_any (base M : Nat) (vs : Value) (s : List Int) (σ : St) (w : World) (hS : MkS base M vs s σ w) :
    Calls Tryz.prog 94 #[.pointer (some ⟨M, 0, none⟩)] w fun e w' => ∃ (t : Sp.Bs) (σ' : St), e = .returned (.string ⟨t.toArray⟩) ∧ t ∈ nm16 ∧ Hid (To base M vs s σ w σ' w' []) := by
  have HS := Lib.hid hS
  have hnx := fun o => next_any base M vs s σ (w.alloc o) (hS.below ((Below.refl _ _).alloc (Nat.le_refl _) _)) 16 (by omega) (by omega)
  clear hS
  go_enter Tryz.func94, Tryz.ntmps94
  go_wp2_with (go_at_call 23; refine (hnx _).mono ?_; clear hnx; rintro e w2 ⟨r, σ2, rfl, hr, HT⟩; obtain ⟨x, hx, hc⟩ := pick_text HS.out HT.out nm16 rfl r (by show r < 16; omega); have HX := Lib.hid hx; clear hx)
  go_ret
  exact ⟨x, σ2, rfl, HX.out, To.after HS.out ((Below.refl _ _).alloc (Nat.le_refl _) _) HT.out⟩

/-- What an expression's making tells. -/
def ExprC (base M : Nat) (vs : Value) (s : List Int) (d : Nat) : Prop := ∀ (σ : St) (w : World), MkS base M vs s σ w → σ.P.length + sz d ≤ 1000000 →
  Calls Tryz.prog 47 #[.pointer (some ⟨M, 0, none⟩), .int .i64 (d : Int)] w fun e w' => ∃ (a : Ast) (σ' : St), e = .returned (.int .i64 ((σ.P.length + a.size - 1 : Nat) : Int)) ∧ Hid (To base M vs s σ w σ' w' [a]) ∧ EOk d a ∧ a.size < sz d

section
variable {base M : Nat} {vs : Value} {s : List Int} {σ0 σ : St} {w0 w : World} {al : List Ast}
theorem next_at (H : To base M vs s σ0 w0 σ w al) (wq : World) (hb : Below w.heap.size w wq) (n : Int) (hn : 1 ≤ n) (hn2 : n ≤ 1000) :
    Calls Tryz.prog 23 #[.pointer (some ⟨M, 0, none⟩), .int .i64 n] wq fun e w' => ∃ (r : Nat) (σ' : St), e = .returned (.int .i64 (r : Int)) ∧ (r : Int) < n ∧ Hid (To base M vs s σ0 w0 σ' w' al) ∧ Hid (To base M vs s σ wq σ' w' []) :=
  (next_any base M vs s σ wq (H.st.below hb) n hn hn2).mono (by
    rintro e w' ⟨r, σ', rfl, hr, HT⟩
    exact ⟨r, σ', rfl, hr, (show To _ _ _ _ _ _ _ _ _ by have := (H.below hb).trans HT.out; rwa [List.append_nil] at this), HT⟩)
theorem name_at (H : To base M vs s σ0 w0 σ w al) (wq : World) (hb : Below w.heap.size w wq) :
    Calls Tryz.prog 91 #[.pointer (some ⟨M, 0, none⟩)] wq fun e w' => ∃ (t : Sp.Bs) (σ' : St), e = .returned (.string ⟨t.toArray⟩) ∧ t ∈ nm8 ∧ Hid (To base M vs s σ0 w0 σ' w' al) ∧ Hid (To base M vs s σ wq σ' w' []) :=
  (mkname_any base M vs s σ wq (H.st.below hb)).mono (by
    rintro e w' ⟨r, σ', rfl, hr, HT⟩
    exact ⟨r, σ', rfl, hr, (show To _ _ _ _ _ _ _ _ _ by have := (H.below hb).trans HT.out; rwa [List.append_nil] at this), HT⟩)
theorem global_at (H : To base M vs s σ0 w0 σ w al) (wq : World) (hb : Below w.heap.size w wq) :
    Calls Tryz.prog 94 #[.pointer (some ⟨M, 0, none⟩)] wq fun e w' => ∃ (t : Sp.Bs) (σ' : St), e = .returned (.string ⟨t.toArray⟩) ∧ t ∈ nm16 ∧ Hid (To base M vs s σ0 w0 σ' w' al) ∧ Hid (To base M vs s σ wq σ' w' []) :=
  (mkglobal_any base M vs s σ wq (H.st.below hb)).mono (by
    rintro e w' ⟨r, σ', rfl, hr, HT⟩
    exact ⟨r, σ', rfl, hr, (show To _ _ _ _ _ _ _ _ _ by have := (H.below hb).trans HT.out; rwa [List.append_nil] at this), HT⟩)
theorem expr_at {d : Nat} (hE : ExprC base M vs s d) (H : To base M vs s σ0 w0 σ w al) (wq : World) (hb : Below w.heap.size w wq) (hP : σ0.P.length + sizes al + sz d ≤ 1000000) :
    Calls Tryz.prog 47 #[.pointer (some ⟨M, 0, none⟩), .int .i64 (d : Int)] wq fun e w' => ∃ (a : Ast) (σ' : St), e = .returned (.int .i64 ((σ0.P.length + sizes al + a.size - 1 : Nat) : Int)) ∧ Hid (To base M vs s σ0 w0 σ' w' (al ++ [a])) ∧ EOk d a ∧ a.size < sz d ∧ Hid (To base M vs s σ wq σ' w' [a]) :=
  (hE σ wq (H.st.below hb) (by rw [H.len]; exact hP)).mono (by
    rintro e w' ⟨a, σ', rfl, HT, ha, hs⟩
    exact ⟨a, σ', by rw [H.len], (H.below hb).trans HT.out, ha, hs, HT⟩)
/-- A node of all that was made. -/
theorem add_at (H : To base M vs s σ0 w0 σ w al) (wq : World) (hb : Below w.heap.size w wq) (op n : Int) (t : ByteArray) (kv : Value) (hk : KRow kv (rootsA σ0.P.length al) wq) (hM : al ≠ [] → ∀ g, kv.ownBlock = some g → g ≠ M) (hP : σ0.P.length + sizes al + 1 ≤ 1000000) (hl : al.length ≤ 1000000) :
    Calls Tryz.prog 25 #[.pointer (some ⟨M, 0, none⟩), .int .i64 op, .string t, .int .i64 n, kv] wq fun e w' => ∃ σ' : St, e = .returned (.int .i64 ((σ0.P.length + sizes al : Nat) : Int)) ∧ Hid (To base M vs s σ0 w0 σ' w' [.mk op t.data.toList n al]) :=
  (add_any base M vs s σ wq (H.st.below hb) op n t kv _ hk (fun hne => hM (fun e => by rw [e] at hne; exact hne rfl)) (by rw [rootsA_length]; exact hl) (by rw [H.len]; exact hP)).mono (by
    rintro e w' ⟨σ', rfl, HA⟩
    exact ⟨σ', by rw [H.len], (H.below hb).add HA.out⟩)
/-- A node alone behind all that was made. -/
theorem leaf_at (H : To base M vs s σ0 w0 σ w al) (wq : World) (hb : Below w.heap.size w wq) (op n : Int) (t : ByteArray) (hP : σ0.P.length + sizes al + 1 ≤ 1000000) :
    Calls Tryz.prog 25 #[.pointer (some ⟨M, 0, none⟩), .int .i64 op, .string t, .int .i64 n, .slice none 0 0] wq fun e w' => ∃ σ' : St, e = .returned (.int .i64 ((σ0.P.length + sizes al : Nat) : Int)) ∧ Hid (To base M vs s σ0 w0 σ' w' (al ++ [.mk op t.data.toList n []])) ∧ Hid (To base M vs s σ wq σ' w' [.mk op t.data.toList n []]) :=
  (add_at (To.refl (H.st.below hb)) wq (Below.refl _ _) op n t (.slice none 0 0) (KRow.nil_ _) (fun h => absurd rfl h) (by simp only [sizes]; rw [H.len]; exact hP) (Nat.zero_le _)).mono (by
    rintro e w' ⟨σ', rfl, HT⟩
    exact ⟨σ', by simp only [sizes]; rw [H.len]; rfl, (H.below hb).trans HT.out, HT⟩)
end
theorem size_mk (op : Int) (t : List UInt8) (n : Int) (l : List Ast) : (Ast.mk op t n l).size = sizes l + 1 := by simp [Ast.size]
/-- Kids that were written out. -/
theorem lit_at {base M : Nat} {vs : Value} {s : List Int} {σ0 σ : St} {w0 w : World} {al : List Ast} (H : To base M vs s σ0 w0 σ w al) (cs : Array Value) (hcs : cs.toList = (rootsA σ0.P.length al).map (Value.int .i64)) (n : Nat) (hn : n = al.length) :
    KRow (.slice (some ⟨w.heap.size, 0, none⟩) n n) (rootsA σ0.P.length al) (w.alloc (.cells cs 3)) ∧ ∀ g, (Value.slice (some ⟨w.heap.size, 0, none⟩) n n).ownBlock = some g → g ≠ M := by
  refine ⟨?_, fun g e => ?_⟩
  · have := KRow.lit w cs _ hcs
    rwa [rootsA_length, ← hn] at this
  · simp only [Value.ownBlock, Option.some.injEq] at e
    have := H.st.lt
    omega

set_option maxHeartbeats 8000000 in
set_option maxRecDepth 100000 in
theorem two_of {base M : Nat} {vs : Value} {s : List Int} {d : Nat} (hE : ExprC base M vs s d) (σ : St) (w : World) (hS : MkS base M vs s σ w) (hP : σ.P.length + sz (d + 1) ≤ 1000000) (hd : d ≤ 100) (op : Int) (t : ByteArray) :
    Calls Tryz.prog 92 #[.pointer (some ⟨M, 0, none⟩), .int .i64 op, .string t, .int .i64 ((d : Int) + 1)] w fun e w' => ∃ (a b : Ast) (σ' : St), e = .returned (.int .i64 ((σ.P.length + (Ast.mk op t.data.toList 0 [a, b]).size - 1 : Nat) : Int)) ∧ Hid (To base M vs s σ w σ' w' [.mk op t.data.toList 0 [a, b]]) ∧ EOk d a ∧ EOk d b ∧ (Ast.mk op t.data.toList 0 [a, b]).size < sz (d + 1) := by
  have H0 := Lib.hid (To.refl hS)
  have HE := Lib.hid hE
  have hz4 := sz_pos d
  obtain ⟨S, hSz⟩ := hid_ex (sz d)
  have HZ : Hid (sz (d + 1) = 4 * S) := (show _ = _ by rw [← hSz.out]; rfl)
  rw [HZ.out] at hP ⊢
  rw [hSz.out] at hz4
  have hdw : IntKind.i64.wrap ((d : Int) + 1 - 1) = (d : Int) + 1 - 1 := IntWalk.i64_in _ (by omega)
  obtain ⟨p, hp⟩ := hid_ex σ.P.length
  rw [hp.out] at hP ⊢
  clear hS hE
  go_enter Tryz.func92, Tryz.ntmps92
  go_wp2_with (first
    | (go_at_call 47; refine (expr_at HE.out H0.out w (Below.refl _ _) (by rw [hSz.out, hp.out]; simp only [sizes]; omega)).mono ?_; rintro e w1 ⟨a, σ1, rfl, H1, HA, ha, _⟩; clear H0; rw [hp.out]; rw [hSz.out] at ha)
    | (go_at_call 47; refine (expr_at HE.out H1.out w1 (Below.refl _ _) (by rw [hSz.out, hp.out]; simp only [List.nil_append, sizes]; omega)).mono ?_; rintro e w2 ⟨b, σ2, rfl, H2, HB, hb, _⟩; rw [hp.out]; rw [hSz.out] at hb; have hl := lit_at H2.out #[.int .i64 ((p + sizes [] + a.size - 1 : Nat) : Int), .int .i64 ((p + sizes ([] ++ [a]) + b.size - 1 : Nat) : Int)] (by rw [hp.out]; simp [rootsA, sizes]) 2 rfl)
    | (go_at_call 25; refine (add_at H2.out _ ((Below.refl _ _).alloc (Nat.le_refl _) _) op 0 t _ hl.1 (fun _ => hl.2) (by rw [hp.out]; simp only [List.nil_append, List.cons_append, sizes]; omega) (by simp)).mono ?_; rintro e w3 ⟨σ3, rfl, H3⟩; rw [hp.out]))
  go_ret
  refine ⟨a, b, σ3, ?_, H3, HA, HB, ?_⟩
  · rw [size_mk]; rfl
  · rw [size_mk]; simp only [sizes]; omega
end Go.Proofs.YtkmmcphiijolkaaGreatDoor

set_option linter.unusedVariables false
set_option linter.unusedSimpArgs false
namespace Go.Proofs.YtkmmcphiijolkaaGreatDoor
open Go.RowKit Go.Shelf
open Tr

/-- A number appended to a row of the caller's own, behind steps of the maker. -/
theorem To.app {base M : Nat} {vs : Value} {s : List Int} {σ0 σ : St} {w0 w w' : World} {al : List Ast} {v : Value} {n g c : Nat} {l : List Int} {k : Int} (H : To base M vs s σ0 w0 σ w al) (HO : Ow base w0.heap.size v n l M σ w)
    (hown : w'.ownsRow w0.heap.size 3 1 (.slice (some ⟨g, 0, none⟩) (n + 1) c) (n + 1) ((l ++ [k]).map (Value.int .i64))) (hb : But (fun k => v.ownBlock = some k) w w') (hg : w0.heap.size ≤ g ∧ (some g = v.ownBlock ∨ w.heap.size ≤ g)) :
    To base M vs s σ0 w0 σ w' al ∧ Ow base w0.heap.size (.slice (some ⟨g, 0, none⟩) (n + 1) c) (n + 1) (l ++ [k]) M σ w' := by
  obtain ⟨h1, h2⟩ := HO.app H.st hown hb hg.2
  exact ⟨H.own h1 hb (fun k e => (HO.row.lt k e).1), h2⟩

set_option maxHeartbeats 8000000 in
set_option maxRecDepth 100000 in
theorem row_of {base M : Nat} {vs : Value} {s : List Int} {d : Nat} (hE : ExprC base M vs s d) (σ : St) (w : World) (hS : MkS base M vs s σ w) (hP : σ.P.length + 3 * sz d ≤ 1000000) (hd : d ≤ 100) (n : Int) (hn : 1 ≤ n) (hn4 : n ≤ 4) :
    Calls Tryz.prog 93 #[.pointer (some ⟨M, 0, none⟩), .int .i64 ((d : Int) + 1), .int .i64 n] w fun e w' => ∃ (al : List Ast) (σ' : St) (i : Nat) (p : Option Addr) (c : Nat), e = .returned (.slice p i c) ∧ i = al.length ∧ (i : Int) < n ∧ Hid (To base M vs s σ w σ' w' al) ∧ Hid (Ow base w.heap.size (.slice p i c) i (rootsA σ.P.length al) M σ' w') ∧ Hid (∀ a ∈ al, EOk d a) ∧ Hid (sizes al ≤ i * sz d) := by
  have H0 := Lib.hid (To.refl hS)
  have HE := Lib.hid hE
  have hbw : base ≤ w.heap.size := by have := hS.hb; have := hS.lt; omega
  obtain ⟨S, hSz⟩ := hid_ex (sz d)
  rw [hSz.out] at hP ⊢
  have hdw : IntKind.i64.wrap ((d : Int) + 1 - 1) = (d : Int) + 1 - 1 := IntWalk.i64_in _ (by omega)
  obtain ⟨p, hp⟩ := hid_ex σ.P.length
  rw [hp.out] at hP ⊢
  clear hS hE
  go_enter Tryz.func93, Tryz.ntmps93
  go_wp2_with (go_at_call 23; refine (next_at H0.out w (Below.refl _ _) n hn (by omega)).mono ?_; rintro e w1 ⟨r, σ1, rfl, hr, H1, _⟩; clear H0)
  have HO1 := Lib.hid (Ow.nil base w.heap.size M σ1 w1 hbw)
  go_loopw [7, 9] (fun v7 v9 wr => ∃ (i : Nat) (p7 : Option Addr) (c7 : Nat) (al : List Ast) (σi : St), v9 = .int .i64 (i : Int) ∧ v7 = .slice p7 i c7 ∧ i ≤ r ∧ Hid (i = al.length) ∧ Hid (To base M vs s σ w σi wr al) ∧ Hid (Ow base w.heap.size (.slice p7 i c7) i (rootsA p al) M σi wr) ∧ Hid (∀ a ∈ al, EOk d a) ∧ Hid (sizes al ≤ i * S)) (fun _ v9 _ => r - (intOf v9).toNat)
  case atStart => exact ⟨0, none, 0, [], σ1, rfl, rfl, Nat.zero_le _, rfl, H1, HO1, fun a h => by simp at h, (show _ ≤ _ by simp [sizes])⟩
  case round =>
    obtain ⟨i, p7, c7, al, σi, rfl, rfl, hi, HL, HT, HO, HEA, HZ⟩ := hrel
    clear H1 HO1
    by_cases hir : i < r
    · have hz := HZ.out
      have hi2 : i * S ≤ 2 * S := Nat.mul_le_mul_right S (by omega)
      have hbs : w.heap.size ≤ wr.heap.size := HT.out.but.size
      have HPP : Hid (p + sizes al + S ≤ 1000000) := (show _ ≤ _ by omega)
      have hi6 : i + 1 ≤ 1000000 := by omega
      clear hz hi2
      go_wp2_with (first
        | (go_at_call 47; refine (expr_at HE.out HT.out wr (Below.refl _ _) (by rw [hSz.out, hp.out]; exact HPP.out)).mono ?_; rintro e w3 ⟨a, σ3, rfl, H3, HA, ha, H3'⟩; rw [hp.out]; have HO3 := Lib.hid (HO.out.to H3'.out); have hbs3 : w.heap.size ≤ w3.heap.size := H3.out.but.size)
        | (at_builtin; refine wpList_iapp rfl _ _ rfl w.heap.size i _ _ w3 HO3.out.row hbs3 ((p + sizes al + a.size - 1 : Nat) : Int) rfl (by rfl) hi6 ?_; intro g5 c5 w5 HK5 HB5 HG5))
      obtain ⟨h5, h6⟩ := To.app H3.out HO3.out HK5.out HB5.out HG5.out
      refine ⟨⟨i + 1, _, c5, al ++ [a], σ3, rfl, rfl, by omega, ?_, h5, ?_, ?_, ?_⟩, by simp [intOf]; omega⟩
      · show _ = _; rw [List.length_append, ← HL.out]; rfl
      · show Ow _ _ _ _ _ _ _ _
        rw [rootsA_append, rootsA_one]
        exact h6
      · show ∀ b ∈ al ++ [a], EOk d b
        intro b hb
        rcases List.mem_append.1 hb with hb | hb
        · exact HEA.out b hb
        · simp only [List.mem_cons, List.not_mem_nil, or_false] at hb
          rw [hb]; exact HA
      · show sizes (al ++ [a]) ≤ (i + 1) * S
        rw [sizes_append, Nat.add_mul, Nat.one_mul]
        have := HZ.out
        rw [hSz.out] at ha
        simp only [sizes]
        omega
    · obtain rfl : i = r := by omega
      go_wp2_with fail
      go_ret
      exact ⟨al, σi, i, p7, c7, rfl, HL.out, hr, HT, HO, HEA, HZ⟩
end Go.Proofs.YtkmmcphiijolkaaGreatDoor

set_option linter.unusedVariables false
set_option linter.unusedSimpArgs false
namespace Go.Proofs.YtkmmcphiijolkaaGreatDoor
open Go.RowKit Go.Shelf
open Tr

section
variable {base M : Nat} {vs : Value} {s : List Int} {σ0 σ : St} {w0 w : World} {al : List Ast}
theorem two_at {d : Nat} (hE : ExprC base M vs s d) (H : To base M vs s σ0 w0 σ w []) (wq : World) (hb : Below w.heap.size w wq) (hP : σ0.P.length + 4 * sz d ≤ 1000000) (hd : d ≤ 100) (op : Int) (t : ByteArray) :
    Calls Tryz.prog 92 #[.pointer (some ⟨M, 0, none⟩), .int .i64 op, .string t, .int .i64 ((d : Int) + 1)] wq fun e w' => ∃ (a b : Ast) (σ' : St), e = .returned (.int .i64 ((σ0.P.length + (Ast.mk op t.data.toList 0 [a, b]).size - 1 : Nat) : Int)) ∧ Hid (To base M vs s σ0 w0 σ' w' [.mk op t.data.toList 0 [a, b]]) ∧ EOk d a ∧ EOk d b ∧ (Ast.mk op t.data.toList 0 [a, b]).size < 4 * sz d := by
  have hl := H.len
  simp only [sizes, Nat.add_zero] at hl
  refine (two_of hE σ wq (H.st.below hb) (by rw [hl]; exact hP) hd op t).mono ?_
  rintro e w' ⟨a, b, σ', rfl, HT, ha, hb2, hs⟩
  exact ⟨a, b, σ', by rw [hl], (show To _ _ _ _ _ _ _ _ _ from by have := (H.below hb).trans HT.out; rwa [List.nil_append] at this), ha, hb2, hs⟩
theorem row_at {d : Nat} (hE : ExprC base M vs s d) (H : To base M vs s σ0 w0 σ w al) (wq : World) (hb : Below w.heap.size w wq) (hP : σ0.P.length + sizes al + 3 * sz d ≤ 1000000) (hd : d ≤ 100) (n : Int) (hn : 1 ≤ n) (hn4 : n ≤ 4) :
    Calls Tryz.prog 93 #[.pointer (some ⟨M, 0, none⟩), .int .i64 ((d : Int) + 1), .int .i64 n] wq fun e w' => ∃ (bl : List Ast) (σ' : St) (i : Nat) (p : Option Addr) (c : Nat), e = .returned (.slice p i c) ∧ i = bl.length ∧ (i : Int) < n ∧ Hid (To base M vs s σ0 w0 σ' w' (al ++ bl)) ∧ Hid (To base M vs s σ wq σ' w' bl) ∧ Hid (Ow base wq.heap.size (.slice p i c) i (rootsA (σ0.P.length + sizes al) bl) M σ' w') ∧ Hid (∀ a ∈ bl, EOk d a) ∧ Hid (sizes bl ≤ i * sz d) := by
  refine (row_of hE σ wq (H.st.below hb) (by rw [H.len]; exact hP) hd n hn hn4).mono ?_
  rintro e w' ⟨bl, σ', i, p, c, rfl, hi, hin, HT, HO, HEA, HZ⟩
  rw [H.len] at HO
  exact ⟨bl, σ', i, p, c, rfl, hi, hin, (H.below hb).trans HT.out, HT, HO, HEA, HZ⟩
end

set_option maxRecDepth 100000 in
/-- A row of numbers is appended to a row of the call's own. -/
theorem wpList_kapp {ops : Array Oper} {rest : List Oper} {o : Oper} {a : Act} {Q' : Exit → Act → World → Prop} (hgd : o.guard = none) (s x : Operand)
    (ho : o.op = .call { callee := .builtin .append, args := #[s, x], argTypes := #[24, 24] }) (base n q : Nat) (v kv : Value) (l ks : List Int) (w : World) (hown : w.ownsRow base 3 1 v n (l.map (Value.int .i64))) (hbase : base ≤ w.heap.size)
    (hk : KRow kv ks w) (hq : ks.length = q) (hq0 : 0 < q) (hs : a.eval s = v) (hx : a.eval x = kv) (hlen : n + q ≤ 1000000)
    (h : ∀ g c w', Hid (w'.ownsRow base 3 1 (.slice (some ⟨g, 0, none⟩) (n + q) c) (n + q) ((l ++ ks).map (Value.int .i64))) → Hid (But (fun b => v.ownBlock = some b) w w') → Hid (base ≤ g ∧ (some g = v.ownBlock ∨ w.heap.size ≤ g)) → wpList Tryz.prog ops Q' rest (a.put o.dst (.slice (some ⟨g, 0, none⟩) (n + q) c)) w') :
    wpList Tryz.prog ops Q' (o :: rest) a w := by
  obtain ⟨i0, hi, hz0, hz1, hz2⟩ := info_parts infoInt
  obtain ⟨pa, ck, ekv, hc⟩ := hk
  obtain ⟨k0, hk0⟩ : ∃ k, ks[0]? = some k := ⟨_, List.getElem?_eq_getElem (by omega)⟩
  obtain ⟨gk, ok, e1, _, _⟩ := hc.1 0 k0 hk0
  subst e1
  rw [hq] at ekv
  refine wpList_append_own_at _ hgd s x 24 ho base 3 i0 _ 1 8 Tryz.underlying24 hi hz0 hz1 hz2 rfl (by decide) v n _ hs hown ⟨gk, ok, none⟩ q ck (ks.map (Value.int .i64)) (hx.trans ekv) (by rw [List.length_map, hq, Nat.mul_one]) ?_ ?_ (by unfold maxLen; omega) (by omega) hbase ?_
  · intro j u hu
    rw [List.getElem?_map] at hu
    cases hj : ks[j]? with
    | none => rw [hj] at hu; simp at hu
    | some c =>
      rw [hj] at hu
      simp only [Option.map_some, Option.some.injEq] at hu
      subst hu
      obtain ⟨g', o', e2, _, hcell⟩ := hc.1 j c hj
      injection e2 with e2
      injection e2 with e3 e4
      subst e3
      subst e4
      have e5 : ((⟨gk, ok, none⟩ : Addr).add j) = ⟨gk, ok + j, none⟩ := by unfold Addr.add; split <;> simp_all
      rw [e5]
      exact hcell
  · intro u hu
    obtain ⟨c, _, rfl⟩ := List.mem_map.1 hu
    rfl
  · intro v' w' hown' hgrow _ hloc
    rw [← List.map_append] at hown'
    rcases hown'.2 with ⟨e, hn⟩ | ⟨g, cap, cur, e, hg, r⟩
    · omega
    · subst e
      refine h g cap w' hown' (show But _ _ _ from ⟨hgrow.os, hgrow.tape, hgrow.output, hgrow.size, fun k hk hn => ⟨hgrow.block k hk (fun e => hn e.symm), fun e => hn e⟩⟩) ⟨hg, ?_⟩
      rcases hloc with e | e
      · exact Or.inl e
      · simp only [Value.ownBlock, Option.some.injEq] at e
        exact Or.inr (by omega)
end Go.Proofs.YtkmmcphiijolkaaGreatDoor
