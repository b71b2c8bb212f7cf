/-
  A dict of the call's own and boxes of values beside it, at this program.
-/
import Derived.Test.YtaghkidelbepnaaDiY
import Derived.Test.YtaghkidelbepnaaDiZ
set_option linter.unusedVariables false
set_option linter.unusedSimpArgs false
namespace Go.Proofs.Ytaghkidelbepnaa
open Go.RowKit
open Di

/-- Block b is a value's box. -/
def BoxV (w : World) (b : Nat) (x : V) : Prop := w.heap[b]? = some (.cells #[.int .i64 x.1, .int .i64 x.2.1, .string x.2.2] 32)
/-- A dict of the call's own, and boxes of values, apart from it. -/
structure Sta (I : DictI) (w0 : World) (a : Nat) (l : List Pr) (S : List (Nat × V)) (w : World) : Prop where
  one : One I w0 a l w
  bx : ∀ b x, (b, x) ∈ S → BoxV w b x
  ap : ∀ b x, (b, x) ∈ S → ¬ I.FR w a b
theorem Sta.lt {I : DictI} {w0 w : World} {a : Nat} {l : List Pr} {S : List (Nat × V)} (h : Sta I w0 a l S w) {b : Nat} {x : V} (hb : (b, x) ∈ S) : b < w.heap.size := (Array.getElem?_eq_some_iff.1 (h.bx b x hb)).1
theorem Sta.below {I : DictI} {w0 w w' : World} {a : Nat} {l : List Pr} {S : List (Nat × V)} (h : Sta I w0 a l S w) (hb : Below w.heap.size w w') : Sta I w0 a l S w' := by
  refine ⟨h.one.below hb, fun b x hx => (hb.block b (h.lt hx)).trans (h.bx b x hx), fun b x hx e => ?_⟩
  exact h.ap b x hx ((I.kept h.one.d hb.size (fun k hk => hb.block k (I.lt h.one.d hk))).2 b e)
theorem Sta.step {I : DictI} {w0 w w' : World} {a : Nat} {l l' : List Pr} {S : List (Nat × V)} (h : Sta I w0 a l S w) (hd : I.DR w' a l') (hb : But (I.FR w a) w w') (hf : ∀ j, I.FR w' a j → I.FR w a j ∨ w.heap.size ≤ j) : Sta I w0 a l' S w' := by
  refine ⟨h.one.step hd hb hf, fun b x hx => (hb.block b (h.lt hx) (h.ap b x hx)).trans (h.bx b x hx), fun b x hx e => ?_⟩
  rcases hf b e with e | e
  · exact h.ap b x hx e
  · have := h.lt hx; omega
theorem Sta.box {I : DictI} {w0 w w' : World} {a b : Nat} {l : List Pr} {S : List (Nat × V)} (h : Sta I w0 a l S w) (x : V) (hw : w' = w.alloc (.cells #[.int .i64 x.1, .int .i64 x.2.1, .string x.2.2] 32)) (hb : w.heap.size = b) : Sta I w0 a l ((b, x) :: S) w' := by
  subst hw hb
  have h1 := h.below (below_new w (.cells #[.int .i64 x.1, .int .i64 x.2.1, .string x.2.2] 32))
  refine ⟨h1.one, fun c y hy => ?_, fun c y hy e => ?_⟩
  · rcases List.mem_cons.1 hy with e | e
    · cases e; exact box_cells w x
    · exact h1.bx c y e
  · rcases List.mem_cons.1 hy with e2 | e2
    · cases e2
      have := I.lt h.one.d ((I.kept h.one.d (below_new w (.cells #[.int .i64 x.1, .int .i64 x.2.1, .string x.2.2] 32)).size (fun k hk => (below_new w _).block k (I.lt h.one.d hk))).2 _ e)
      omega
    · exact h1.ap c y e2 e
theorem Sta.cells {I : DictI} {w0 w : World} {a : Nat} {l : List Pr} {S : List (Nat × V)} (h : Sta I w0 a l S w) {b : Nat} {x : V} (hb : (b, x) ∈ S) : w.cell? ⟨b, 0, none⟩ = some (.int .i64 x.1) ∧ w.cell? ⟨b, 1, none⟩ = some (.int .i64 x.2.1) ∧ w.cell? ⟨b, 2, none⟩ = some (.string x.2.2) := V_cells (h.bx b x hb)
/-- A made dict and boxes that stood ahead of it. -/
theorem Sta.made {I : DictI} {w0 w w' : World} {a b : Nat} {v : Value} {l lr : List Pr} {S : List (Nat × V)} (h0 : Below w0.heap.size w0 w) (hT : Two I w.heap.size w' a b v l lr) (hb : Below w.heap.size w w') (hS : ∀ b x, (b, x) ∈ S → BoxV w b x) : Sta I w0 a l S w' := by
  refine ⟨⟨hT.d, fun k hk => Nat.le_trans h0.size (hT.fd k hk), h0.trans (hb.mono h0.size)⟩, fun c x hx => ?_, fun c x hx e => ?_⟩
  · exact (hb.block c (Array.getElem?_eq_some_iff.1 (hS c x hx)).1).trans (hS c x hx)
  · have h1 := (Array.getElem?_eq_some_iff.1 (hS c x hx)).1
    have := hT.fd c e
    omega
theorem BoxV.below {w w' : World} {b : Nat} {x : V} (h : BoxV w b x) (hb : Below w.heap.size w w') : BoxV w' b x := (hb.block b (Array.getElem?_eq_some_iff.1 h).1).trans h
end Go.Proofs.Ytaghkidelbepnaa
