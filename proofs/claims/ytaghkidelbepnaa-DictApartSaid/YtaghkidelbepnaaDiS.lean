/-
  What the program's dict is asked to tell: an interface; a dict and a row of pairs beside each other, at this program.
-/
import Derived.Test.YtaghkidelbepnaaDiK
import Derived.Test.YtaghkidelbepnaaTreeR
set_option linter.unusedVariables false
set_option linter.unusedSimpArgs false
namespace Go.Proofs.Ytaghkidelbepnaa
open Go.RowKit
open Di

/-- The program's dict: DR: block a is one of these pairs; FR: the blocks that it is made of. -/
structure DictI where
  DR : World → Nat → List Pr → Prop
  FR : World → Nat → Nat → Prop
  lt : ∀ {w a l k}, DR w a l → FR w a k → k < w.heap.size
  kept : ∀ {w w' a l}, DR w a l → w.heap.size ≤ w'.heap.size → (∀ k, FR w a k → w'.heap[k]? = w.heap[k]?) → DR w' a l ∧ ∀ k, FR w' a k → FR w a k
  dyn : ∀ {w a l}, DR w a l → Dyn (fun A k => FR A a k) w.heap.size
  key_ : ∀ {v r}, Hid (keyOk v = r) → Vok v → ∀ w, Calls Try.prog 19 #[vV v] w fun e w' => e = .returned (.bool r) ∧ Below w.heap.size w w'
  new_ : ∀ w, Calls Try.prog 13 #[] w fun e w' => ∃ a, e = .returned (ptrV a) ∧ Hid (DR w' a []) ∧ Hid (Below w.heap.size w w') ∧ Hid (∀ k, FR w' a k → w.heap.size ≤ k)
  put_ : ∀ {w a l k x ok l'}, Hid (Di.put l k x = (ok, l')) → Hid (DR w a l) → l.length ≤ 5000 → Vok k → Vok x →
    Calls Try.prog 20 #[ptrV a, vV k, vV x] w fun e w' => e = .returned (.bool ok) ∧ Hid (DR w' a l') ∧ Hid (But (FR w a) w w') ∧ Hid (∀ j, FR w' a j → FR w a j ∨ w.heap.size ≤ j)
  get_ : ∀ {w a l k x ok}, Hid (Di.get l k = (x, ok)) → Hid (DR w a l) → l.length ≤ 5000 → Vok k →
    Calls Try.prog 22 #[ptrV a, vV k] w fun e w' => e = .returned (.tuple #[.agg #[.int .i64 x.1, .int .i64 x.2.1, .string x.2.2], .bool ok]) ∧ Below w.heap.size w w'
  del_ : ∀ {w a l k ok l'}, Hid (Di.del l k = (ok, l')) → Hid (DR w a l) → l.length ≤ 5000 → Vok k →
    Calls Try.prog 23 #[ptrV a, vV k] w fun e w' => e = .returned (.bool ok) ∧ Hid (DR w' a l') ∧ Hid (But (FR w a) w w') ∧ Hid (∀ j, FR w' a j → FR w a j ∨ w.heap.size ≤ j)
  len_ : ∀ {w a l} {n : Nat}, Hid (l.length = n) → Hid (DR w a l) → n ≤ 5000 → Calls Try.prog 25 #[ptrV a] w fun e w' => e = .returned (.int .i64 (n : Int)) ∧ Below w.heap.size w w'
  keys_ : ∀ {w a l} {n : Nat}, Hid (l.length = n) → Hid (DR w a l) → n ≤ 5000 →
    Calls Try.prog 26 #[ptrV a] w fun e w' => ∃ p c, e = .returned (.slice p n c) ∧ Hid (w'.ownsRow w.heap.size 32 3 (.slice p n c) n ((l.map (·.1)).flatMap cV)) ∧ Hid (Below w.heap.size w w')
  clone_ : ∀ {w a l}, Hid (DR w a l) → l.length ≤ 5000 → Calls Try.prog 28 #[ptrV a] w fun e w' => ∃ a', e = .returned (ptrV a') ∧ Hid (DR w' a' l) ∧ Hid (Below w.heap.size w w') ∧ Hid (∀ k, FR w' a' k → w.heap.size ≤ k)
  all_ : ∀ {w a l}, Hid (DR w a l) → l.length ≤ 5000 → Calls Try.prog 31 #[ptrV a] w fun e w' => ∃ (gf : Nat) (lb : Array Value) (G : Nat → Prop), e = .returned (.func (.func gf) #[] lb) ∧ Hid (Enters Try.prog gf) ∧ Hid (Below w.heap.size w w') ∧ Hid (∀ k, G k → w.heap.size ≤ k ∧ k < w'.heap.size) ∧
    Hid (∀ (n : Nat) (Wc : World) (l' : List Pr) (R : World → Nat → Prop), w'.heap.size ≤ Wc.heap.size → (∀ k, G k → Wc.heap[k]? = w'.heap[k]?) → DR Wc a l' → l'.length ≤ 5000 → Dyn R Wc.heap.size → (∀ k, G k → ¬ R Wc k) →
      GivesR Fence.wide n Try.prog gf lb (fun p : Pr => #[vV p.1, vV p.2]) (fun q => q <+: l') (fun q => q = l') R Wc)

/-- A dict of the program's, and one of the reference's, apart, both of the call's own. -/
structure Two (I : DictI) (B : Nat) (w : World) (a b : Nat) (v : Value) (ld lr : List Pr) : Prop where
  d : I.DR w a ld
  r : RD w b v lr
  fd : ∀ k, I.FR w a k → B ≤ k
  fb : B ≤ b
  fv : ∀ j, v.ownBlock = some j → B ≤ j
  ap : ∀ k, I.FR w a k → k ≠ b ∧ v.ownBlock ≠ some k
theorem RD.but {w w' : World} {b : Nat} {v : Value} {l : List Pr} {P : Nat → Prop} (h : RD w b v l) (hb : But P w w') (h1 : ¬ P b) (h2 : ∀ j, v.ownBlock = some j → ¬ P j) : RD w' b v l :=
  h.kept (hb.block b h.lt h1) (fun k hk => hb.block k (h.row_lt k hk) (h2 k hk))
theorem Two.step_d {I : DictI} {B : Nat} {w w' : World} {a b : Nat} {v : Value} {ld lr ld' : List Pr} (h : Two I B w a b v ld lr) (hd : I.DR w' a ld') (hb : But (I.FR w a) w w') (hf : ∀ j, I.FR w' a j → I.FR w a j ∨ w.heap.size ≤ j) (hB : B ≤ w.heap.size) : Two I B w' a b v ld' lr :=
  ⟨hd, h.r.but hb (fun e => (h.ap b e).1 rfl) (fun j hj e => (h.ap j e).2 hj), fun k hk => (hf k hk).elim (h.fd k) (fun e => by omega), h.fb, h.fv, fun k hk => (hf k hk).elim (h.ap k) (fun e => ⟨fun e2 => by have := h.r.lt; omega, fun e2 => by have := h.r.row_lt k e2; omega⟩)⟩
theorem Two.step_r {I : DictI} {B : Nat} {w w' : World} {a b : Nat} {v v' : Value} {ld lr lr' : List Pr} (h : Two I B w a b v ld lr) (hr : RD w' b v' lr') (hb : But (fun j => j = b ∨ v.ownBlock = some j) w w') (hf : ∀ j, v'.ownBlock = some j → v.ownBlock = some j ∨ w.heap.size ≤ j) (hB : B ≤ w.heap.size) : Two I B w' a b v' ld lr' := by
  obtain ⟨h1, h2⟩ := I.kept h.d hb.size (fun k hk => hb.block k (I.lt h.d hk) (fun e => e.elim (h.ap k hk).1 (h.ap k hk).2))
  exact ⟨h1, hr, fun k hk => h.fd k (h2 k hk), h.fb, fun j hj => (hf j hj).elim (h.fv j) (fun e => by omega), fun k hk => ⟨(h.ap k (h2 k hk)).1, fun e => (hf k e).elim (h.ap k (h2 k hk)).2 (fun e2 => by have := I.lt h.d (h2 k hk); omega)⟩⟩
theorem Two.below {I : DictI} {B : Nat} {w w' : World} {a b : Nat} {v : Value} {ld lr : List Pr} (h : Two I B w a b v ld lr) (hb : Below w.heap.size w w') : Two I B w' a b v ld lr := by
  obtain ⟨h1, h2⟩ := I.kept h.d hb.size (fun k hk => hb.block k (I.lt h.d hk))
  exact ⟨h1, h.r.below hb, fun k hk => h.fd k (h2 k hk), h.fb, h.fv, fun k hk => h.ap k (h2 k hk)⟩
/-- The blocks of both. -/
def Both (I : DictI) (w : World) (a b : Nat) (v : Value) (k : Nat) : Prop := I.FR w a k ∨ k = b ∨ v.ownBlock = some k
theorem Two.both_lt {I : DictI} {B : Nat} {w : World} {a b : Nat} {v : Value} {ld lr : List Pr} (h : Two I B w a b v ld lr) {k : Nat} (hk : Both I w a b v k) : B ≤ k ∧ k < w.heap.size := by
  rcases hk with e | rfl | e
  · exact ⟨h.fd k e, I.lt h.d e⟩
  · exact ⟨h.fb, h.r.lt⟩
  · exact ⟨h.fv k e, h.r.row_lt k e⟩
end Go.Proofs.Ytaghkidelbepnaa
