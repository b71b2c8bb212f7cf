/-
  The state of the reference's quotient: numbers in variables, at this program.
-/
import Derived.Test.YtaekjkihdecmcaaNuH
set_option linter.unusedVariables false
set_option linter.unusedSimpArgs false
namespace Go.Proofs.Ytaekjkihdecmcaa
open Go.RowKit

abbrev cN (x y : Value) : Obj := .cells #[x, y] 31
/-- A variable that holds a number. -/
def VarN (w : World) (b : Nat) (z : Int) : Prop := ∃ (s : Bool) (pa : Option Addr) (n c : Nat), w.heap[b]? = some (cN (.bool s) (.slice pa n c)) ∧ NumV (.agg #[.bool s, .slice pa n c]) z w
theorem VarN.lt {w : World} {b : Nat} {z : Int} (h : VarN w b z) : b < w.heap.size := by
  obtain ⟨s, pa, n, c, h, _⟩ := h
  exact (Array.getElem?_eq_some_iff.1 h).1
theorem VarN.below {w w' : World} {b : Nat} {z : Int} (h : VarN w b z) (hb : Below w.heap.size w w') : VarN w' b z := by
  have hl := h.lt
  obtain ⟨s, pa, n, c, h, hv⟩ := h
  exact ⟨s, pa, n, c, (hb.block b hl).trans h, hv.below hb⟩
/-- A number was stored in a variable. -/
def put2 (w : World) (b : Nat) (x y : Value) : World := (w.setCell ⟨b, 0, none⟩ x).setCell ⟨b, 1, none⟩ y
theorem put2_size (w : World) (b : Nat) (x y : Value) : (put2 w b x y).heap.size = w.heap.size := by simp [put2, World.setCell]
theorem put2_other {w : World} {b c : Nat} {x y : Value} (h : c ≠ b) : (put2 w b x y).heap[c]? = w.heap[c]? := by
  unfold put2
  rw [Below.heap_setCell _ _ _ _ (by exact h), Below.heap_setCell _ _ _ _ (by exact h)]
theorem NumV.put2 {w : World} {b : Nat} {x0 y0 x y v : Value} {z : Int} (h : NumV v z w) (hb : w.heap[b]? = some (cN x0 y0)) (h0 : ∀ d : Nat, x0 ≠ dI d) (h1 : ∀ d : Nat, y0 ≠ dI d) : NumV v z (put2 w b x y) := by
  obtain ⟨_, c0, c1, _, _⟩ := num_cells hb
  unfold Proofs.Ytaekjkihdecmcaa.put2
  refine (h.setc c0 h0 x).setc (u := y0) ?_ h1 y
  rw [World.cell?_setCell_other _ _ _ _ (fun e => by injection e with _ e _; omega)]
  exact c1
theorem VarN.put {w : World} {b : Nat} {z z' : Int} (h : VarN w b z) {s : Bool} {pa : Option Addr} {n c : Nat} (hv : NumV (.agg #[.bool s, .slice pa n c]) z' w) : VarN (put2 w b (.bool s) (.slice pa n c)) b z' := by
  obtain ⟨s0, pa0, n0, c0, h, _⟩ := h
  exact ⟨s, pa, n, c, num_set h, hv.put2 h (fun d e => by cases e) (fun d e => by cases e)⟩
theorem VarN.other {w : World} {b c : Nat} {z z' : Int} (h : VarN w c z) (hb : VarN w b z') (hne : c ≠ b) (x y : Value) : VarN (put2 w b x y) c z := by
  obtain ⟨s0, pa0, n0, k0, hb, _⟩ := hb
  obtain ⟨s, pa, n, cc, h, hv⟩ := h
  exact ⟨s, pa, n, cc, (put2_other hne).trans h, hv.put2 hb (fun d e => by cases e) (fun d e => by cases e)⟩
theorem DRow.put2 {w : World} {b : Nat} {v : Value} {l : List Nat} {z' : Int} (h : DRow v l w) (hb : VarN w b z') (x y : Value) : DRow v l (put2 w b x y) := by
  obtain ⟨s0, pa0, n0, k0, hb, _⟩ := hb
  obtain ⟨_, c0, c1, _, _⟩ := num_cells hb
  unfold Proofs.Ytaekjkihdecmcaa.put2
  refine (h.setc c0 (fun d e => by cases e) x).setc (u := .slice pa0 n0 k0) ?_ (fun d e => by cases e) y
  rw [World.cell?_setCell_other _ _ _ _ (fun e => by injection e with _ e _; omega)]
  exact c1
theorem put2_below {B : Nat} {a w : World} (h : Below B a w) {b : Nat} (hb : B ≤ b) (x y : Value) : Below B a (put2 w b x y) := below_stored h hb x y

/-- The state of the quotient: both numbers, in boxes; two variables for the results; the quotient so far, what is left so far, and 1. -/
structure PS (w : World) (sa : Bool) (va : Value) (la : List Nat) (sb : Bool) (vb : Value) (lb : List Nat) (n1 : Nat) (q r : Int) (wr : World) : Prop where
  ha : wr.heap[w.heap.size]? = some (cN (.bool sa) va)
  hb : wr.heap[w.heap.size + 1]? = some (cN (.bool sb) vb)
  h1 : wr.heap[w.heap.size + 2]? = some (cN (.bool false) (.slice none 0 0))
  h2 : wr.heap[w.heap.size + 3]? = some (cN (.bool false) (.slice none 0 0))
  hq : VarN wr (w.heap.size + 4) q
  hr : VarN wr (w.heap.size + 5) r
  ho : VarN wr n1 1
  hn : w.heap.size + 6 ≤ n1
  da : DRow va la wr
  db : DRow vb lb wr
  bel : Below w.heap.size w wr
theorem PS.below {w : World} {sa : Bool} {va : Value} {la : List Nat} {sb : Bool} {vb : Value} {lb : List Nat} {n1 : Nat} {q r : Int} {wr w2 : World} (h : PS w sa va la sb vb lb n1 q r wr) (hb : Below wr.heap.size wr w2) : PS w sa va la sb vb lb n1 q r w2 := by
  have hl := h.hr.lt
  exact ⟨(hb.block _ (by omega)).trans h.ha, (hb.block _ (by omega)).trans h.hb, (hb.block _ (by omega)).trans h.h1, (hb.block _ (by omega)).trans h.h2, h.hq.below hb, h.hr.below hb, h.ho.below hb, h.hn, h.da.below hb, h.db.below hb, h.bel.trans (hb.mono (by omega))⟩
theorem PS.setq {w : World} {sa : Bool} {va : Value} {la : List Nat} {sb : Bool} {vb : Value} {lb : List Nat} {n1 : Nat} {q r q' : Int} {wr : World} (h : PS w sa va la sb vb lb n1 q r wr) {s : Bool} {pa : Option Addr} {n c : Nat} (hv : NumV (.agg #[.bool s, .slice pa n c]) q' wr) : PS w sa va la sb vb lb n1 q' r (put2 wr (w.heap.size + 4) (.bool s) (.slice pa n c)) :=
  ⟨(put2_other (by omega)).trans h.ha, (put2_other (by omega)).trans h.hb, (put2_other (by omega)).trans h.h1, (put2_other (by omega)).trans h.h2, h.hq.put hv, h.hr.other h.hq (by omega) _ _, h.ho.other h.hq (by have := h.hn; omega) _ _, h.hn, h.da.put2 h.hq _ _, h.db.put2 h.hq _ _, put2_below h.bel (by omega) _ _⟩
theorem PS.setr {w : World} {sa : Bool} {va : Value} {la : List Nat} {sb : Bool} {vb : Value} {lb : List Nat} {n1 : Nat} {q r r' : Int} {wr : World} (h : PS w sa va la sb vb lb n1 q r wr) {s : Bool} {pa : Option Addr} {n c : Nat} (hv : NumV (.agg #[.bool s, .slice pa n c]) r' wr) : PS w sa va la sb vb lb n1 q r' (put2 wr (w.heap.size + 5) (.bool s) (.slice pa n c)) :=
  ⟨(put2_other (by omega)).trans h.ha, (put2_other (by omega)).trans h.hb, (put2_other (by omega)).trans h.h1, (put2_other (by omega)).trans h.h2, h.hq.other h.hr (by omega) _ _, h.hr.put hv, h.ho.other h.hr (by have := h.hn; omega) _ _, h.hn, h.da.put2 h.hr _ _, h.db.put2 h.hr _ _, put2_below h.bel (by omega) _ _⟩
theorem PS.drew {w : World} {sa : Bool} {va : Value} {la : List Nat} {sb : Bool} {vb : Value} {lb : List Nat} {n1 : Nat} {q r : Int} {wr : World} (h : PS w sa va la sb vb lb n1 q r wr) : PS w sa va la sb vb lb n1 q r wr.drew := h.below (Below.refl _ _).drew

theorem ps_start {w : World} {sa : Bool} {va : Value} {la : List Nat} {sb : Bool} {vb : Value} {lb : List Nat} {wo : World} {so : Bool} {po : Option Addr} {no co : Nat} (da : DRow va la w) (db : DRow vb lb w)
    (hb : Below ((((((w.alloc (cN (.bool sa) va)).alloc (cN (.bool sb) vb)).alloc (cN (.bool false) (.slice none 0 0))).alloc (cN (.bool false) (.slice none 0 0))).alloc (cN (.bool false) (.slice none 0 0))).alloc (cN (.bool false) (.slice none 0 0))).heap.size ((((((w.alloc (cN (.bool sa) va)).alloc (cN (.bool sb) vb)).alloc (cN (.bool false) (.slice none 0 0))).alloc (cN (.bool false) (.slice none 0 0))).alloc (cN (.bool false) (.slice none 0 0))).alloc (cN (.bool false) (.slice none 0 0))) wo)
    (hv : NumV (.agg #[.bool so, .slice po no co]) 1 wo) : PS w sa va la sb vb lb wo.heap.size 0 0 (wo.alloc (cN (.bool so) (.slice po no co))) := by
  have hsz := hb.size
  simp only [World.size_alloc] at hsz
  have hw : Below w.heap.size w wo := ((((((((Below.refl _ w).alloc (Nat.le_refl _) _).alloc (by simp) _).alloc (by simp; omega) _).alloc (by simp; omega) _).alloc (by simp; omega) _).alloc (by simp; omega) _).trans (hb.mono (by simp; omega)))
  have hn : Below wo.heap.size wo (wo.alloc (cN (.bool so) (.slice po no co))) := (Below.refl _ wo).alloc (Nat.le_refl _) _
  have hall : ∀ (k : Nat) (o : Obj), k < w.heap.size + 6 → ((((((w.heap.push (cN (.bool sa) va)).push (cN (.bool sb) vb)).push (cN (.bool false) (.slice none 0 0))).push (cN (.bool false) (.slice none 0 0))).push (cN (.bool false) (.slice none 0 0))).push (cN (.bool false) (.slice none 0 0)))[k]? = some o → (wo.alloc (cN (.bool so) (.slice po no co))).heap[k]? = some o := fun k o hk h => (hn.block k (by omega)).trans ((hb.block k (by simp; omega)).trans h)
  have z : ∀ j, 2 ≤ j → j < 6 → (wo.alloc (cN (.bool so) (.slice po no co))).heap[w.heap.size + j]? = some (cN (.bool false) (.slice none 0 0)) := fun j h1 h2 => by
    refine hall _ _ (by omega) ?_
    simp only [Array.getElem?_push, Array.size_push]
    repeat' split
    all_goals first | rfl | omega | (simp_all; done)
  have hwn := hw.trans (hn.mono hw.size)
  refine ⟨hall _ _ (by omega) ?_, hall _ _ (by omega) ?_, z 2 (by omega) (by omega), z 3 (by omega) (by omega), ⟨false, none, 0, 0, z 4 (by omega) (by omega), NumV.zero _⟩, ⟨false, none, 0, 0, z 5 (by omega) (by omega), NumV.zero _⟩, ⟨so, po, no, co, heap_alloc_new _ _, hv.below hn⟩, by omega, da.below hwn, db.below hwn, hwn⟩
  · simp only [Array.getElem?_push, Array.size_push]
    repeat' split
    all_goals first | rfl | omega | (simp_all; done)
  · simp only [Array.getElem?_push, Array.size_push]
    repeat' split
    all_goals first | rfl | omega | (simp_all; done)
theorem NumV.drew {v : Value} {z : Int} {w : World} (h : NumV v z w) : NumV v z w.drew := by
  obtain ⟨s, vd, l, e, hd, hs⟩ := h
  exact ⟨s, vd, l, e, hd.drew, hs⟩
theorem dr1 {w : World} {a : Addr} {v : Value} (h : w.cell? a = some v) : w.drew.cell? a = some v := by rw [World.cell?_drew]; exact h
/-- Two numbers are told by variables of the call's own. -/
theorem ret_num2 {R : Ending → World → Prop} {fn : Func} {k k2 : Nat} (hf : fn.results = #[.cell k 31, .cell k2 31]) (tmps : Array Value) (w : World) (b b2 : Nat) (x y x2 y2 : Value) (fr fr2 : Nat × Nat) (hp : tmps[k]? = some (.pointer (some ⟨b, 0, none⟩))) (hb : w.heap[b]? = some (.cells #[x, y] 31 fr)) (hp2 : tmps[k2]? = some (.pointer (some ⟨b2, 0, none⟩))) (hb2 : w.heap[b2]? = some (.cells #[x2, y2] 31 fr2)) (h : R (.returned (.tuple #[.agg #[x, y], .agg #[x2, y2]])) w) :
    bodyPost Try.prog fn R Exit.ret { tmps := tmps, defers := [] } w := by
  have h0 : w.cell? ⟨b, 0, none⟩ = some x := by simp [World.cell?, hb]
  have h1 : w.cell? ⟨b, 1, none⟩ = some y := by simp [World.cell?, hb]
  have h2 : w.cell? ⟨b2, 0, none⟩ = some x2 := by simp [World.cell?, hb2]
  have h3 : w.cell? ⟨b2, 1, none⟩ = some y2 := by simp [World.cell?, hb2]
  refine ⟨rfl, .tuple #[.agg #[x, y], .agg #[x2, y2]], ?_, h⟩
  simp [results, hf, hp, hp2, go_sem, h0, h1, h2, h3]
/-- Both results are laid. -/
theorem two_laid {w : World} {b b2 : Nat} {x y x2 y2 : Value} {z z2 : Int} {B : Nat} {a : World} (hb : w.heap[b]? = some (cN (.bool false) (.slice none 0 0))) (hb2 : w.heap[b2]? = some (cN (.bool false) (.slice none 0 0))) (hne : b ≠ b2) (h : NumV (.agg #[x, y]) z w) (h2 : NumV (.agg #[x2, y2]) z2 w) (hbel : Below B a w) (hB : B ≤ b) (hB2 : B ≤ b2) :
    (put2 (put2 w b x y) b2 x2 y2).heap[b]? = some (cN x y) ∧ (put2 (put2 w b x y) b2 x2 y2).heap[b2]? = some (cN x2 y2) ∧ NumV (.agg #[x, y]) z (put2 (put2 w b x y) b2 x2 y2) ∧ NumV (.agg #[x2, y2]) z2 (put2 (put2 w b x y) b2 x2 y2) ∧ Below B a (put2 (put2 w b x y) b2 x2 y2) := by
  have e1 : (put2 w b x y).heap[b]? = some (cN x y) := num_set hb
  have e2 : (put2 w b x y).heap[b2]? = some (cN (.bool false) (.slice none 0 0)) := (put2_other (fun e => hne e.symm)).trans hb2
  refine ⟨(put2_other hne).trans e1, num_set e2, (h.put2 hb (fun d e => by cases e) (fun d e => by cases e)).put2 e2 (fun d e => by cases e) (fun d e => by cases e), (h2.put2 hb (fun d e => by cases e) (fun d e => by cases e)).put2 e2 (fun d e => by cases e) (fun d e => by cases e), put2_below (put2_below hbel hB _ _) hB2 _ _⟩
/-- Sums, as a walk meets them. -/
theorem Add_is {va vb : Value} {x y z : Int} {w : World} (ha : NumV va x w) (hb : NumV vb y w) (hx : x.natAbs < 65536 ^ 900) (hy : y.natAbs < 65536 ^ 900) (hz : x + y = z) :
    Calls Try.prog 26 #[va, vb] w fun e w' => ∃ s' pa n c, e = .returned (.agg #[.bool s', .slice pa n c]) ∧ Hid (NumV (.agg #[.bool s', .slice pa n c]) z w') ∧ Hid (Below w.heap.size w w') := by
  subst hz
  refine (Add_num va vb x y w ha hb hx hy).mono ?_
  rintro e w' ⟨v', rfl, hr, hb⟩
  obtain ⟨s', pa, n, c, l', rfl, _⟩ := hr.form
  exact ⟨s', pa, n, c, rfl, hr, hb⟩
theorem Neg_is {v : Value} {x z : Int} {w : World} (ha : NumV v x w) (hx : x.natAbs < 65536 ^ 100) (hz : -x = z) :
    Calls Try.prog 19 #[v] w fun e w' => ∃ s' pa n c, e = .returned (.agg #[.bool s', .slice pa n c]) ∧ Hid (NumV (.agg #[.bool s', .slice pa n c]) z w') ∧ Hid (Below w.heap.size w w') := by
  subst hz
  refine (Neg_num v x w ha hx).mono ?_
  rintro e w' ⟨v', rfl, hr, hb⟩
  obtain ⟨s', pa, n, c, l', rfl, _⟩ := hr.form
  exact ⟨s', pa, n, c, rfl, hr, hb⟩
theorem Of_is {z : Int} {w : World} (h1 : -9223372036854775808 ≤ z) (h2 : z ≤ 9223372036854775807) :
    Calls Try.prog 20 #[.int .i64 z] w fun e w' => ∃ s' pa n c, e = .returned (.agg #[.bool s', .slice pa n c]) ∧ Hid (NumV (.agg #[.bool s', .slice pa n c]) z w') ∧ Hid (Below w.heap.size w w') := by
  refine (Of_num z w h1 h2).mono ?_
  rintro e w' ⟨v', rfl, hr, hb⟩
  obtain ⟨s', pa, n, c, l', rfl, _⟩ := hr.form
  exact ⟨s', pa, n, c, rfl, hr, hb⟩
theorem cells_of {w2 : World} {b : Nat} {x y : Value} {t : TypeId} (h : w2.heap[b]? = some (.cells #[x, y] t)) : w2.cell? ⟨b, 0, none⟩ = some x ∧ w2.cell? ⟨b, 1, none⟩ = some y ∧ w2.frozen? ⟨b, 0, none⟩ = false ∧ w2.frozen? ⟨b, 1, none⟩ = false := by
  obtain ⟨_, h⟩ := num_cells h
  exact h
theorem num_digits {s : Bool} {pa : Option Addr} {n c : Nat} {z : Int} {w : World} (h : NumV (.agg #[.bool s, .slice pa n c]) z w) : ∃ l, DRow (.slice pa n c) l w ∧ n = l.length ∧ Nu.Says s l z := by
  obtain ⟨s', pa', n', c', l, e, hd, hn, hs⟩ := h.form
  injection e with e
  injection e with e
  injection e with e1 e2
  injection e1 with e1
  injection e2 with e2 _
  injection e2 with e3 e4 e5
  subst e1 e3 e4 e5
  exact ⟨l, hd, hn, hs⟩
/-- The cells of a variable, as a walk reads and writes them. -/
theorem VarN.cells {w : World} {b : Nat} {z : Int} (h : VarN w b z) : ∃ (s : Bool) (pa : Option Addr) (n c : Nat), w.cell? ⟨b, 0, none⟩ = some (.bool s) ∧ w.cell? ⟨b, 1, none⟩ = some (.slice pa n c) ∧ w.frozen? ⟨b, 0, none⟩ = false ∧ w.frozen? ⟨b, 1, none⟩ = false ∧ Hid (NumV (.agg #[.bool s, .slice pa n c]) z w) := by
  obtain ⟨s, pa, n, c, h, hv⟩ := h
  obtain ⟨_, c0, c1, f0, f1⟩ := num_cells h
  exact ⟨s, pa, n, c, c0, c1, f0, f1, hv⟩
theorem VarN.store {w : World} {b : Nat} {z : Int} (h : VarN w b z) : ∃ (u0 u1 : Value), w.cell? ⟨b, 0, none⟩ = some u0 ∧ w.cell? ⟨b, 1, none⟩ = some u1 ∧ w.frozen? ⟨b, 0, none⟩ = false ∧ w.frozen? ⟨b, 1, none⟩ = false := by
  obtain ⟨s, pa, n, c, h, hv⟩ := h
  obtain ⟨_, c0, c1, f0, f1⟩ := num_cells h
  exact ⟨_, _, c0, c1, f0, f1⟩
end Go.Proofs.Ytaekjkihdecmcaa
