/-
  The reference's powers, at this program.
-/
import Derived.Test.YtaekjkihdecmcaaNuJ
set_option linter.unusedVariables false
set_option linter.unusedSimpArgs false
namespace Go.Proofs.Ytaekjkihdecmcaa
open Go.RowKit

/-- The state of the power: the number, in a box; a variable for the result; the power so far. -/
structure PW (w : World) (sa : Bool) (va : Value) (la : List Nat) (n1 : Nat) (z : Int) (wr : World) : Prop where
  ha : wr.heap[w.heap.size]? = some (cN (.bool sa) va)
  h1 : wr.heap[w.heap.size + 1]? = some (cN (.bool false) (.slice none 0 0))
  ho : VarN wr n1 z
  hn : w.heap.size + 2 ≤ n1
  da : DRow va la wr
  bel : Below w.heap.size w wr
theorem PW.below {w : World} {sa : Bool} {va : Value} {la : List Nat} {n1 : Nat} {z : Int} {wr w2 : World} (h : PW w sa va la n1 z wr) (hb : Below wr.heap.size wr w2) : PW w sa va la n1 z w2 := by
  have hl := h.ho.lt
  have hn := h.hn
  exact ⟨(hb.block _ (by omega)).trans h.ha, (hb.block _ (by omega)).trans h.h1, h.ho.below hb, h.hn, h.da.below hb, h.bel.trans (hb.mono (by omega))⟩
theorem PW.seto {w : World} {sa : Bool} {va : Value} {la : List Nat} {n1 : Nat} {z z' : Int} {wr : World} (h : PW w sa va la n1 z wr) {s : Bool} {pa : Option Addr} {n c : Nat} (hv : NumV (.agg #[.bool s, .slice pa n c]) z' wr) : PW w sa va la n1 z' (put2 wr n1 (.bool s) (.slice pa n c)) := by
  have hn := h.hn
  exact ⟨(put2_other (by omega)).trans h.ha, (put2_other (by omega)).trans h.h1, h.ho.put hv, h.hn, h.da.put2 h.ho _ _, put2_below h.bel (by omega) _ _⟩
theorem pw_start {w : World} {sa : Bool} {va : Value} {la : List Nat} {wo : World} {so : Bool} {po : Option Addr} {no co : Nat} (da : DRow va la w)
    (hb : Below ((w.alloc (cN (.bool sa) va)).alloc (cN (.bool false) (.slice none 0 0))).heap.size ((w.alloc (cN (.bool sa) va)).alloc (cN (.bool false) (.slice none 0 0))) wo)
    (hv : NumV (.agg #[.bool so, .slice po no co]) 1 wo) : PW w sa va la wo.heap.size 1 (wo.alloc (cN (.bool so) (.slice po no co))) := by
  have hsz := hb.size
  simp only [World.size_alloc] at hsz
  have hw : Below w.heap.size w wo := (((Below.refl _ w).alloc (Nat.le_refl _) _).alloc (by simp) _).trans (hb.mono (by simp; omega))
  have hn : Below wo.heap.size wo (wo.alloc (cN (.bool so) (.slice po no co))) := (Below.refl _ wo).alloc (Nat.le_refl _) _
  have hall : ∀ (k : Nat) (o : Obj), k < w.heap.size + 2 → ((w.heap.push (cN (.bool sa) va)).push (cN (.bool false) (.slice none 0 0)))[k]? = some o → (wo.alloc (cN (.bool so) (.slice po no co))).heap[k]? = some o := fun k o hk h => (hn.block k (by omega)).trans ((hb.block k (by simp; omega)).trans h)
  have hwn := hw.trans (hn.mono hw.size)
  refine ⟨hall _ _ (by omega) ?_, hall _ _ (by omega) ?_, ⟨so, po, no, co, heap_alloc_new _ _, hv.below hn⟩, by omega, da.below hwn, hwn⟩
  · simp only [Array.getElem?_push, Array.size_push]
    repeat' split
    all_goals first | rfl | omega | (simp_all; done)
  · simp only [Array.getElem?_push, Array.size_push]
    repeat' split
    all_goals first | rfl | omega | (simp_all; done)
/-- A number, and whether, are told: by a variable of the call's own, and a slot. -/
theorem ret_num_ok {R : Ending → World → Prop} {fn : Func} {k k2 : Nat} (hf : fn.results = #[.cell k 31, .tmp k2]) (tmps : Array Value) (w : World) (b : Nat) (x y v : Value) (fr : Nat × Nat) (hp : tmps[k]? = some (.pointer (some ⟨b, 0, none⟩))) (hb : w.heap[b]? = some (.cells #[x, y] 31 fr)) (hp2 : tmps[k2]? = some v) (h : R (.returned (.tuple #[.agg #[x, y], v])) w) :
    bodyPost Try.prog fn R Exit.ret { tmps := tmps, defers := [] } w := by
  have h0 : w.cell? ⟨b, 0, none⟩ = some x := by simp [World.cell?, hb]
  have h1 : w.cell? ⟨b, 1, none⟩ = some y := by simp [World.cell?, hb]
  refine ⟨rfl, .tuple #[.agg #[x, y], v], ?_, h⟩
  simp [results, hf, hp, hp2, go_sem, h0, h1]
/-- Products, as a walk meets them. -/
theorem Mul_is {va vb : Value} {x y z : Int} {w : World} (ha : NumV va x w) (hb : NumV vb y w) (hx : x.natAbs < 65536 ^ 400) (hy : y.natAbs < 65536 ^ 400) (hz : x * y = z) :
    Calls Try.prog 27 #[va, vb] w fun e w' => ∃ s' pa n c, e = .returned (.agg #[.bool s', .slice pa n c]) ∧ Hid (NumV (.agg #[.bool s', .slice pa n c]) z w') ∧ Hid (Below w.heap.size w w') := by
  subst hz
  refine (Mul_num va vb x y w ha hb hx hy).mono ?_
  rintro e w' ⟨v', rfl, hr, hb⟩
  obtain ⟨s', pa, n, c, l', rfl, _⟩ := hr.form
  exact ⟨s', pa, n, c, rfl, hr, hb⟩
theorem big5 : 65536 ^ 5 * 9223372036854775808 < 65536 ^ 100 := by decide +kernel
theorem big100_400 : 65536 ^ 100 ≤ 65536 ^ 400 := by decide +kernel
theorem pow_step_lt {x : Int} {i : Nat} (hx : x.natAbs ≤ 9223372036854775808) (h : (x ^ i).natAbs < 65536 ^ 5) : (x ^ (i + 1)).natAbs < 65536 ^ 100 := by
  rw [Int.pow_succ, Int.natAbs_mul]
  have h1 : (x ^ i).natAbs * x.natAbs ≤ 65536 ^ 5 * 9223372036854775808 := Nat.mul_le_mul (by omega) hx
  have := big5
  generalize 65536 ^ 100 = A at *
  omega
theorem pow_over2 {x : Int} {i n : Nat} (hx : 1 ≤ x.natAbs) (hi : i ≤ n) (h : 65536 ^ 5 ≤ (x ^ i).natAbs) : Nu.fits (x ^ n) = false := by
  refine Nu.not_fits_of ?_
  have h1 := Nu.natAbs_pow_le hx hi
  have h2 : (9223372036854775808 : Nat) < 65536 ^ 5 := by decide
  omega

/-- What is told of a power. -/
def PowTold (x : Int) (n : Nat) (w : World) (e : Ending) (w' : World) : Prop := ∃ (s' : Bool) (pa : Option Addr) (n' c : Nat) (ok : Bool) (z' : Int), e = .returned (.tuple #[.agg #[.bool s', .slice pa n' c], .bool ok]) ∧ Hid (NumV (.agg #[.bool s', .slice pa n' c]) z' w') ∧ Hid (z'.natAbs < 65536 ^ 100) ∧ Hid (ok = true → z' = x ^ n) ∧ Hid (ok = false → Nu.fits (x ^ n) = false) ∧ Hid (Below w.heap.size w w')
/-- The result is laid. -/
theorem one_laid {w wr : World} {sa : Bool} {va : Value} {la : List Nat} {n1 : Nat} {z : Int} (h : PW w sa va la n1 z wr) {s : Bool} {pa : Option Addr} {n c : Nat} (hv : NumV (.agg #[.bool s, .slice pa n c]) z wr) :
    (put2 wr (w.heap.size + 1) (.bool s) (.slice pa n c)).heap[w.heap.size + 1]? = some (cN (.bool s) (.slice pa n c)) ∧ NumV (.agg #[.bool s, .slice pa n c]) z (put2 wr (w.heap.size + 1) (.bool s) (.slice pa n c)) ∧ Below w.heap.size w (put2 wr (w.heap.size + 1) (.bool s) (.slice pa n c)) :=
  ⟨num_set h.h1, hv.put2 h.h1 (fun d e => by cases e) (fun d e => by cases e), put2_below h.bel (by omega) _ _⟩
end Go.Proofs.Ytaekjkihdecmcaa
