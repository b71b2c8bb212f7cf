/-
  The state of the reference's Do: two numbers in variables, at this program.
-/
import Derived.Test.YtaekjkihdecmcaaNuL
import Derived.Lib.Strings
set_option linter.unusedVariables false
set_option linter.unusedSimpArgs false
namespace Go.Proofs.Ytaekjkihdecmcaa
open Go.RowKit

structure DS (w : World) (nx ny : Nat) (x y : Int) (wr : World) : Prop where
  ox : VarN wr nx x
  oy : VarN wr ny y
  hxy : nx < ny
  hx : w.heap.size ≤ nx
  bel : Below w.heap.size w wr
theorem DS.below {w : World} {nx ny : Nat} {x y : Int} {wr w2 : World} (h : DS w nx ny x y wr) (hb : Below wr.heap.size wr w2) : DS w nx ny x y w2 :=
  ⟨h.ox.below hb, h.oy.below hb, h.hxy, h.hx, h.bel.trans (hb.mono h.bel.size)⟩
theorem DS.setx {w : World} {nx ny : Nat} {x y z : Int} {wr : World} (h : DS w nx ny x y wr) {s : Bool} {pa : Option Addr} {n c : Nat} (hv : NumV (.agg #[.bool s, .slice pa n c]) z wr) : DS w nx ny z y (put2 wr nx (.bool s) (.slice pa n c)) := by
  have h1 := h.hxy
  exact ⟨h.ox.put hv, h.oy.other h.ox (by omega) _ _, h.hxy, h.hx, put2_below h.bel h.hx _ _⟩
theorem ds_start {w wo wp : World} {a b : Int} {so : Bool} {po : Option Addr} {no co : Nat} {sp : Bool} {pp : Option Addr} {np cp : Nat}
    (hob : Below w.heap.size w wo) (hov : NumV (.agg #[.bool so, .slice po no co]) a wo) (hpb : Below (wo.alloc (cN (.bool so) (.slice po no co))).heap.size (wo.alloc (cN (.bool so) (.slice po no co))) wp) (hpv : NumV (.agg #[.bool sp, .slice pp np cp]) b wp) :
    DS w wo.heap.size wp.heap.size a b (wp.alloc (cN (.bool sp) (.slice pp np cp))) := by
  have h1 : Below wo.heap.size wo (wo.alloc (cN (.bool so) (.slice po no co))) := (Below.refl _ wo).alloc (Nat.le_refl _) _
  have h2 : Below wp.heap.size wp (wp.alloc (cN (.bool sp) (.slice pp np cp))) := (Below.refl _ wp).alloc (Nat.le_refl _) _
  have hs := hpb.size
  simp only [World.size_alloc] at hs
  have v1 : VarN (wo.alloc (cN (.bool so) (.slice po no co))) wo.heap.size a := ⟨so, po, no, co, heap_alloc_new _ _, hov.below h1⟩
  exact ⟨(v1.below hpb).below h2, ⟨sp, pp, np, cp, heap_alloc_new _ _, hpv.below h2⟩, by omega, hob.size, ((hob.trans (h1.mono hob.size)).trans (hpb.mono (by simp; have := hob.size; omega))).trans (h2.mono (by have := hob.size; omega))⟩
/-- Two numbers are laid in new variables. -/
theorem two_new {w : World} {nx ny : Nat} {x y z1 z2 : Int} {wr : World} (h : DS w nx ny x y wr) {s1 : Bool} {p1 : Option Addr} {n1 c1 : Nat} {s2 : Bool} {p2 : Option Addr} {n2 c2 : Nat} (h1 : NumV (.agg #[.bool s1, .slice p1 n1 c1]) z1 wr) (h2 : NumV (.agg #[.bool s2, .slice p2 n2 c2]) z2 wr) :
    DS w nx ny x y ((wr.alloc (cN (.bool s1) (.slice p1 n1 c1))).alloc (cN (.bool s2) (.slice p2 n2 c2))) ∧ VarN ((wr.alloc (cN (.bool s1) (.slice p1 n1 c1))).alloc (cN (.bool s2) (.slice p2 n2 c2))) wr.heap.size z1 ∧ VarN ((wr.alloc (cN (.bool s1) (.slice p1 n1 c1))).alloc (cN (.bool s2) (.slice p2 n2 c2))) (wr.heap.size + 1) z2 ∧ ny < wr.heap.size := by
  have b1 : Below wr.heap.size wr (wr.alloc (cN (.bool s1) (.slice p1 n1 c1))) := (Below.refl _ wr).alloc (Nat.le_refl _) _
  have b2 : Below (wr.alloc (cN (.bool s1) (.slice p1 n1 c1))).heap.size (wr.alloc (cN (.bool s1) (.slice p1 n1 c1))) ((wr.alloc (cN (.bool s1) (.slice p1 n1 c1))).alloc (cN (.bool s2) (.slice p2 n2 c2))) := (Below.refl _ _).alloc (Nat.le_refl _) _
  have v1 : VarN (wr.alloc (cN (.bool s1) (.slice p1 n1 c1))) wr.heap.size z1 := ⟨s1, p1, n1, c1, heap_alloc_new _ _, h1.below b1⟩
  refine ⟨(h.below b1).below b2, v1.below b2, ⟨s2, p2, n2, c2, ?_, (h2.below b1).below b2⟩, h.oy.lt⟩
  have := heap_alloc_new (wr.alloc (cN (.bool s1) (.slice p1 n1 c1))) (cN (.bool s2) (.slice p2 n2 c2))
  simpa using this
theorem e9 : (18446744073709551616 : Nat) * 9223372036854775808 < 65536 ^ 100 := by decide +kernel
theorem e14 : 65536 ^ 100 ≤ 65536 ^ 400 := by decide +kernel
theorem e19 : 65536 ^ 100 ≤ 65536 ^ 900 := by decide +kernel
theorem int_lt1 {a : Int} (h1 : -9223372036854775808 ≤ a) (h2 : a ≤ 9223372036854775807) : a.natAbs < 65536 ^ 100 := Nat.lt_trans (by omega : a.natAbs < 18446744073709551616 * 9223372036854775808) e9
theorem int_lt4 {a : Int} (h1 : -9223372036854775808 ≤ a) (h2 : a ≤ 9223372036854775807) : a.natAbs < 65536 ^ 400 := Nat.lt_of_lt_of_le (int_lt1 h1 h2) e14
theorem int_lt9 {a : Int} (h1 : -9223372036854775808 ≤ a) (h2 : a ≤ 9223372036854775807) : a.natAbs < 65536 ^ 900 := Nat.lt_of_lt_of_le (int_lt1 h1 h2) e19
theorem lt9 {n : Nat} (h : n ≤ 9223372036854775808 * 9223372036854775808) : n < 65536 ^ 900 := Nat.lt_of_lt_of_le (Nat.lt_trans (by omega : n < 18446744073709551616 * 9223372036854775808) e9) e19
theorem sum_lt {a b : Int} (h1 : -9223372036854775808 ≤ a) (h2 : a ≤ 9223372036854775807) (h3 : -9223372036854775808 ≤ b) (h4 : b ≤ 9223372036854775807) : (a + b).natAbs < 65536 ^ 900 := lt9 (by omega)
theorem sub_lt {a b : Int} (h1 : -9223372036854775808 ≤ a) (h2 : a ≤ 9223372036854775807) (h3 : -9223372036854775808 ≤ b) (h4 : b ≤ 9223372036854775807) : (a + -b).natAbs < 65536 ^ 900 := lt9 (by omega)
theorem mul_lt {a b : Int} (h1 : -9223372036854775808 ≤ a) (h2 : a ≤ 9223372036854775807) (h3 : -9223372036854775808 ≤ b) (h4 : b ≤ 9223372036854775807) : (a * b).natAbs < 65536 ^ 900 := lt9 (by rw [Int.natAbs_mul]; exact Nat.mul_le_mul (by omega) (by omega))
theorem mod_lt {a b : Int} (h1 : -9223372036854775808 ≤ a) (h2 : a ≤ 9223372036854775807) (h3 : -9223372036854775808 ≤ b) (h4 : b ≤ 9223372036854775807) (h0 : b ≠ 0) : (a.fmod b).natAbs < 65536 ^ 900 := by
  have := (Nu.fits_iff _).1 (Nu.mod_fits (a := a) ((Nu.fits_iff b).2 ⟨h3, h4⟩) h0)
  exact lt9 (by omega)
theorem div_lt {a b : Int} (h1 : -9223372036854775808 ≤ a) (h2 : a ≤ 9223372036854775807) (h3 : -9223372036854775808 ≤ b) (h4 : b ≤ 9223372036854775807) (h0 : b ≠ 0) : (a.fdiv b).natAbs < 65536 ^ 900 := by
  rcases Nu.div_fits (a := a) ((Nu.fits_iff a).2 ⟨h1, h2⟩) h0 with h | ⟨e1, e2⟩
  · have := (Nu.fits_iff _).1 h
    exact lt9 (by omega)
  · subst e1 e2
    exact lt9 (by decide)
theorem Int_yes {v : Value} {z : Int} {w : World} (h : NumV v z w) (hf : Nu.fits z = true) (hz : z.natAbs < 65536 ^ 900) :
    Calls Try.prog 18 #[v] w fun e w' => e = .returned (.tuple #[.int .i64 z, .bool true]) ∧ Hid (Below w.heap.size w w') := by
  refine (Int_num v z w h hz).mono ?_
  rintro e w' ⟨r, rfl, hr, hb⟩
  rw [hr hf, hf]
  exact ⟨rfl, hb⟩
theorem Int_no {v : Value} {z : Int} {w : World} (h : NumV v z w) (hf : Nu.fits z = false) (hz : z.natAbs < 65536 ^ 900) :
    Calls Try.prog 18 #[v] w fun e w' => ∃ r : Int, e = .returned (.tuple #[.int .i64 r, .bool false]) ∧ Hid (Below w.heap.size w w') := by
  refine (Int_num v z w h hz).mono ?_
  rintro e w' ⟨r, rfl, hr, hb⟩
  rw [hf]
  exact ⟨r, rfl, hb⟩
/-- Quotients, as a walk meets them. -/
theorem Parts_is {va vb : Value} {x y : Int} {w : World} (ha : NumV va x w) (hb : NumV vb y w) (hx : x.natAbs < 65536 ^ 100) (hy : y.natAbs < 65536 ^ 100) (hy0 : y ≠ 0) :
    Calls Try.prog 28 #[va, vb] w fun e w' => ∃ s1 p1 n1 c1 s2 p2 n2 c2, e = .returned (.tuple #[.agg #[.bool s1, .slice p1 n1 c1], .agg #[.bool s2, .slice p2 n2 c2]]) ∧ Hid (NumV (.agg #[.bool s1, .slice p1 n1 c1]) (x.fdiv y) w') ∧ Hid (NumV (.agg #[.bool s2, .slice p2 n2 c2]) (x.fmod y) w') ∧ Hid (Below w.heap.size w w') := by
  refine (Parts_num va vb x y w ha hb hx hy hy0).mono ?_
  rintro e w' ⟨v1, v2, rfl, h1, h2, hb⟩
  obtain ⟨s1, p1, n1, c1, l1, rfl, _⟩ := h1.form
  obtain ⟨s2, p2, n2, c2, l2, rfl, _⟩ := h2.form
  exact ⟨s1, p1, n1, c1, s2, p2, n2, c2, rfl, h1, h2, hb⟩
end Go.Proofs.Ytaekjkihdecmcaa
