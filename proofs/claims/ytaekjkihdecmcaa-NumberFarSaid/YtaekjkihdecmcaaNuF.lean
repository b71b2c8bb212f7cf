/-
  The reference's sums of numbers, at this program.
-/
import Derived.Test.YtaekjkihdecmcaaNuE
import Derived.Deep.DeepCutAuto
set_option linter.unusedVariables false
set_option linter.unusedSimpArgs false
namespace Go.Proofs.Ytaekjkihdecmcaa
open Go.RowKit

theorem plus_is {va vb : Value} {a b : List Nat} {w : World} (ha : DRow va a w) (hb : DRow vb b w) (da : Nu.Dg a) (db : Nu.Dg b) (la : a.length ≤ 1000) (lb : b.length ≤ 1000) :
    Calls Try.prog 41 #[va, vb] w fun e w' => ∃ pr n c out, e = .returned (.slice pr n c) ∧ Hid (DRow (.slice pr n c) out w') ∧ Hid (Nu.Dg out ∧ Nu.val out = Nu.val a + Nu.val b ∧ out.length ≤ 1001) ∧ Hid (Below w.heap.size w w') := by
  refine (plus_any va vb a b w ha hb da db la lb).mono ?_
  rintro e w' ⟨v, out, rfl, hr, hd, hv, hl, hb⟩
  obtain ⟨pr, c, rfl⟩ := hr.form
  exact ⟨pr, _, c, out, rfl, hr, ⟨hd, hv, by omega⟩, hb⟩
theorem less_is {va vb : Value} {a b : List Nat} {w : World} (ha : DRow va a w) (hb : DRow vb b w) (da : Nu.Dg a) (db : Nu.Dg b) (tb : Nu.Trim b) (hab : Nu.val b ≤ Nu.val a) (la : a.length ≤ 1000) (lb : b.length ≤ 1000) :
    Calls Try.prog 43 #[va, vb] w fun e w' => ∃ pr n c out, e = .returned (.slice pr n c) ∧ Hid (DRow (.slice pr n c) out w') ∧ Hid (Nu.Dg out ∧ Nu.val out + Nu.val b = Nu.val a ∧ out.length ≤ 1001) ∧ Hid (Below w.heap.size w w') := by
  refine (less_any va vb a b w ha hb da db tb hab la lb).mono ?_
  rintro e w' ⟨v, out, rfl, hr, hd, hv, hl, hb⟩
  obtain ⟨pr, c, rfl⟩ := hr.form
  exact ⟨pr, _, c, out, rfl, hr, ⟨hd, hv, by omega⟩, hb⟩
/-- Two numbers in boxes, and a variable for the result. -/
def W3 (w : World) (sa : Bool) (va : Value) (sb : Bool) (vb : Value) : World := ((w.alloc (.cells #[.bool sa, va] 31)).alloc (.cells #[.bool sb, vb] 31)).alloc (.cells #[.bool false, .slice none 0 0] 31)
theorem W3_below (w : World) (sa : Bool) (va : Value) (sb : Bool) (vb : Value) : Below w.heap.size w (W3 w sa va sb vb) := (((Below.refl _ w).alloc (Nat.le_refl _) _).alloc (by simp) _).alloc (by simp; omega) _
theorem W3_size (w : World) (sa : Bool) (va : Value) (sb : Bool) (vb : Value) : (W3 w sa va sb vb).heap.size = w.heap.size + 3 := by simp [W3]
theorem W3_facts (w : World) (sa : Bool) (va : Value) (sb : Bool) (vb : Value) (w2 : World) (h : Below (w.heap.size + 3) (W3 w sa va sb vb) w2) :
    w2.cell? ⟨w.heap.size, 0, none⟩ = some (.bool sa) ∧ w2.cell? ⟨w.heap.size, 1, none⟩ = some va ∧ w2.cell? ⟨w.heap.size + 1, 0, none⟩ = some (.bool sb) ∧ w2.cell? ⟨w.heap.size + 1, 1, none⟩ = some vb ∧
    w2.heap[w.heap.size + 2]? = some (.cells #[.bool false, .slice none 0 0] 31) ∧ Below w.heap.size w w2 ∧ w.heap.size + 3 ≤ w2.heap.size := by
  have hs := h.size
  rw [W3_size] at hs
  have h0 : w2.heap[w.heap.size]? = some (.cells #[.bool sa, va] 31) := by
    rw [h.block _ (by omega)]
    show (((w.heap.push _).push _).push _)[_]? = _
    simp only [Array.getElem?_push, Array.size_push]
    rw [if_neg (by omega), if_neg (by omega), if_true]
  have h1 : w2.heap[w.heap.size + 1]? = some (.cells #[.bool sb, vb] 31) := by
    rw [h.block _ (by omega)]
    show (((w.heap.push _).push _).push _)[_]? = _
    simp only [Array.getElem?_push, Array.size_push]
    rw [if_neg (by omega), if_true]
  have h2 : w2.heap[w.heap.size + 2]? = some (.cells #[.bool false, .slice none 0 0] 31) := by
    rw [h.block _ (by omega)]
    show (((w.heap.push _).push _).push _)[_]? = _
    simp only [Array.getElem?_push, Array.size_push]
    rw [if_true]
  refine ⟨?_, ?_, ?_, ?_, h2, (W3_below w sa va sb vb).trans (h.mono (by omega)), hs⟩
  all_goals simp [World.cell?, h0, h1]
theorem heap_drew_eq (w : World) : w.drew.heap = w.heap := rfl
theorem DRow.drew {v : Value} {l : List Nat} {w : World} (h : DRow v l w) : DRow v l w.drew := by
  rcases h with h | ⟨g, o, cap, e, hg, hcap, hcs⟩
  · exact Or.inl h
  · exact Or.inr ⟨g, o, cap, e, by rw [heap_drew_eq]; exact hg, hcap, fun k c hk => by rw [World.cell?_drew]; exact hcs k c hk⟩

theorem far2 {w : World} {b c o : Nat} {v x y : Value} (h : w.cell? ⟨c, o, none⟩ = some v) (hne : b ≠ c) : ((w.setCell ⟨b, 0, none⟩ x).setCell ⟨b, 1, none⟩ y).cell? ⟨c, o, none⟩ = some v := by
  rw [World.cell?_setCell_other _ _ _ _ (fun e => by injection e with e; exact hne e), World.cell?_setCell_other _ _ _ _ (fun e => by injection e with e; exact hne e)]
  exact h

set_option maxHeartbeats 8000000 in
theorem Add_num (va vb : Value) (x y : Int) (w : World) (ha : NumV va x w) (hb : NumV vb y w) (hx : x.natAbs < 65536 ^ 900) (hy : y.natAbs < 65536 ^ 900) :
    Calls Try.prog 26 #[va, vb] w fun e w' => ∃ v', e = .returned v' ∧ NumV v' (x + y) w' ∧ Below w.heap.size w w' := by
  obtain ⟨sa, pa, na, ca, la, rfl, da, hna, ja⟩ := ha.form
  obtain ⟨sb, pb, nb, cb, lb, rfl, db, hnb, jb⟩ := hb.form
  have lla := says_len ja hx
  have llb := says_len jb hy
  have HF : Hid (∀ w2, Below (w.heap.size + 3) (W3 w sa (.slice pa na ca) sb (.slice pb nb cb)) w2 → _) := (show ∀ _, _ from W3_facts w sa (.slice pa na ca) sb (.slice pb nb cb))
  have hbW := W3_below w sa (.slice pa na ca) sb (.slice pb nb cb)
  have hsW := W3_size w sa (.slice pa na ca) sb (.slice pb nb cb)
  have hPL : ∀ wq, Below w.heap.size w wq → Calls Try.prog 41 #[.slice pa na ca, .slice pb nb cb] wq fun e w' => ∃ pr n c out, e = .returned (.slice pr n c) ∧ Hid (DRow (.slice pr n c) out w') ∧ Hid (Nu.Dg out ∧ Nu.val out = Nu.val la + Nu.val lb ∧ out.length ≤ 1001) ∧ Hid (Below wq.heap.size wq w') :=
    fun wq hq => plus_is (da.below hq) (db.below hq) ja.1 jb.1 (by omega) (by omega)
  have hCM : ∀ wq, Below w.heap.size w wq → Calls Try.prog 42 #[.slice pa na ca, .slice pb nb cb] wq fun e w' => ∃ c : Int, e = .returned (.int .i64 c) ∧ (0 ≤ c ↔ Nu.val lb ≤ Nu.val la) ∧ w' = wq :=
    fun wq hq => compare_any _ _ la lb wq (da.below hq) (db.below hq) ja.1 jb.1 (by omega) (by omega)
  have hLA : Nu.val lb ≤ Nu.val la → ∀ wq, Below w.heap.size w wq → Calls Try.prog 43 #[.slice pa na ca, .slice pb nb cb] wq fun e w' => ∃ pr n c out, e = .returned (.slice pr n c) ∧ Hid (DRow (.slice pr n c) out w') ∧ Hid (Nu.Dg out ∧ Nu.val out + Nu.val lb = Nu.val la ∧ out.length ≤ 1001) ∧ Hid (Below wq.heap.size wq w') :=
    fun hv wq hq => less_is (da.below hq) (db.below hq) ja.1 jb.1 jb.2.1 hv (by omega) (by omega)
  have hLB : Nu.val la ≤ Nu.val lb → ∀ wq, Below w.heap.size w wq → Calls Try.prog 43 #[.slice pb nb cb, .slice pa na ca] wq fun e w' => ∃ pr n c out, e = .returned (.slice pr n c) ∧ Hid (DRow (.slice pr n c) out w') ∧ Hid (Nu.Dg out ∧ Nu.val out + Nu.val la = Nu.val lb ∧ out.length ≤ 1001) ∧ Hid (Below wq.heap.size wq w') :=
    fun hv wq hq => less_is (db.below hq) (da.below hq) jb.1 ja.1 ja.2.1 hv (by omega) (by omega)
  have HPL := Lib.hid hPL
  have HCM := Lib.hid hCM
  have HLA := Lib.hid hLA
  have HLB := Lib.hid hLB
  have JA := Lib.hid ja
  have JB := Lib.hid jb
  clear hPL hCM hLA hLB ja jb ha hb hx hy lla llb hna hnb da db
  obtain ⟨W, hW⟩ : ∃ W, W = W3 w sa (.slice pa na ca) sb (.slice pb nb cb) := ⟨_, rfl⟩
  rw [← hW] at hbW hsW HF
  have HF2 : Hid (∀ w2, Below W.drew.heap.size W.drew w2 → _) := (show ∀ w2, Below W.drew.heap.size W.drew w2 → _ from fun w2 h => HF.out w2 (by rw [← hsW]; exact ⟨h.os, h.tape, h.output, h.size, h.block⟩))
  obtain ⟨k0, k1, k2, k3, kR, kB, kS⟩ := HF2.out W.drew (Below.refl _ _)
  have KB := Lib.hid kB
  have HSW := Lib.hid hsW
  have HBW := Lib.hid hbW
  unfold W3 at hW
  clear kR kB hsW hbW
  by_cases hs : sa = sb
  · subst hs
    have hz : ∀ q : Nat, q = Nu.val la + Nu.val lb → Nu.sgn sa q = x + y := fun q hq => by rw [hq, ← Nu.sgn_add_same, ← JA.out.2.2.1, ← JB.out.2.2.1]
    have HZ := Lib.hid hz
    have hcl := HPL.out W.drew HBW.out.drew
    clear hz
    go_enter Try.func26, Try.ntmps26
    go_upto_region 2 with fail
    rw [← hW]
    have HW := Lib.hid hW
    clear hW
    go_region_held3 (fun w' => w'.cell? ⟨w.heap.size, 0, none⟩ = some (.bool sa) ∧ w'.cell? ⟨w.heap.size, 1, none⟩ = some (.slice pa na ca) ∧ w'.cell? ⟨w.heap.size + 1, 1, none⟩ = some (.slice pb nb cb))
      (first
        | (go_keep; done)
        | with_reducible exact ⟨q0, q1, q3⟩
        | with_reducible exact ⟨p0, p1, p3⟩
        | with_reducible exact ⟨k0, k1, k3⟩
        | (refine ⟨far2 q0 ?_, far2 q1 ?_, far2 q3 ?_⟩ <;> omega)
        | fail)
      ((first
        | (go_at_call 41; refine hcl.mono ?_; rintro e wp ⟨pr, nr, cr, out, rfl, HR, HO, HB⟩; obtain ⟨p0, p1, p2, p3, pR, pB, pS⟩ := HF2.out wp HB.out)
        | (go_at_call 30; refine (whole_is HR.out HO.out.1 (by have := HO.out.2.2; omega) (HZ.out _ HO.out.2.1)).mono ?_; rintro e wv ⟨s', pv, nv, cv, rfl, HV, HBV⟩; obtain ⟨q0, q1, q2, q3, qR, qB, qS⟩ := HF2.out wv (HB.out.trans (HBV.out.mono HB.out.size)); have QB := Lib.hid qB; obtain ⟨HQ, c0, c1, f0, f1⟩ := num_cells qR; clear qR qB)))
    go_wp2_with fail
    refine ret_num rfl _ _ (w.heap.size + 2) _ _ _ rfl (num_set HQ.out) ?_
    exact ⟨_, rfl, num_stored HV.out HQ.out (fun d e => by cases e), below_stored QB.out (by omega) _ _⟩
  · have hne : (sa == sb) = false := by simpa using hs
    by_cases hv : Nu.val lb ≤ Nu.val la
    · have hz : ∀ q : Nat, q + Nu.val lb = Nu.val la → Nu.sgn sa q = x + y := fun q hq => by rw [JA.out.2.2.1, JB.out.2.2.1, Nu.sgn_add_diff hs hq]
      have HZ := Lib.hid hz
      have hcl := HLA.out hv W.drew HBW.out.drew
      have hcm : Calls Try.prog 42 #[.slice pa na ca, .slice pb nb cb] W fun e w' => ∃ c : Int, e = .returned (.int .i64 c) ∧ 0 ≤ c ∧ w' = W := (HCM.out W HBW.out).mono fun e w' ⟨c, h1, h2, h3⟩ => ⟨c, h1, h2.2 hv, h3⟩
      rw [hW] at hcm
      clear hz hv hs
      go_enter Try.func26, Try.ntmps26
      go_upto_region 4 with (go_at_call 42; refine hcm.mono ?_; clear hcm; rintro e w' ⟨c, rfl, hc, rfl⟩)
      rw [← hW]
      have HW := Lib.hid hW
      clear hW
      go_region_held3 (fun w' => w'.cell? ⟨w.heap.size, 0, none⟩ = some (.bool sa) ∧ w'.cell? ⟨w.heap.size, 1, none⟩ = some (.slice pa na ca) ∧ w'.cell? ⟨w.heap.size + 1, 1, none⟩ = some (.slice pb nb cb))
        (first
          | (go_keep; done)
          | with_reducible exact ⟨q0, q1, q3⟩
          | with_reducible exact ⟨p0, p1, p3⟩
          | with_reducible exact ⟨k0, k1, k3⟩
          | (refine ⟨far2 q0 ?_, far2 q1 ?_, far2 q3 ?_⟩ <;> omega)
          | fail)
        ((first
          | (go_at_call 43; refine hcl.mono ?_; rintro e wp ⟨pr, nr, cr, out, rfl, HR, HO, HB⟩; obtain ⟨p0, p1, p2, p3, pR, pB, pS⟩ := HF2.out wp HB.out)
          | (go_at_call 30; refine (whole_is HR.out HO.out.1 (by have := HO.out.2.2; omega) (HZ.out _ HO.out.2.1)).mono ?_; rintro e wv ⟨s', pv, nv, cv, rfl, HV, HBV⟩; obtain ⟨q0, q1, q2, q3, qR, qB, qS⟩ := HF2.out wv (HB.out.trans (HBV.out.mono HB.out.size)); have QB := Lib.hid qB; obtain ⟨HQ, c0, c1, f0, f1⟩ := num_cells qR; clear qR qB)))
      go_wp2_with fail
      refine ret_num rfl _ _ (w.heap.size + 2) _ _ _ rfl (num_set HQ.out) ?_
      exact ⟨_, rfl, num_stored HV.out HQ.out (fun d e => by cases e), below_stored QB.out (by omega) _ _⟩
    · have hv2 : Nu.val la ≤ Nu.val lb := by omega
      have hz : ∀ q : Nat, q + Nu.val la = Nu.val lb → Nu.sgn sb q = x + y := fun q hq => by rw [JA.out.2.2.1, JB.out.2.2.1, Int.add_comm, Nu.sgn_add_diff (fun e => hs e.symm) hq]
      have HZ := Lib.hid hz
      have hcl := HLB.out hv2 W.drew HBW.out.drew
      have hcm : Calls Try.prog 42 #[.slice pa na ca, .slice pb nb cb] W fun e w' => ∃ c : Int, e = .returned (.int .i64 c) ∧ ¬ 0 ≤ c ∧ w' = W := (HCM.out W HBW.out).mono fun e w' ⟨c, h1, h2, h3⟩ => ⟨c, h1, fun h => hv (h2.1 h), h3⟩
      rw [hW] at hcm
      clear hz hv hv2 hs
      go_enter Try.func26, Try.ntmps26
      go_upto_region 5 with (go_at_call 42; refine hcm.mono ?_; clear hcm; rintro e w' ⟨c, rfl, hc, rfl⟩)
      rw [← hW]
      have HW := Lib.hid hW
      clear hW
      go_region_held3 (fun w' => w'.cell? ⟨w.heap.size, 1, none⟩ = some (.slice pa na ca) ∧ w'.cell? ⟨w.heap.size + 1, 0, none⟩ = some (.bool sb) ∧ w'.cell? ⟨w.heap.size + 1, 1, none⟩ = some (.slice pb nb cb))
        (first
          | (go_keep; done)
          | with_reducible exact ⟨q1, q2, q3⟩
          | with_reducible exact ⟨p1, p2, p3⟩
          | with_reducible exact ⟨k1, k2, k3⟩
          | (refine ⟨far2 q1 ?_, far2 q2 ?_, far2 q3 ?_⟩ <;> omega)
          | fail)
        ((first
          | (go_at_call 43; refine hcl.mono ?_; rintro e wp ⟨pr, nr, cr, out, rfl, HR, HO, HB⟩; obtain ⟨p0, p1, p2, p3, pR, pB, pS⟩ := HF2.out wp HB.out)
          | (go_at_call 30; refine (whole_is HR.out HO.out.1 (by have := HO.out.2.2; omega) (HZ.out _ HO.out.2.1)).mono ?_; rintro e wv ⟨s', pv, nv, cv, rfl, HV, HBV⟩; obtain ⟨q0, q1, q2, q3, qR, qB, qS⟩ := HF2.out wv (HB.out.trans (HBV.out.mono HB.out.size)); have QB := Lib.hid qB; obtain ⟨HQ, c0, c1, f0, f1⟩ := num_cells qR; clear qR qB)))
      go_wp2_with fail
      refine ret_num rfl _ _ (w.heap.size + 2) _ _ _ rfl (num_set HQ.out) ?_
      exact ⟨_, rfl, num_stored HV.out HQ.out (fun d e => by cases e), below_stored QB.out (by omega) _ _⟩
end Go.Proofs.Ytaekjkihdecmcaa
