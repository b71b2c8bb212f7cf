/-
  The reference's numbers: of an int, the other way, sums, at this program.
-/
import Derived.Test.YtaekjkihdecmcaaNuD
import Derived.Deep.RegionHeld3
set_option linter.unusedVariables false
set_option linter.unusedSimpArgs false
namespace Go.Proofs.Ytaekjkihdecmcaa
open Go.RowKit

theorem DRow.setc {v : Value} {l : List Nat} {w : World} {a : Addr} {u : Value} (h : DRow v l w) (hc : w.cell? a = some u) (hu : ∀ d : Nat, u ≠ dI d) (u' : Value) : DRow v l (w.setCell a u') := by
  rcases h with h | ⟨g, o, cap, e, hg, hcap, hcs⟩
  · exact Or.inl h
  · refine Or.inr ⟨g, o, cap, e, by simp [World.setCell]; exact hg, hcap, fun k c hk => ?_⟩
    have h1 := hcs k c hk
    rw [World.cell?_setCell_other _ _ _ _ (fun e => by subst e; rw [hc] at h1; exact hu c (Option.some.inj h1))]
    exact h1
theorem NumV.setc {v : Value} {z : Int} {w : World} {a : Addr} {u : Value} (h : NumV v z w) (hc : w.cell? a = some u) (hu : ∀ d : Nat, u ≠ dI d) (u' : Value) : NumV v z (w.setCell a u') := by
  obtain ⟨s, vd, l, e, hd, hs⟩ := h
  exact ⟨s, vd, l, e, hd.setc hc hu u', hs⟩
theorem NumV.form {v : Value} {z : Int} {w : World} (h : NumV v z w) : ∃ s pa n c l, v = .agg #[.bool s, .slice pa n c] ∧ DRow (.slice pa n c) l w ∧ n = l.length ∧ Nu.Says s l z := by
  obtain ⟨s, vd, l, rfl, hd, hs⟩ := h
  obtain ⟨pa, c, rfl⟩ := hd.form
  exact ⟨s, pa, _, c, l, rfl, hd, rfl, hs⟩
/-- How great a number is, by digits. -/
theorem says_len {s : Bool} {l : List Nat} {z : Int} (h : Nu.Says s l z) {k : Nat} (hk : z.natAbs < 65536 ^ k) : l.length ≤ k := Nu.len_of_lt h.2.1 (by rw [h.abs]; exact hk)
/-- Behind a number was stored in a variable of the call's own. -/
theorem num_stored {w2 : World} {b : Nat} {x0 x y : Value} {z : Int} (h : NumV (.agg #[x, y]) z w2) (hb : w2.heap[b]? = some (.cells #[x0, .slice none 0 0] 31)) (h0 : ∀ d : Nat, x0 ≠ dI d) : NumV (.agg #[x, y]) z ((w2.setCell ⟨b, 0, none⟩ x).setCell ⟨b, 1, none⟩ y) := by
  obtain ⟨_, c0, c1, _, _⟩ := num_cells hb
  refine (h.setc c0 h0 x).setc (u := .slice none 0 0) ?_ (fun d e => by cases e) y
  rw [World.cell?_setCell_other _ _ _ _ (fun e => by injection e with _ e _; omega)]
  exact c1
theorem below_stored {w w2 : World} {b B : Nat} (h : Below B w w2) (hb : B ≤ b) (x y : Value) : Below B w ((w2.setCell ⟨b, 0, none⟩ x).setCell ⟨b, 1, none⟩ y) := (h.setCell (p := ⟨b, 0, none⟩) hb x).setCell (p := ⟨b, 1, none⟩) hb y

theorem whole_num (s : Bool) (v : Value) (l : List Nat) (w : World) (h : DRow v l w) (hd : Nu.Dg l) (hl : l.length ≤ 100000) :
    Calls Try.prog 30 #[.bool s, v] w fun e w' => ∃ v', e = .returned v' ∧ NumV v' (Nu.sgn s (Nu.val l)) w' ∧ Below w.heap.size w w' := by
  refine (whole_any s v l w h hl).mono ?_
  rintro e w' ⟨v', rfl, hr, hb⟩
  exact ⟨_, rfl, ⟨_, v', _, rfl, hr, Nu.says_trimmed hd⟩, hb⟩
theorem whole_is {s : Bool} {v : Value} {l : List Nat} {z : Int} {w : World} (h : DRow v l w) (hd : Nu.Dg l) (hl : l.length ≤ 100000) (hz : Nu.sgn s (Nu.val l) = z) :
    Calls Try.prog 30 #[.bool s, v] w fun e w' => ∃ s' pa n c, e = .returned (.agg #[.bool s', .slice pa n c]) ∧ Hid (NumV (.agg #[.bool s', .slice pa n c]) z w') ∧ Hid (Below w.heap.size w w') := by
  subst hz
  refine (whole_num s v l w h hd hl).mono ?_
  rintro e w' ⟨v', rfl, hr, hb⟩
  obtain ⟨s', pa, n, c, l', rfl, _⟩ := hr.form
  exact ⟨s', pa, n, c, rfl, hr, hb⟩

abbrev zN : Array Value := #[.bool false, .slice none 0 0]

set_option maxHeartbeats 2000000 in
theorem Neg_num (v : Value) (z : Int) (w : World) (h : NumV v z w) (hz : z.natAbs < 65536 ^ 100) :
    Calls Try.prog 19 #[v] w fun e w' => ∃ v', e = .returned v' ∧ NumV v' (-z) w' ∧ Below w.heap.size w w' := by
  obtain ⟨s, pa, n, c, l, rfl, hd, hn, hs⟩ := h.form
  obtain ⟨W, hW⟩ : ∃ W, W = (w.alloc (.cells #[.bool s, .slice pa n c] 31)).alloc (.cells #[.bool false, .slice none 0 0] 31) := ⟨_, rfl⟩
  have hbW : Below w.heap.size w W := by rw [hW]; exact ((Below.refl _ w).alloc (Nat.le_refl _) _).alloc (by simp) _
  have hR : W.heap[w.heap.size + 1]? = some (.cells #[.bool false, .slice none 0 0] 31) := by
    rw [hW]
    show ((w.heap.push _).push _)[_]? = _
    rw [Array.getElem?_push, if_pos (by simp)]
  have hsW : W.heap.size = w.heap.size + 2 := by rw [hW]; simp
  have hw : Calls Try.prog 30 #[.bool (!s), .slice pa n c] W fun e w' => ∃ s' pa n c, e = .returned (.agg #[.bool s', .slice pa n c]) ∧ Hid (NumV (.agg #[.bool s', .slice pa n c]) (-z) w') ∧ Hid (Below W.heap.size W w') := by
    refine whole_is (hd.below hbW) hs.1 (Nat.le_trans (says_len hs hz) (by omega)) ?_
    rw [Nu.sgn_neg, hs.2.2.1]
  rw [hW] at hw
  have HF : Hid (∀ (w2 : World), Below W.heap.size W w2 → w2.heap[w.heap.size + 1]? = some (.cells #[.bool false, .slice none 0 0] 31) ∧ Below w.heap.size w w2) := (show ∀ _, _ from fun w2 hb => ⟨(hb.block _ (by omega)).trans hR, hbW.trans (hb.mono (by omega))⟩)
  rw [hW] at HF
  clear hW hbW hR hsW hd hn hs h hz
  cases s
  all_goals
    go_enter Try.func19, Try.ntmps19
    go_wp2_with (go_at_call 30; refine hw.mono ?_; clear hw; rintro e w2 ⟨s', pa', n', c', rfl, HV, HB⟩; obtain ⟨hR2, hB2⟩ := HF.out w2 HB.out; have HB2 := Lib.hid hB2; obtain ⟨HR2, c0, c1, f0, f1⟩ := num_cells hR2; clear hR2 hB2)
    refine ret_num rfl _ _ (w.heap.size + 1) _ _ _ rfl (num_set HR2.out) ?_
    exact ⟨_, rfl, num_stored HV.out HR2.out (fun d e => by cases e), below_stored HB2.out (by omega) _ _⟩

theorem says_four (s : Bool) (m : Nat) (h : m < 18446744073709551616) : Nu.sgn s (Nu.val (Nu.four m)) = Nu.sgn s m := by rw [Nu.four_val]
theorem four_row (w : World) (m : Nat) (h : m < 18446744073709551616) (b : Nat) (e : w.heap.size = b) : DRow (.slice (some ⟨b, 0, none⟩) 4 4) (Nu.four m) (w.alloc (.cells #[.int .i64 ((m : Int) % 65536), .int .i64 ((m : Int) / 65536 % 65536), .int .i64 ((m : Int) / 4294967296 % 65536), .int .i64 ((m : Int) / 281474976710656)] 3)) := by
  subst e
  exact own_drow (n := 4) (l := Nu.four m) (World.ownsRow_lit (base := w.heap.size) w #[.int .i64 ((m : Int) % 65536), .int .i64 ((m : Int) / 65536 % 65536), .int .i64 ((m : Int) / 4294967296 % 65536), .int .i64 ((m : Int) / 281474976710656)] 4 (Nat.le_refl _) (by decide) rfl)
theorem wrap_low {z : Int} (h1 : -9223372036854775808 ≤ z) (h : z < 0) : IntKind.u64.wrap z = z + 18446744073709551616 := by
  simp only [IntKind.wrap, IntKind.bits, IntKind.signed]
  simp
  omega
theorem wrap_neg {m : Nat} (h0 : 0 < m) (h1 : m ≤ 9223372036854775808) : IntKind.u64.wrap (-(-(m : Int) + 18446744073709551616)) = (m : Int) := by
  simp only [IntKind.wrap, IntKind.bits, IntKind.signed]
  simp
  omega

set_option maxHeartbeats 4000000 in
theorem Of_num (z : Int) (w : World) (h1 : -9223372036854775808 ≤ z) (h2 : z ≤ 9223372036854775807) :
    Calls Try.prog 20 #[.int .i64 z] w fun e w' => ∃ v', e = .returned v' ∧ NumV v' z w' ∧ Below w.heap.size w w' := by
  obtain ⟨m, hm⟩ : ∃ m, m = z.natAbs := ⟨_, rfl⟩
  have hm1 : m ≤ 9223372036854775808 := by omega
  obtain ⟨W, hW⟩ : ∃ W, W = (w.alloc (.cells #[.bool false, .slice none 0 0] 31)).alloc (.cells #[.int .i64 ((m : Int) % 65536), .int .i64 ((m : Int) / 65536 % 65536), .int .i64 ((m : Int) / 4294967296 % 65536), .int .i64 ((m : Int) / 281474976710656)] 3) := ⟨_, rfl⟩
  have hbW : Below w.heap.size w W := by rw [hW]; exact ((Below.refl _ w).alloc (Nat.le_refl _) _).alloc (by simp) _
  have hR : W.heap[w.heap.size]? = some (.cells #[.bool false, .slice none 0 0] 31) := by
    rw [hW]
    show ((w.heap.push _).push _)[_]? = _
    rw [Array.getElem?_push, if_neg (by simp), Array.getElem?_push, if_pos rfl]
  have hsW : W.heap.size = w.heap.size + 2 := by rw [hW]; simp
  have hrow : DRow (.slice (some ⟨w.heap.size + 1, 0, none⟩) 4 4) (Nu.four m) W := by rw [hW]; exact four_row _ m (by omega) _ (by simp)
  have hw : Calls Try.prog 30 #[.bool (decide (z < 0)), .slice (some ⟨w.heap.size + 1, 0, none⟩) 4 4] W fun e w' => ∃ s' pa n c, e = .returned (.agg #[.bool s', .slice pa n c]) ∧ Hid (NumV (.agg #[.bool s', .slice pa n c]) z w') ∧ Hid (Below W.heap.size W w') := by
    refine whole_is hrow (Nu.four_dg m (by omega)) (by simp [Nu.four]) ?_
    rw [Nu.four_val, hm, Nu.sgn_abs]
  rw [hW] at hw
  have HF : Hid (∀ (w2 : World), Below W.heap.size W w2 → w2.heap[w.heap.size]? = some (.cells #[.bool false, .slice none 0 0] 31) ∧ Below w.heap.size w w2) := (show ∀ _, _ from fun w2 hb => ⟨(hb.block _ (by omega)).trans hR, hbW.trans (hb.mono (by omega))⟩)
  rw [hW] at HF
  clear hW hbW hR hsW hrow
  by_cases hz : z < 0
  · have e1 := wrap_low h1 hz
    have e2 : IntKind.u64.wrap (-(z + 18446744073709551616)) = (m : Int) := by
      have := wrap_neg (m := m) (by omega) hm1
      rwa [show -(m : Int) = z by omega] at this
    rw [decide_eq_true hz] at hw
    clear hm h1 h2
    go_enter Try.func20, Try.ntmps20
    go_wp2_with (go_at_call 30; refine hw.mono ?_; clear hw; rintro e w2 ⟨s', pa', n', c', rfl, HV, HB⟩; obtain ⟨hR2, hB2⟩ := HF.out w2 HB.out; have HB2 := Lib.hid hB2; obtain ⟨HR2, c0, c1, f0, f1⟩ := num_cells hR2; clear hR2 hB2)
    refine ret_num rfl _ _ w.heap.size _ _ _ rfl (num_set HR2.out) ?_
    exact ⟨_, rfl, num_stored HV.out HR2.out (fun d e => by cases e), below_stored HB2.out (Nat.le_refl _) _ _⟩
  · obtain rfl : z = (m : Int) := by omega
    have e1 : IntKind.u64.wrap (m : Int) = (m : Int) := IntWalk.u64_in _ (by omega)
    clear hm hz h1
    go_enter Try.func20, Try.ntmps20
    go_wp2_with (go_at_call 30; refine hw.mono ?_; clear hw; rintro e w2 ⟨s', pa', n', c', rfl, HV, HB⟩; obtain ⟨hR2, hB2⟩ := HF.out w2 HB.out; have HB2 := Lib.hid hB2; obtain ⟨HR2, c0, c1, f0, f1⟩ := num_cells hR2; clear hR2 hB2)
    refine ret_num rfl _ _ w.heap.size _ _ _ rfl (num_set HR2.out) ?_
    exact ⟨_, rfl, num_stored HV.out HR2.out (fun d e => by cases e), below_stored HB2.out (Nat.le_refl _) _ _⟩
end Go.Proofs.Ytaekjkihdecmcaa
