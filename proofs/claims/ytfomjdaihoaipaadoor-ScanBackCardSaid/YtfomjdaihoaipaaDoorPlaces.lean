/-
  Where a line begins moves all places by as much: the walk of the statement ScanPlaces.
-/
import Derived.Test.YtfomjdaihoaipaaDoorShift
import Derived.Deep.DeepCutAuto
import Derived.Deep.QuietTactic
import Derived.BigQuiet
import Derived.IntWalk
set_option linter.unusedVariables false
set_option linter.unusedSimpArgs false
namespace Go.Proofs.YtfomjdaihoaipaaDoor
open Go.RowKit Go.Shelf

namespace Sp
theorem lexAt_places : ∀ (f : Nat) (l : Bs) (pos : Nat) (ts : List (Nat × Tk)), l.length ≤ f → lexAt pos l = .ok ts → (∀ x ∈ ts, pos ≤ x.1 ∧ x.1 < pos + l.length) ∧ ts.Pairwise (fun x y => x.1 < y.1) := by
  intro f
  induction f with
  | zero =>
    intro l pos ts hl h
    have : l = [] := by cases l with | nil => rfl | cons => simp at hl
    subst this
    cases h
    simp
  | succ f ih =>
    intro l pos ts hl h
    cases l with
    | nil => cases h; simp
    | cons c r =>
      simp only [List.length_cons] at hl
      by_cases h32 : c.toNat = 32
      · rw [lexAt_blank _ _ _ h32] at h
        obtain ⟨h1, h2⟩ := ih r (pos + 1) ts (by omega) h
        exact ⟨fun x hx => by have := h1 x hx; simp; omega, h2⟩
      · by_cases h35 : c.toNat = 35
        · rw [lexAt_hash _ _ _ h35] at h; cases h; simp
        · cases ht : tok1 (c :: r) with
          | error e => rw [lexAt_err _ _ _ h32 h35 e ht] at h; cases h
          | ok t =>
            rw [lexAt_tok _ _ _ h32 h35 t ht] at h
            have hs := tok1_size ht
            cases hr : lexAt (pos + t.size) ((c :: r).drop t.size) with
            | error y => rw [hr] at h; cases h
            | ok us =>
              rw [hr] at h
              cases h
              obtain ⟨h1, h2⟩ := ih ((c :: r).drop t.size) (pos + t.size) us (by simp; omega) hr
              simp only [List.length_drop] at h1
              simp only [List.length_cons] at h1 hs
              refine ⟨?_, ?_⟩
              · intro x hx
                rcases List.mem_cons.1 hx with rfl | hx
                · simp
                · have := h1 x hx; simp; omega
              · refine List.pairwise_cons.2 ⟨?_, h2⟩
                intro x hx
                have := h1 x hx
                show pos < x.1
                omega
theorem lex_places {l : Bs} {ts : List (Nat × Tk)} (h : lex l = .ok ts) : (∀ (k : Nat) x, ts[k]? = some x → x.1 < l.length) ∧ ∀ (k : Nat) x y, ts[k]? = some x → ts[k + 1]? = some y → x.1 < y.1 := by
  obtain ⟨h1, h2⟩ := lexAt_places l.length l 0 ts (Nat.le_refl _) h
  refine ⟨fun k x hx => ?_, fun k x y hx hy => ?_⟩
  · have := h1 x (List.mem_of_getElem? hx)
    omega
  · obtain ⟨hk, ex⟩ := List.getElem?_eq_some_iff.1 hx
    obtain ⟨hk1, ey⟩ := List.getElem?_eq_some_iff.1 hy
    have := List.pairwise_iff_getElem.1 h2 k (k + 1) hk hk1 (by omega)
    rw [ex, ey] at this
    exact this
theorem lexAt_count : ∀ (f : Nat) (l : Bs) (pos : Nat) (ts : List (Nat × Tk)), l.length ≤ f → lexAt pos l = .ok ts → ts.length ≤ l.length := by
  intro f
  induction f with
  | zero =>
    intro l pos ts hl h
    have : l = [] := by cases l with | nil => rfl | cons => simp at hl
    subst this
    cases h
    simp
  | succ f ih =>
    intro l pos ts hl h
    cases l with
    | nil => cases h; simp
    | cons c r =>
      simp only [List.length_cons] at hl
      by_cases h32 : c.toNat = 32
      · rw [lexAt_blank _ _ _ h32] at h
        have := ih r (pos + 1) ts (by omega) h
        simp; omega
      · by_cases h35 : c.toNat = 35
        · rw [lexAt_hash _ _ _ h35] at h; cases h; simp
        · cases ht : tok1 (c :: r) with
          | error e => rw [lexAt_err _ _ _ h32 h35 e ht] at h; cases h
          | ok t =>
            rw [lexAt_tok _ _ _ h32 h35 t ht] at h
            have hs := tok1_size ht
            cases hr : lexAt (pos + t.size) ((c :: r).drop t.size) with
            | error y => rw [hr] at h; cases h
            | ok us =>
              rw [hr] at h
              cases h
              have := ih ((c :: r).drop t.size) (pos + t.size) us (by simp; omega) hr
              simp only [List.length_drop, List.length_cons] at this hs
              simp
              omega
theorem lex_count {l : Bs} {ts : List (Nat × Tk)} (h : lex l = .ok ts) : ts.length ≤ l.length := lexAt_count l.length l 0 ts (Nat.le_refl _) h
end Sp

theorem wrap_diff (a b p : Int) : wrap64 (wrap64 (b + p) - wrap64 (a + p)) = wrap64 (b - a) := by
  unfold wrap64
  omega
theorem wrap_move (a b p : Int) : wrap64 (wrap64 (a + p) + wrap64 (b - a)) = wrap64 (b + p) := by
  unfold wrap64
  omega
theorem shift_abs (a b : Int) (ts : List (Nat × Sp.Tk)) : (ts.map (abs4 a)).map (sh4 (wrap64 (b - a))) = ts.map (abs4 b) := by
  rw [List.map_map]
  apply List.map_congr_left
  intro x _
  simp only [Function.comp, sh4, abs4]
  rw [wrap_move]

theorem quiet_sum {f : FuncId} {args : Array Value} {w : World} {q x : Nat} {v : Value} (h : Calls Tryd.prog f args (w.drewN (q + x)) fun e w' => e = .returned v ∧ w' = w.drewN (q + x)) :
    Calls Tryd.prog f args (w.drewN (q + x)) fun e w'' => e = .returned v ∧ ∃ n, w'' = w.drewN (q + n) := h.mono fun _ _ ⟨a, b⟩ => ⟨a, x, b⟩

namespace lawPlaces
set_option maxHeartbeats 8000000 in
set_option maxRecDepth 100000 in
theorem walk (s : ByteArray) (a b : Int) (hs : s.size ≤ maxLen) (w : World) (hE : Env w) : Calls Tryd.prog 8 #[.string s, .int .i64 a, .int .i64 b] w fun e w' => e = .returned (.bool true) ∧ Below w.heap.size w w' := by
  obtain ⟨f, HF⟩ := hid_ex (s.extract 0 (min s.size 100))
  have hf : f.size ≤ 100 := by rw [← HF.out]; simp [ByteArray.size_extract]; omega
  have HFEW : Hid (∀ w, Calls Tryd.prog 17 #[.string s] w fun e w' => e = .returned (.string f) ∧ w = w') := by
    intro w
    rw [← HF.out]
    exact few_any s w hs
  obtain ⟨X, HX⟩ := hid_ex (Sp.lex f.data.toList)
  clear HF
  go_enter Tryd.func8, Tryd.ntmps8
  go_wp2_with fail
  refine (shown_any w hE).mono ?_
  rintro e w1 ⟨rfl, hb1⟩
  have hE1 := hE.below hb1 hE.size
  go_wp2_with fail
  refine (HFEW.out w1).mono ?_
  rintro e w1' ⟨rfl, rfl⟩
  go_wp2_with fail
  refine (line_is HX (by omega) a w1 hE1).mono ?_
  rintro e w2 ⟨hl2, hb2'⟩
  have hb2 := hb1.trans (hb2'.mono hb1.size)
  have hE2 := hE.below hb2 hE.size
  clear hb2' hb1 hE1
  cases X with
  | error y =>
    obtain ⟨p, er⟩ := y
    have her := (lex_err HX.out).1
    have ger0 : ((er : Int) != 0) = true := by rcases her with rfl | rfl | rfl <;> decide
    have gw : (wrap64 (wrap64 (b + (p : Int)) - wrap64 (a + (p : Int))) == wrap64 (b - a)) = true := by rw [wrap_diff]; simp
    obtain rfl := hl2
    clear her
    go_wp2_with fail
    refine (HFEW.out w2).mono ?_
    rintro e w2' ⟨rfl, rfl⟩
    go_wp2_with fail
    refine (line_is HX (by omega) b w2 hE2).mono ?_
    rintro e w3 ⟨rfl, hb3'⟩
    have hb3 := hb2.trans (hb3'.mono hb2.size)
    have hE3 := hE.below hb3 hE.size
    clear hb3' hb2 hE2
    go_wp2_with fail
    refine (HFEW.out w3).mono ?_
    rintro e w3' ⟨rfl, rfl⟩
    go_wp2_with fail
    refine (line_is HX (by omega) 0 w3 hE3).mono ?_
    rintro e w4 ⟨rfl, hb4'⟩
    have hb4 := hb3.trans (hb4'.mono hb3.size)
    clear hb4' hb3 hE3 HX HFEW
    go_wp2_with fail
    go_ret
    exact ⟨rfl, hb4⟩
  | ok ts =>
    obtain ⟨va, rfl, hra⟩ := hl2
    have hcnt := Sp.lex_count HX.out
    rw [size_list] at hcnt
    obtain ⟨hp1, hp2⟩ := Sp.lex_places HX.out
    rw [size_list] at hp1
    have P1 := Lib.hid hp1
    have P2 := Lib.hid hp2
    clear hp1 hp2
    have RA := hra.row4
    clear hra
    go_wp2_with fail
    refine (HFEW.out w2).mono ?_
    rintro e w2' ⟨rfl, rfl⟩
    go_wp2_with fail
    refine (line_is HX (by omega) b w2 hE2).mono ?_
    rintro e w3 ⟨⟨vb, rfl, hrb⟩, hb3'⟩
    have hb3 := hb2.trans (hb3'.mono hb2.size)
    have RA3 := RA.below hb3'
    have RB := hrb.row4
    have hE3 := hE.below hb3 hE.size
    clear hb3' hb2 hE2 hrb RA
    go_wp2_with fail
    refine (HFEW.out w3).mono ?_
    rintro e w3' ⟨rfl, rfl⟩
    go_wp2_with fail
    refine (line_is HX (by omega) 0 w3 hE3).mono ?_
    rintro e w4 ⟨⟨vc, rfl, hrc⟩, hb4'⟩
    have hb4 := hb3.trans (hb4'.mono hb3.size)
    have RA4 := Lib.hid (RA3.below hb4')
    have RB4 := Lib.hid (RB.below hb4')
    have RC := hrc.row4
    obtain ⟨pc, cc, rfl, fc⟩ := RC.form
    simp only [List.length_map]
    have FC := Lib.hid fc
    have HCNT := Lib.hid hcnt
    have hL : ts.length ≤ 100 := by omega
    have QFEW : Hid (∀ w, Calls Tryd.prog 17 #[.string s] w fun e w' => e = .returned (.string f) ∧ w' = w) := by
      intro w
      refine (HFEW.out w).mono ?_
      rintro e w' ⟨h1, h2⟩
      exact ⟨h1, h2.symm⟩
    clear hb4' hb3 hE3 HX RA3 RB hrc RC fc hcnt HFEW
    go_wp2_with fail
    go_loopw [17] (fun i wr => ∃ k : Nat, i = .int .i64 k ∧ k ≤ ts.length ∧ ∃ q, wr = w4.drewN q) (fun i wr => ts.length - (intOf i).toNat)
    case atStart => exact ⟨0, rfl, Nat.zero_le _, 0, rfl⟩
    case round =>
      obtain ⟨k, rfl, hk, q, rfl⟩ := hrel
      by_cases hlt : k < ts.length
      · obtain ⟨x, hx⟩ : ∃ x, ts[k]? = some x := ⟨_, List.getElem?_eq_getElem hlt⟩
        obtain ⟨g, rfl, hg, _, _, a1, _, _⟩ := FC.out k (abs4 0 x) (by rw [List.getElem?_map, hx]; rfl)
        have hp := P1.out k x hx
        have e1 : wrap64 (0 + (x.1 : Int)) = (x.1 : Int) := by unfold wrap64; omega
        have a1' : w4.cell? ⟨g, k * 4 + 1, none⟩ = some (.int .i64 (x.1 : Int)) := by rw [← e1]; exact a1
        obtain ⟨p, hpx⟩ : ∃ p, p = x.1 := ⟨_, rfl⟩
        rw [← hpx] at a1' hp
        clear a1 e1
        by_cases h0 : k = 0
        · have gk : decide ((0 : Int) < (k : Int)) = false := by simp; omega
          have gk' : decide (0 < k) = false := by simp; omega
          have gp : decide ((f.size : Int) ≤ (p : Int)) = false := by simp; omega
          have gp' : decide (f.size ≤ p) = false := by simp; omega
          have gp0 : decide ((p : Int) < 0) = false := by simp
          clear hpx hx hg FC P2 RA4 RB4 h0
          go_wp2_with fail
          go_big_quiet ((go_at_call 17; exact quiet_sum (QFEW.out _)))
          go_wp2_with fail
          refine ⟨⟨k + 1, by go_num, by omega, _, rfl⟩, by simp [intOf]; omega⟩
        · obtain ⟨y, hy⟩ : ∃ y, ts[k - 1]? = some y := ⟨_, List.getElem?_eq_getElem (by omega)⟩
          obtain ⟨g', hgg, _, _, _, c1, _, _⟩ := FC.out (k - 1) (abs4 0 y) (by rw [List.getElem?_map, hy]; rfl)
          obtain rfl : g = g' := by simpa using hgg
          have hyp := P1.out (k - 1) y hy
          have hxy := P2.out (k - 1) y x hy (by rw [show k - 1 + 1 = k by omega]; exact hx)
          have e1 : wrap64 (0 + (y.1 : Int)) = (y.1 : Int) := by unfold wrap64; omega
          have c1' : w4.cell? ⟨g, (k - 1) * 4 + 1, none⟩ = some (.int .i64 (y.1 : Int)) := by rw [← e1]; exact c1
          obtain ⟨p', hpy⟩ : ∃ p', p' = y.1 := ⟨_, rfl⟩
          rw [← hpy] at c1' hxy hyp
          rw [← hpx] at hxy
          have gk : decide ((0 : Int) < (k : Int)) = true := by simp; omega
          have gk' : decide (0 < k) = true := by simp; omega
          have gp : decide ((f.size : Int) ≤ (p : Int)) = false := by simp; omega
          have gp' : decide (f.size ≤ p) = false := by simp; omega
          have gp0 : decide ((p : Int) < 0) = false := by simp
          have gpp : decide ((p : Int) ≤ (p' : Int)) = false := by simp; omega
          have gpp' : decide (p ≤ p') = false := by simp; omega
          have hw1 : IntKind.i64.wrap ((k : Int) - 1) = (k : Int) - 1 := IntWalk.i64_in _ (by omega)
          have hw2 : 0 ≤ (k : Int) - 1 := by omega
          have hw3 : (k : Int) - 1 < (ts.length : Int) := by omega
          have hw4 : ((k : Int) - 1).toNat = k - 1 := by omega
          clear hpx hpy hx hy hg FC P1 P2 RA4 RB4 hgg c1 e1
          go_wp2_with fail
          go_big_quiet ((go_at_call 17; exact quiet_sum (QFEW.out _)))
          go_wp2_with fail
          refine ⟨⟨k + 1, by go_num, by omega, _, rfl⟩, by simp [intOf]; omega⟩
      · have hq : Below w.heap.size w (w4.drewN q) := below_drewN hb4 q
        obtain ⟨wq, hwq⟩ : ∃ wq, wq = w4.drewN q := ⟨_, rfl⟩
        have RA5 := (RA4.out.below (below_drewN (Below.refl _ w4) q))
        have RB5 := (RB4.out.below (below_drewN (Below.refl _ w4) q))
        rw [← hwq] at hq RA5 RB5 ⊢
        have SH := Lib.hid (shift_any _ _ _ (wrap64 (b - a)) wq RA5 (by rw [List.length_map]; omega))
        have RB6 := Lib.hid RB5
        clear RA5 RB5 RA4 RB4 FC P1 P2 hwq
        go_wp2_with fail
        refine SH.out.mono ?_
        rintro e w6 ⟨vd, rfl, hrd, hb6⟩
        have hb6' := hq.trans (hb6.mono hq.size)
        rw [shift_abs] at hrd
        have SA := Lib.hid (same_is (b := true) (by show _ = _; simp) _ _ _ _ w6 hrd (RB6.out.below hb6) (by rw [List.length_map]; omega) (by rw [List.length_map]; omega))
        clear hrd RB6 hb6 SH hq
        go_wp2_with fail
        refine SA.out.mono ?_
        rintro e w7 ⟨rfl, hb7⟩
        have hb7' := hb6'.trans (hb7.mono hb6'.size)
        clear SA hb7 hb6'
        go_wp2_with fail
        go_ret
        exact ⟨rfl, hb7'⟩
end lawPlaces
end Go.Proofs.YtfomjdaihoaipaaDoor
