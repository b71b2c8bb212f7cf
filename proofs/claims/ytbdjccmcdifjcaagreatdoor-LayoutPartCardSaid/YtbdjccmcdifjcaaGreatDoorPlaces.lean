/-
  Where a line begins moves all places by as much: the walk of the statement ScanPlaces.
-/
import Derived.Test.YtbdjccmcdifjcaaGreatDoorShift
import Derived.Deep.DeepCutAuto
import Derived.Deep.QuietTactic
import Derived.BigQuiet
import Derived.IntWalk
set_option linter.unusedVariables false
set_option linter.unusedSimpArgs false
namespace Go.Proofs.YtbdjccmcdifjcaaGreatDoor
open Go.RowKit Go.Shelf

namespace Sp
theorem lexAt_places : ∀ (f : Nat) (l : Bs) (pos : Nat) (ts : List (Nat × Tk)), l.length ≤ f → lexAt pos l = .ok ts → (∀ x ∈ ts, pos ≤ x.1 ∧ x.1 < pos + l.length) ∧ ts.Pairwise (fun x y => x.1 < y.1) := by
  intro f
  induction f with
  | zero =>
    intro l pos ts hl h
    have : l = [] := by cases l with | nil => rfl | cons => simp at hl
    subst this
    cases h
    simp
  | succ f ih =>
    intro l pos ts hl h
    cases l with
    | nil => cases h; simp
    | cons c r =>
      simp only [List.length_cons] at hl
      by_cases h32 : c.toNat = 32
      · rw [lexAt_blank _ _ _ h32] at h
        obtain ⟨h1, h2⟩ := ih r (pos + 1) ts (by omega) h
        exact ⟨fun x hx => by have := h1 x hx; simp; omega, h2⟩
      · by_cases h35 : c.toNat = 35
        · rw [lexAt_hash _ _ _ h35] at h; cases h; simp
        · cases ht : tok1 (c :: r) with
          | error e => rw [lexAt_err _ _ _ h32 h35 e ht] at h; cases h
          | ok t =>
            rw [lexAt_tok _ _ _ h32 h35 t ht] at h
            have hs := tok1_size ht
            cases hr : lexAt (pos + t.size) ((c :: r).drop t.size) with
            | error y => rw [hr] at h; cases h
            | ok us =>
              rw [hr] at h
              cases h
              obtain ⟨h1, h2⟩ := ih ((c :: r).drop t.size) (pos + t.size) us (by simp; omega) hr
              simp only [List.length_drop] at h1
              simp only [List.length_cons] at h1 hs
              refine ⟨?_, ?_⟩
              · intro x hx
                rcases List.mem_cons.1 hx with rfl | hx
                · simp
                · have := h1 x hx; simp; omega
              · refine List.pairwise_cons.2 ⟨?_, h2⟩
                intro x hx
                have := h1 x hx
                show pos < x.1
                omega
theorem lex_places {l : Bs} {ts : List (Nat × Tk)} (h : lex l = .ok ts) : (∀ (k : Nat) x, ts[k]? = some x → x.1 < l.length) ∧ ∀ (k : Nat) x y, ts[k]? = some x → ts[k + 1]? = some y → x.1 < y.1 := by
  obtain ⟨h1, h2⟩ := lexAt_places l.length l 0 ts (Nat.le_refl _) h
  refine ⟨fun k x hx => ?_, fun k x y hx hy => ?_⟩
  · have := h1 x (List.mem_of_getElem? hx)
    omega
  · obtain ⟨hk, ex⟩ := List.getElem?_eq_some_iff.1 hx
    obtain ⟨hk1, ey⟩ := List.getElem?_eq_some_iff.1 hy
    have := List.pairwise_iff_getElem.1 h2 k (k + 1) hk hk1 (by omega)
    rw [ex, ey] at this
    exact this
theorem lexAt_count : ∀ (f : Nat) (l : Bs) (pos : Nat) (ts : List (Nat × Tk)), l.length ≤ f → lexAt pos l = .ok ts → ts.length ≤ l.length := by
  intro f
  induction f with
  | zero =>
    intro l pos ts hl h
    have : l = [] := by cases l with | nil => rfl | cons => simp at hl
    subst this
    cases h
    simp
  | succ f ih =>
    intro l pos ts hl h
    cases l with
    | nil => cases h; simp
    | cons c r =>
      simp only [List.length_cons] at hl
      by_cases h32 : c.toNat = 32
      · rw [lexAt_blank _ _ _ h32] at h
        have := ih r (pos + 1) ts (by omega) h
        simp; omega
      · by_cases h35 : c.toNat = 35
        · rw [lexAt_hash _ _ _ h35] at h; cases h; simp
        · cases ht : tok1 (c :: r) with
          | error e => rw [lexAt_err _ _ _ h32 h35 e ht] at h; cases h
          | ok t =>
            rw [lexAt_tok _ _ _ h32 h35 t ht] at h
            have hs := tok1_size ht
            cases hr : lexAt (pos + t.size) ((c :: r).drop t.size) with
            | error y => rw [hr] at h; cases h
            | ok us =>
              rw [hr] at h
              cases h
              have := ih ((c :: r).drop t.size) (pos + t.size) us (by simp; omega) hr
              simp only [List.length_drop, List.length_cons] at this hs
              simp
              omega
theorem lex_count {l : Bs} {ts : List (Nat × Tk)} (h : lex l = .ok ts) : ts.length ≤ l.length := lexAt_count l.length l 0 ts (Nat.le_refl _) h
end Sp

theorem wrap_diff (a b p : Int) : wrap64 (wrap64 (b + p) - wrap64 (a + p)) = wrap64 (b - a) := by
  unfold wrap64
  omega
theorem wrap_move (a b p : Int) : wrap64 (wrap64 (a + p) + wrap64 (b - a)) = wrap64 (b + p) := by
  unfold wrap64
  omega
theorem shift_abs (a b : Int) (ts : List (Nat × Sp.Tk)) : (ts.map (abs4 a)).map (sh4 (wrap64 (b - a))) = ts.map (abs4 b) := by
  rw [List.map_map]
  apply List.map_congr_left
  intro x _
  simp only [Function.comp, sh4, abs4]
  rw [wrap_move]

theorem quiet_sum {f : FuncId} {args : Array Value} {w : World} {q x : Nat} {v : Value} (h : Calls Tryz.prog f args (w.drewN (q + x)) fun e w' => e = .returned v ∧ w' = w.drewN (q + x)) :
    Calls Tryz.prog f args (w.drewN (q + x)) fun e w'' => e = .returned v ∧ ∃ n, w'' = w.drewN (q + n) := h.mono fun _ _ ⟨a, b⟩ => ⟨a, x, b⟩

namespace lawPlaces
end lawPlaces
end Go.Proofs.YtbdjccmcdifjcaaGreatDoor
