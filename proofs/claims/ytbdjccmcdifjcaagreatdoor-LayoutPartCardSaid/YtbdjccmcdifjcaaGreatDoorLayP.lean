/-
  Lines of a source, one behind the other; how much is told of them: plain; nothing here speaks of a program.
-/
import Derived.Test.YtbdjccmcdifjcaaGreatDoorPlaces
import Derived.Test.YtbdjccmcdifjcaaGreatDoorLain
set_option linter.unusedVariables false
set_option linter.unusedSimpArgs false
namespace Go.Proofs.YtbdjccmcdifjcaaGreatDoor
open Go.RowKit Go.Shelf
namespace Sp
/-- Where the line behind these begins. -/
def nextAt : List (Nat × Bs) → Nat
  | [] => 0
  | x :: xs => x.2.length + 1 + nextAt xs
theorem nextAt_append : ∀ (xs ys : List (Nat × Bs)), nextAt (xs ++ ys) = nextAt xs + nextAt ys
  | [], ys => by simp [nextAt]
  | x :: xs, ys => by
    rw [List.cons_append, nextAt, nextAt, nextAt_append xs ys]
    omega
theorem len_nextAt : ∀ xs : List (Nat × Bs), xs.length ≤ nextAt xs
  | [] => Nat.le_refl _
  | x :: xs => by
    have := len_nextAt xs
    rw [nextAt, List.length_cons]
    omega
theorem linesGo_at : ∀ (s : Bs) (start : Nat) (cur : Bs) (pos : Nat) (pre post : List (Nat × Bs)) (x : Nat × Bs), start + cur.length = pos → linesGo start cur pos s = pre ++ x :: post → x.1 = start + nextAt pre := by
  intro s
  induction s with
  | nil =>
    intro start cur pos pre post x h e
    rw [linesGo] at e
    cases pre with
    | nil => simp at e; rw [← e.1]; rfl
    | cons y pre => simp at e
  | cons c r ih =>
    intro start cur pos pre post x h e
    rw [linesGo] at e
    split at e
    · cases pre with
      | nil => simp at e; rw [← e.1]; rfl
      | cons y pre =>
        simp at e
        obtain ⟨rfl, e⟩ := e
        have := ih (pos + 1) [] (pos + 1) pre post x (by simp) e
        rw [this, nextAt]
        simp
        omega
    · exact ih start (cur ++ [c]) (pos + 1) pre post x (by simp; omega) e
theorem linesL_at {s : Bs} {pre post : List (Nat × Bs)} {x : Nat × Bs} (h : linesL s = pre ++ x :: post) : x.1 = nextAt pre := by
  have := linesGo_at s 0 [] 0 pre post x (by simp) h
  omega
theorem linesGo_sum : ∀ (s : Bs) (start : Nat) (cur : Bs) (pos : Nat), nextAt (linesGo start cur pos s) = cur.length + s.length + 1 := by
  intro s
  induction s with
  | nil => intro start cur pos; simp [linesGo, nextAt]
  | cons c r ih =>
    intro start cur pos
    rw [linesGo]
    split
    · rw [nextAt, ih]
      simp
      omega
    · rw [ih]
      simp
      omega
theorem linesL_sum (s : Bs) : nextAt (linesL s) = s.length + 1 := by
  have := linesGo_sum s 0 [] 0
  unfold linesL
  simpa using this

theorem brk_len : ∀ (ts opn o : List T4), brk opn ts = .ok o → o.length ≤ opn.length + ts.length := by
  intro ts
  induction ts with
  | nil => intro opn o h; rw [brk] at h; cases h; simp
  | cons t ts ih =>
    intro opn o h
    by_cases h1 : 0 < bk t
    · rw [brk_pos h1] at h
      have := ih _ _ h
      simp at this ⊢
      omega
    · by_cases h2 : bk t < 0
      · cases opn with
        | nil => rw [brk_none h2] at h; cases h
        | cons b bs =>
          by_cases h3 : bk b = - bk t
          · rw [brk_shut h2 h3] at h
            have := ih _ _ h
            simp at this ⊢
            omega
          · rw [brk_odd h2 h3] at h; cases h
      · rw [brk_zero (by omega)] at h
        have := ih _ _ h
        simp
        omega
theorem pops_sum (n : Nat) : ∀ l : List Nat, (pops n l).1.length + (pops n l).2 = l.length
  | [] => rfl
  | b :: bs => by
    rw [pops]
    split
    · have := pops_sum n bs
      simp
      omega
    · simp
theorem indent_sum {blk b : List Nat} {n : Nat} {q : Int} {m : List T4} (h : indent blk n q = .ok (m, b)) : m.length + b.length ≤ blk.length + 2 := by
  unfold indent at h
  split at h
  · cases h; simp; omega
  · split at h
    · cases h
      have := pops_sum n blk
      simp
      omega
    · cases h
theorem lineRest_len {st st' : LS} {m : List T4} {blk : List Nat} {x : Nat × Bs} (h : lineRest st m blk x = .ok st') : st'.out.length + st'.blk.length ≤ st.out.length + m.length + blk.length + x.2.length + 1 ∧ st'.opn.length ≤ st.opn.length + x.2.length ∧ st'.blk = blk := by
  unfold lineRest at h
  cases hl : lex (x.2.drop (blanksOf x.2)) with
  | error e => rw [hl] at h; cases h
  | ok ts =>
    have hc := lex_count hl
    rw [List.length_drop] at hc
    rw [hl] at h
    simp only at h
    cases hb : brk st.opn (ts.map (abs4 ((x.1 + blanksOf x.2 : Nat) : Int))) with
    | error e => rw [hb] at h; cases h
    | ok o =>
      have hbl := brk_len _ _ _ hb
      rw [List.length_map] at hbl
      rw [hb] at h
      cases h
      refine ⟨?_, by simp; omega, rfl⟩
      simp only [List.length_append, List.length_map]
      split
      · simp; omega
      · simp; omega
theorem lineStep_len {st st' : LS} {x : Nat × Bs} (h : lineStep st x = .ok st') : st'.out.length + st'.blk.length ≤ st.out.length + st.blk.length + x.2.length + 3 ∧ st'.opn.length ≤ st.opn.length + x.2.length := by
  unfold lineStep at h
  split at h
  · split at h
    · cases h; omega
    · split at h
      · cases h; omega
      · cases hi : indent st.blk (blanksOf x.2) ((x.1 + blanksOf x.2 : Nat) : Int) with
        | error e => rw [hi] at h; cases h
        | ok mb =>
          obtain ⟨m, b⟩ := mb
          rw [hi] at h
          have h1 := indent_sum hi
          have h2 := lineRest_len h
          omega
  · have h2 := lineRest_len h
    simp at h2
    omega
theorem runL_len : ∀ (xs : List (Nat × Bs)) (st st' : LS), runL st xs = .ok st' → st'.out.length + st'.blk.length ≤ st.out.length + st.blk.length + 3 * nextAt xs ∧ st'.opn.length ≤ st.opn.length + nextAt xs := by
  intro xs
  induction xs with
  | nil => intro st st' h; rw [runL] at h; cases h; simp [nextAt]
  | cons x xs ih =>
    intro st st' h
    rw [runL] at h
    cases hs : lineStep st x with
    | error e => rw [hs] at h; cases h
    | ok s2 =>
      rw [hs] at h
      have h1 := lineStep_len hs
      have h2 := ih _ _ h
      rw [nextAt]
      omega
theorem runL_snoc (pre : List (Nat × Bs)) (x : Nat × Bs) {st : LS} (h : runL st0 pre = .ok st) : runL st0 (pre ++ [x]) = lineStep st x := by
  rw [runL_append, h]
  simp only
  rw [runL]
  cases lineStep st x <;> rfl
theorem layL_len {s : Bs} {ts : List T4} (h : layL s = .ok ts) : ts.length ≤ 3 * s.length + 5 := by
  unfold layL at h
  cases hr : runL st0 (linesL s) with
  | error e => rw [hr] at h; cases h
  | ok st =>
    have h1 := runL_len _ _ _ hr
    rw [linesL_sum] at h1
    rw [hr] at h
    simp only at h
    unfold finish at h
    cases ho : st.opn with
    | cons o os => rw [ho] at h; cases h
    | nil =>
      rw [ho] at h
      cases h
      simp [st0] at h1 ⊢
      omega
end Sp
end Go.Proofs.YtbdjccmcdifjcaaGreatDoor
