/-
  The tokens of a source, with the ends of lines, and blocks, as a plain function on bytes; nothing here speaks of a program.
-/
import Derived.Test.YtbdjccmcdifjcaaGreatDoorS
set_option linter.unusedVariables false
set_option linter.unusedSimpArgs false
namespace Go.Proofs.YtbdjccmcdifjcaaGreatDoor
open Go.RowKit Go.Shelf
namespace Sp

/-- The lines of a source, each with its place: 'cur' is what has been read of the line that begins at 'start'. -/
def linesGo : Nat → Bs → Nat → Bs → List (Nat × Bs)
  | start, cur, _, [] => [(start, cur)]
  | start, cur, pos, c :: r => if c.toNat = 10 then (start, cur) :: linesGo (pos + 1) [] (pos + 1) r else linesGo start (cur ++ [c]) (pos + 1) r
def linesL (s : Bs) : List (Nat × Bs) := linesGo 0 [] 0 s

/-- How many blanks a line begins with. -/
def blanksOf : Bs → Nat
  | [] => 0
  | c :: r => if c.toNat = 32 then blanksOf r + 1 else 0
theorem blanksOf_le : ∀ l : Bs, blanksOf l ≤ l.length
  | [] => Nat.le_refl _
  | c :: r => by
    unfold blanksOf
    have := blanksOf_le r
    split <;> simp <;> omega

/-- A bracket's kind: above 0 if it opens, below 0 if it closes; 0: it is none. -/
def bk (t : T4) : Int :=
  if t.1 = 4 then
    if t.2.2.1 = [40] then 1 else if t.2.2.1 = [41] then -1
    else if t.2.2.1 = [91] then 2 else if t.2.2.1 = [93] then -2
    else if t.2.2.1 = [123] then 3 else if t.2.2.1 = [125] then -3 else 0
  else 0
/-- The brackets that are open behind some tokens (the last one first), or the place of the first that may not be. -/
def brk : List T4 → List T4 → Except Int (List T4)
  | opn, [] => .ok opn
  | opn, t :: ts =>
    if 0 < bk t then brk (t :: opn) ts
    else if bk t < 0 then
      match opn with
      | [] => .error t.2.1
      | o :: os => if bk o = - bk t then brk os ts else .error t.2.1
    else brk opn ts

def mark (k : Int) (at_ : Int) : T4 := (k, at_, [], 0)
/-- The blocks that go on when those that are farther in than n have ended, and how many have. -/
def pops (n : Nat) : List Nat → List Nat × Nat
  | [] => ([], 0)
  | b :: bs => if n < b then ((pops n bs).1, (pops n bs).2 + 1) else (b :: bs, 0)
/-- What an indentation of n blanks tells: the tokens, and the blocks that go on (the last one first). -/
def indent (blk : List Nat) (n : Nat) (at_ : Int) : Except (Int × Int) (List T4 × List Nat) :=
  if blk.headD 0 < n then .ok ([mark 6 at_], n :: blk)
  else if (pops n blk).1.headD 0 = n then .ok (List.replicate (pops n blk).2 (mark 7 at_), (pops n blk).1)
  else .error (at_, 20)

structure LS where
  out : List T4
  opn : List T4
  blk : List Nat
/-- A line's tokens, behind those that its indentation told. -/
def lineRest (st : LS) (m : List T4) (blk : List Nat) (x : Nat × Bs) : Except (Int × Int) LS :=
  match lex (x.2.drop (blanksOf x.2)) with
  | .error (p, e) => .error (wrap64 (((x.1 + blanksOf x.2 : Nat) : Int) + (p : Int)), e)
  | .ok ts =>
    match brk st.opn (ts.map (abs4 ((x.1 + blanksOf x.2 : Nat) : Int))) with
    | .error p => .error (p, 21)
    | .ok o => .ok ⟨st.out ++ m ++ ts.map (abs4 ((x.1 + blanksOf x.2 : Nat) : Int)) ++ (if o = [] then [mark 5 ((x.1 + x.2.length : Nat) : Int)] else []), o, blk⟩
def lineStep (st : LS) (x : Nat × Bs) : Except (Int × Int) LS :=
  if st.opn = [] then
    match x.2.drop (blanksOf x.2) with
    | [] => .ok st
    | c :: _ =>
      if c.toNat = 35 then .ok st
      else match indent st.blk (blanksOf x.2) ((x.1 + blanksOf x.2 : Nat) : Int) with
        | .error e => .error e
        | .ok (m, b) => lineRest st m b x
  else lineRest st [] st.blk x
def runL : LS → List (Nat × Bs) → Except (Int × Int) LS
  | st, [] => .ok st
  | st, x :: xs => match lineStep st x with
    | .error e => .error e
    | .ok st' => runL st' xs
def finish (len : Nat) (st : LS) : Except (Int × Int) (List T4) :=
  match st.opn with
  | o :: _ => .error (o.2.1, 21)
  | [] => .ok (st.out ++ List.replicate (st.blk.length - 1) (mark 7 (len : Int)) ++ [mark 8 (len : Int)])
def st0 : LS := ⟨[], [], [0]⟩
def layL (s : Bs) : Except (Int × Int) (List T4) :=
  match runL st0 (linesL s) with
  | .error e => .error e
  | .ok st => finish s.length st

theorem runL_append (xs ys : List (Nat × Bs)) : ∀ st : LS, runL st (xs ++ ys) = match runL st xs with
    | .error e => .error e
    | .ok st' => runL st' ys := by
  induction xs with
  | nil => intro st; rfl
  | cons x xs ih =>
    intro st
    rw [List.cons_append, runL, runL]
    cases lineStep st x with
    | error e => rfl
    | ok st' => exact ih st'
/-- Lines are as many as the bytes 10, and one. -/
theorem linesGo_len : ∀ (s : Bs) (start : Nat) (cur : Bs) (pos : Nat), (linesGo start cur pos s).length ≤ s.length + 1 := by
  intro s
  induction s with
  | nil => intro start cur pos; simp [linesGo]
  | cons c r ih =>
    intro start cur pos
    rw [linesGo]
    split
    · rw [List.length_cons, List.length_cons]
      have := ih (pos + 1) [] (pos + 1)
      omega
    · have := ih start (cur ++ [c]) (pos + 1)
      rw [List.length_cons]
      omega
theorem linesGo_in : ∀ (s : Bs) (start : Nat) (cur : Bs) (pos : Nat), start + cur.length = pos → ∀ x ∈ linesGo start cur pos s, x.1 + x.2.length ≤ pos + s.length := by
  intro s
  induction s with
  | nil =>
    intro start cur pos h x hx
    simp [linesGo] at hx
    subst hx
    simp
    omega
  | cons c r ih =>
    intro start cur pos h x hx
    rw [linesGo] at hx
    split at hx
    · rcases List.mem_cons.1 hx with rfl | hx
      · simp; omega
      · have := ih (pos + 1) [] (pos + 1) (by simp) x hx
        simp
        omega
    · have := ih start (cur ++ [c]) (pos + 1) (by simp; omega) x hx
      simp
      omega
theorem linesL_in (s : Bs) : ∀ x ∈ linesL s, x.1 + x.2.length ≤ s.length := by
  intro x hx
  have := linesGo_in s 0 [] 0 (by simp) x hx
  omega
end Sp
end Go.Proofs.YtbdjccmcdifjcaaGreatDoor
