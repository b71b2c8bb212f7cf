/-
  Texts as rows of bytes: put together, repeated, cut, joined, split, found, held against one another; plain; nothing here speaks of a program.
-/
namespace Go.Proofs.Ytcpjogjkjbillaa
namespace Tx
abbrev Bs := List UInt8
def tMem : Bs := [77, 101, 109, 111, 114, 121, 69, 114, 114, 111, 114]
def tIdx : Bs := [73, 110, 100, 101, 120, 69, 114, 114, 111, 114]
def tVal : Bs := [86, 97, 108, 117, 101, 69, 114, 114, 111, 114]
def cat (a b : Bs) : Bs × Bs := if 65536 < a.length + b.length then ([], tMem) else (a ++ b, [])
def times (s : Bs) : Nat → Bs
  | 0 => []
  | n + 1 => times s n ++ s
def rep (s : Bs) (n : Int) : Bs × Bs := if n < 1 ∨ s = [] then ([], []) else if 65536 < n * (s.length : Int) then ([], tMem) else (times s n.toNat, [])
def atT (s : Bs) (i : Int) : Bs × Bs :=
  let j := if i < 0 then i + s.length else i
  if j < 0 ∨ (s.length : Int) ≤ j then ([], tIdx) else ((s.drop j.toNat).take 1, [])
def place (n i : Int) : Int :=
  let j := if i < 0 then i + n else i
  if j < 0 then 0 else if n < j then n else j
def bounds (n a b : Int) : Int × Int :=
  let m := if n < 0 then 0 else n
  let low := place m a
  let high := place m b
  (low, if high < low then low else high)
def slice (s : Bs) (a b : Int) : Bs :=
  let p := bounds s.length a b
  (s.drop p.1.toNat).take (p.2.toNat - p.1.toNat)
/-- Texts with another one between any two. -/
def joinW (sep : Bs) : List Bs → Bs
  | [] => []
  | [a] => a
  | a :: b :: r => a ++ sep ++ joinW sep (b :: r)
def join (sep : Bs) (l : List Bs) : Bs × Bs := if 65536 < (joinW sep l).length then ([], tMem) else (joinW sep l, [])
/-- Does a text begin with another one? -/
def pre (sub s : Bs) : Bool := sub.isPrefixOf s
/-- The first place of a text in another one. -/
def find (sub : Bs) : Bs → Option Nat
  | [] => if pre sub [] then some 0 else none
  | c :: r => if pre sub (c :: r) then some 0 else (find sub r).map (· + 1)
def findI (s sub : Bs) : Int := match find sub s with
  | some k => (k : Int)
  | none => -1
/-- The pieces between the places of a text that is not empty; cur is what came of the first one. -/
def pieces (sep : Bs) : Nat → Bs → Bs → List Bs
  | 0, cur, _ => [cur]
  | _ + 1, cur, [] => [cur]
  | f + 1, cur, c :: r => if pre sep (c :: r) then cur :: pieces sep f [] ((c :: r).drop sep.length) else pieces sep f (cur ++ [c]) r
def split (s sep : Bs) : List Bs × Bs := if sep = [] then ([], tVal) else if 4096 < (pieces sep s.length [] s).length then ([], tMem) else (pieces sep s.length [] s, [])
def cmp : Bs → Bs → Int
  | [], [] => 0
  | [], _ :: _ => -1
  | _ :: _, [] => 1
  | a :: r, b :: t => if a.toNat < b.toNat then -1 else if b.toNat < a.toNat then 1 else cmp r t

theorem times_length (s : Bs) : ∀ n, (times s n).length = n * s.length
  | 0 => by simp [times]
  | n + 1 => by rw [times, List.length_append, times_length s n, Nat.add_mul, Nat.one_mul]
theorem times_add (s : Bs) (n : Nat) : ∀ m, times s (n + m) = times s n ++ times s m
  | 0 => by simp [times]
  | m + 1 => by rw [← Nat.add_assoc, times, times, times_add s n m, List.append_assoc]
theorem place_range {n i : Int} (h : 0 ≤ n) : 0 ≤ place n i ∧ place n i ≤ n := by unfold place; simp only; split <;> split <;> (try split) <;> omega
theorem bounds_range (n a b : Int) : 0 ≤ (bounds n a b).1 ∧ (bounds n a b).1 ≤ (bounds n a b).2 ∧ (bounds n a b).2 ≤ (if n < 0 then 0 else n) := by
  unfold bounds
  simp only
  have h0 : 0 ≤ (if n < 0 then 0 else n) := by split <;> omega
  generalize (if n < 0 then 0 else n) = m at *
  have h1 := place_range (i := a) h0
  have h2 := place_range (i := b) h0
  split <;> omega
theorem pre_iff {sub s : Bs} : pre sub s = true ↔ s.take sub.length = sub := by
  unfold pre
  rw [List.isPrefixOf_iff_prefix, List.prefix_iff_eq_take]
  exact eq_comm
theorem pre_length {sub s : Bs} (h : pre sub s = true) : sub.length ≤ s.length := by
  have := congrArg List.length (pre_iff.1 h)
  rw [List.length_take] at this
  omega
theorem pre_nil (s : Bs) : pre [] s = true := by simp [pre]
theorem find_some {sub : Bs} : ∀ {s : Bs} {k : Nat}, find sub s = some k → k ≤ s.length ∧ pre sub (s.drop k) = true ∧ ∀ j, j < k → pre sub (s.drop j) = false
  | [], k, h => by
    unfold find at h
    split at h
    · rename_i e
      injection h with h
      subst h
      exact ⟨Nat.le_refl _, e, fun j hj => by omega⟩
    · cases h
  | c :: r, k, h => by
    unfold find at h
    split at h
    · rename_i e
      injection h with h
      subst h
      exact ⟨Nat.zero_le _, e, fun j hj => by omega⟩
    · rename_i e
      cases hr : find sub r with
      | none => rw [hr] at h; cases h
      | some m =>
        rw [hr] at h
        simp only [Option.map_some, Option.some.injEq] at h
        subst h
        obtain ⟨h1, h2, h3⟩ := find_some hr
        refine ⟨by simp; omega, h2, fun j hj => ?_⟩
        cases j with
        | zero => simpa using e
        | succ j => exact h3 j (by omega)
theorem find_none {sub : Bs} : ∀ {s : Bs}, find sub s = none → ∀ j, pre sub (s.drop j) = false
  | [], h, j => by
    unfold find at h
    split at h
    · cases h
    · rename_i e; simpa using e
  | c :: r, h, j => by
    unfold find at h
    split at h
    · cases h
    · rename_i e
      cases hr : find sub r with
      | some m => rw [hr] at h; cases h
      | none =>
        cases j with
        | zero => simpa using e
        | succ j => exact find_none hr j
theorem find_at {sub s : Bs} {k : Nat} (h : pre sub (s.drop k) = true) (hn : ∀ j, j < k → pre sub (s.drop j) = false) : find sub s = some k := by
  cases hf : find sub s with
  | none => rw [find_none hf k] at h; cases h
  | some m =>
    obtain ⟨h1, h2, h3⟩ := find_some hf
    rcases Nat.lt_trichotomy m k with g | g | g
    · rw [hn m g] at h2; cases h2
    · rw [g]
    · rw [h3 k g] at h; cases h
theorem find_none_of {sub s : Bs} (hn : ∀ j, j ≤ s.length → pre sub (s.drop j) = false) : find sub s = none := by
  cases hf : find sub s with
  | none => rfl
  | some m =>
    obtain ⟨h1, h2, h3⟩ := find_some hf
    rw [hn m h1] at h2; cases h2
/-- More fuel than bytes changes nothing. -/
theorem pieces_fuel {sep : Bs} (hs : sep ≠ []) : ∀ (f g : Nat) (cur s : Bs), s.length ≤ f → s.length ≤ g → pieces sep f cur s = pieces sep g cur s
  | 0, g, cur, s, hf, hg => by
    have : s = [] := List.length_eq_zero_iff.1 (by omega)
    subst this
    cases g <;> rfl
  | f + 1, 0, cur, s, hf, hg => by
    have : s = [] := List.length_eq_zero_iff.1 (by omega)
    subst this
    rfl
  | f + 1, g + 1, cur, [], hf, hg => rfl
  | f + 1, g + 1, cur, c :: r, hf, hg => by
    have hsl : 0 < sep.length := List.length_pos_iff.2 hs
    rw [pieces, pieces]
    have hd : ((c :: r).drop sep.length).length ≤ r.length := by rw [List.length_drop]; simp; omega
    simp only [List.length_cons] at hf hg
    split
    · rw [pieces_fuel hs f g [] _ (by omega) (by omega)]
    · rw [pieces_fuel hs f g (cur ++ [c]) r (by omega) (by omega)]
/-- The pieces of what is left behind a place. -/
def pcs (sep cur s : Bs) : List Bs := pieces sep s.length cur s
theorem pcs_nil (sep cur : Bs) : pcs sep cur [] = [cur] := rfl
theorem pcs_at {sep : Bs} (hs : sep ≠ []) (cur : Bs) {s : Bs} (h : pre sep s = true) : pcs sep cur s = cur :: pcs sep [] (s.drop sep.length) := by
  have hsl : 0 < sep.length := List.length_pos_iff.2 hs
  cases s with
  | nil => have := pre_length h; simp at this; exact absurd this hs
  | cons c r =>
    unfold pcs
    rw [List.length_cons, pieces, if_pos h, pieces_fuel hs _ ((c :: r).drop sep.length).length]
    · rw [List.length_drop]; simp; omega
    · exact Nat.le_refl _
theorem pcs_not {sep : Bs} (cur : Bs) {c : UInt8} {r : Bs} (h : pre sep (c :: r) = false) : pcs sep cur (c :: r) = pcs sep (cur ++ [c]) r := by
  unfold pcs
  rw [List.length_cons, pieces, h]
  rfl
theorem pieces_ne (sep : Bs) : ∀ (f : Nat) (cur s : Bs), pieces sep f cur s ≠ []
  | 0, _, _ => by simp [pieces]
  | f + 1, cur, [] => by simp [pieces]
  | f + 1, cur, c :: r => by
    rw [pieces]
    split
    · simp
    · exact pieces_ne sep f _ r
theorem pcs_ne (sep cur s : Bs) : pcs sep cur s ≠ [] := pieces_ne _ _ _ _
theorem pcs_len (sep cur s : Bs) : 0 < (pcs sep cur s).length := List.length_pos_iff.2 (pcs_ne sep cur s)
theorem joinW_cons (sep a : Bs) {r : List Bs} (h : r ≠ []) : joinW sep (a :: r) = a ++ sep ++ joinW sep r := by
  cases r with
  | nil => exact absurd rfl h
  | cons b r => rfl
theorem join_pieces (sep : Bs) : ∀ (n : Nat) (cur s : Bs), s.length ≤ n → sep ≠ [] → joinW sep (pcs sep cur s) = cur ++ s
  | n, cur, [], _, _ => by simp [pcs_nil, joinW]
  | 0, cur, c :: r, h, _ => by simp at h
  | n + 1, cur, c :: r, h, hs => by
    have hsl : 0 < sep.length := List.length_pos_iff.2 hs
    cases hp : pre sep (c :: r) with
    | true =>
      rw [pcs_at hs cur hp, joinW_cons _ _ (pcs_ne _ _ _), join_pieces sep n [] _ (by rw [List.length_drop]; simp at h ⊢; omega) hs]
      have h1 := pre_iff.1 hp
      rw [List.nil_append, List.append_assoc]
      congr 1
      have h2 := List.take_append_drop sep.length (c :: r)
      rw [h1] at h2
      exact h2
    | false =>
      rw [pcs_not cur hp, join_pieces sep n _ r (by simp at h; omega) hs]
      simp
/-- What was split is joined again. -/
theorem join_split {s sep : Bs} (hs : sep ≠ []) : joinW sep (pcs sep [] s) = s := by
  rw [join_pieces sep s.length [] s (Nat.le_refl _) hs]; rfl
theorem pre_append {sub s t : Bs} (h : pre sub s = true) : pre sub (s ++ t) = true := by
  have := pre_length h
  rw [pre_iff, List.take_append_of_le_length this]
  exact pre_iff.1 h
/-- No piece has what parted it. -/
theorem pieces_free (sep : Bs) (hs : sep ≠ []) : ∀ (n : Nat) (cur s : Bs), s.length ≤ n → (∀ j, j < cur.length → pre sep ((cur ++ s).drop j) = false) → ∀ x ∈ pcs sep cur s, ∀ j, pre sep (x.drop j) = false := by
  have hsl : 0 < sep.length := List.length_pos_iff.2 hs
  have last : ∀ (cur s : Bs), (∀ j, j < cur.length → pre sep ((cur ++ s).drop j) = false) → ∀ j, pre sep (cur.drop j) = false := by
    intro cur s h j
    cases e : pre sep (cur.drop j) with
    | false => rfl
    | true =>
      have h1 := pre_length e
      rw [List.length_drop] at h1
      have h2 := h j (by omega)
      rw [List.drop_append_of_le_length (by omega), pre_append e] at h2
      cases h2
  intro n
  induction n with
  | zero =>
    intro cur s h hc x hx j
    have : s = [] := List.length_eq_zero_iff.1 (by omega)
    subst this
    rw [pcs_nil] at hx
    simp only [List.mem_cons, List.not_mem_nil, or_false] at hx
    subst hx
    exact last x [] hc j
  | succ n ih =>
    intro cur s h hc x hx j
    cases s with
    | nil =>
      rw [pcs_nil] at hx
      simp only [List.mem_cons, List.not_mem_nil, or_false] at hx
      subst hx
      exact last x [] hc j
    | cons c r =>
      cases hp : pre sep (c :: r) with
      | true =>
        rw [pcs_at hs cur hp] at hx
        rcases List.mem_cons.1 hx with rfl | hx
        · exact last x _ hc j
        · exact ih [] _ (by rw [List.length_drop]; simp at h ⊢; omega) (fun j hj => by simp at hj) x hx j
      | false =>
        rw [pcs_not cur hp] at hx
        refine ih (cur ++ [c]) r (by simp at h; omega) (fun i hi => ?_) x hx j
        rw [List.append_assoc, List.singleton_append]
        simp only [List.length_append, List.length_cons, List.length_nil] at hi
        rcases Nat.lt_or_ge i cur.length with g | g
        · exact hc i g
        · rw [show i = cur.length by omega, List.drop_left]
          exact hp
theorem cmp_self : ∀ a, cmp a a = 0
  | [] => rfl
  | a :: r => by rw [cmp, if_neg (by omega), if_neg (by omega)]; exact cmp_self r
theorem cmp_anti : ∀ a b, cmp a b = - cmp b a
  | [], [] => rfl
  | [], _ :: _ => rfl
  | _ :: _, [] => rfl
  | a :: r, b :: t => by
    rw [cmp, cmp]
    by_cases h1 : a.toNat < b.toNat
    · rw [if_pos h1, if_neg (by omega), if_pos h1]
    · by_cases h2 : b.toNat < a.toNat
      · rw [if_neg h1, if_pos h2, if_pos h2]; rfl
      · rw [if_neg h1, if_neg h2, if_neg h2, if_neg h1]; exact cmp_anti r t
theorem cmp_zero : ∀ a b, cmp a b = 0 ↔ a = b
  | [], [] => by simp [cmp]
  | [], _ :: _ => by simp [cmp]
  | _ :: _, [] => by simp [cmp]
  | a :: r, b :: t => by
    rw [cmp]
    by_cases h1 : a.toNat < b.toNat
    · rw [if_pos h1]; simp; intro e; subst e; omega
    · by_cases h2 : b.toNat < a.toNat
      · rw [if_neg h1, if_pos h2]; simp; intro e; subst e; omega
      · rw [if_neg h1, if_neg h2, cmp_zero r t]
        have : a = b := UInt8.toNat_inj.1 (by omega)
        simp [this]
theorem cmp_range : ∀ a b, cmp a b = -1 ∨ cmp a b = 0 ∨ cmp a b = 1
  | [], [] => by simp [cmp]
  | [], _ :: _ => by simp [cmp]
  | _ :: _, [] => by simp [cmp]
  | a :: r, b :: t => by
    rw [cmp]
    split
    · simp
    · split
      · simp
      · exact cmp_range r t
theorem cmp_trans : ∀ a b c, cmp a b ≤ 0 → cmp b c ≤ 0 → cmp a c ≤ 0
  | [], b, c, _, _ => by cases c <;> simp [cmp]
  | a :: r, [], c, h, _ => by simp [cmp] at h
  | a :: r, b :: t, [], _, h => by simp [cmp] at h
  | a :: r, b :: t, c :: u, h1, h2 => by
    rw [cmp] at h1 h2 ⊢
    by_cases e1 : a.toNat < b.toNat
    · by_cases e2 : b.toNat < c.toNat
      · rw [if_pos (by omega)]; decide
      · by_cases e3 : c.toNat < b.toNat
        · rw [if_neg e2, if_pos e3] at h2; omega
        · rw [if_pos (by omega)]; decide
    · by_cases e1' : b.toNat < a.toNat
      · rw [if_neg e1, if_pos e1'] at h1; omega
      · rw [if_neg e1, if_neg e1'] at h1
        by_cases e2 : b.toNat < c.toNat
        · rw [if_pos (by omega)]; decide
        · by_cases e3 : c.toNat < b.toNat
          · rw [if_neg e2, if_pos e3] at h2; omega
          · rw [if_neg e2, if_neg e3] at h2
            rw [if_neg (by omega), if_neg (by omega)]
            exact cmp_trans r t u h1 h2
end Tx
end Go.Proofs.Ytcpjogjkjbillaa
