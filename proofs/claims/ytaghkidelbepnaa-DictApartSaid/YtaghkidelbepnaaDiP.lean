/-
  Dicts as rows of pairs, plain; nothing here speaks of a program.
-/
namespace Go.Proofs.Ytaghkidelbepnaa
namespace Di

/-- A value: its kind, its number, its text. -/
abbrev V := Int × Int × ByteArray
/-- A key and a value. -/
abbrev Pr := V × V
def mt : ByteArray := ⟨#[]⟩
/-- What may be a key. -/
def keyOk (v : V) : Bool :=
  if v.1 = 0 then decide (v.2.1 = 0) && decide (v.2.2 = mt)
  else if v.1 = 1 then (decide (v.2.1 = 0) || decide (v.2.1 = 1)) && decide (v.2.2 = mt)
  else if v.1 = 2 then decide (v.2.2 = mt)
  else if v.1 = 3 then decide (v.2.1 = 0)
  else false
/-- The place of a key's pair. -/
def idx : List Pr → V → Option Nat
  | [], _ => none
  | p :: l, k => if p.1 = k then some 0 else (idx l k).map (· + 1)
theorem idx_some {k : V} : ∀ {l : List Pr} {i : Nat}, idx l k = some i → ∃ x, l[i]? = some (k, x)
  | [], i, h => by cases h
  | p :: l, i, h => by
    unfold idx at h
    split at h
    · rename_i e
      cases h
      exact ⟨p.2, by rw [← e]; rfl⟩
    · obtain ⟨j, hj, rfl⟩ := Option.map_eq_some_iff.1 h
      obtain ⟨x, hx⟩ := idx_some hj
      exact ⟨x, by simpa using hx⟩
theorem idx_lt {l : List Pr} {k : V} {i : Nat} (h : idx l k = some i) : i < l.length := by
  obtain ⟨x, hx⟩ := idx_some h
  exact (List.getElem?_eq_some_iff.1 hx).1
theorem idx_none {k : V} : ∀ {l : List Pr}, idx l k = none ↔ ∀ p ∈ l, p.1 ≠ k
  | [] => by simp [idx]
  | p :: l => by
    unfold idx
    by_cases h : p.1 = k
    · simp [h]
    · rw [if_neg h]
      simp only [Option.map_eq_none_iff, List.forall_mem_cons]
      rw [idx_none]
      simp [h]
/-- The first place: no pair ahead of it is of that key. -/
theorem idx_first {k : V} : ∀ {l : List Pr} {i : Nat}, (∃ x, l[i]? = some (k, x)) → (∀ j p, j < i → l[j]? = some p → p.1 ≠ k) → idx l k = some i
  | [], i, ⟨x, h⟩, _ => by simp at h
  | p :: l, 0, ⟨x, h⟩, _ => by
    simp at h
    unfold idx
    rw [if_pos (by rw [h])]
  | p :: l, i + 1, ⟨x, h⟩, hn => by
    unfold idx
    rw [if_neg (hn 0 p (by omega) rfl), idx_first (i := i) ⟨x, by simpa using h⟩ (fun j q hj hq => hn (j + 1) q (by omega) (by simpa using hq))]
    rfl
theorem idx_absent {k : V} {l : List Pr} (h : ∀ (j : Nat) (p : Pr), l[j]? = some p → p.1 ≠ k) : idx l k = none :=
  idx_none.2 (fun p hp => by
    obtain ⟨j, hj⟩ := List.getElem?_of_mem hp
    exact h j p hj)
def mx : Nat := 4096
/-- What becomes of a row when a pair is put. -/
def put (l : List Pr) (k x : V) : Bool × List Pr :=
  if keyOk k then (match idx l k with | some i => (true, l.set i (k, x)) | none => if l.length < mx then (true, l ++ [(k, x)]) else (false, l)) else (false, l)
def zeroV : V := (0, 0, mt)
def get (l : List Pr) (k : V) : V × Bool := match idx l k with | some i => (((l[i]?).map (·.2)).getD zeroV, true) | none => (zeroV, false)
def del (l : List Pr) (k : V) : Bool × List Pr := match idx l k with | some i => (true, l.take i ++ l.drop (i + 1)) | none => (false, l)
theorem put_length (l : List Pr) (k x : V) : (put l k x).2.length ≤ l.length + 1 ∧ (l.length ≤ mx → (put l k x).2.length ≤ mx) := by
  unfold put
  split
  · split
    · simp
    · split
      · simp; omega
      · simp
  · simp
theorem del_length (l : List Pr) (k : V) : (del l k).2.length ≤ l.length := by
  unfold del
  split
  · rename_i i h
    have := idx_lt h
    simp; omega
  · simp
/-- A key: of any value. -/
def fitK (v : V) : V :=
  let q := v.1 % 4
  if q = 0 then zeroV else if q = 1 then (1, v.2.1 % 2, mt) else if q = 2 then (2, v.2.1, mt) else (3, 0, v.2.2)
theorem fitK_ok (v : V) : keyOk (fitK v) = true := by
  have h : v.1 % 4 = 0 ∨ v.1 % 4 = 1 ∨ v.1 % 4 = 2 ∨ v.1 % 4 = 3 := by omega
  have h2 : v.2.1 % 2 = 0 ∨ v.2.1 % 2 = 1 := by omega
  rcases h with h | h | h | h
  · simp [fitK, h, zeroV, keyOk]
  · rcases h2 with g | g <;> simp [fitK, h, g, keyOk]
  · simp [fitK, h, keyOk]
  · simp [fitK, h, keyOk]
/-- A call: of which kind, a key, a value, and whether the key is taken as it is. -/
abbrev Cl := Int × V × V × Bool
def cut12 (s : ByteArray) : ByteArray := if s.size ≤ 12 then s else s.extract 0 12
theorem cut12_size (s : ByteArray) : (cut12 s).size ≤ 12 := by
  unfold cut12
  split
  · assumption
  · rw [ByteArray.size_extract]; omega
def fit (c : Cl) : Cl :=
  let k : V := (c.2.1.1, c.2.1.2.1, cut12 c.2.1.2.2)
  (c.1, if c.2.2.2 then k else fitK k, c.2.2.1, c.2.2.2)
/-- What becomes of a row by a call. -/
def op (l : List Pr) (c : Cl) : List Pr :=
  let q := c.1 % 4
  if q = 2 then l else if q = 3 then (del l c.2.1).2 else (put l c.2.1 c.2.2.1).2
theorem op_length (l : List Pr) (c : Cl) : (op l c).length ≤ l.length + 1 := by
  unfold op
  simp only
  split
  · omega
  · split
    · have := del_length l c.2.1; omega
    · exact (put_length l _ _).1
/-- Calls that make a dict: what asks puts, too. -/
def mk (l : List Pr) (c : Cl) : List Pr := if c.1 % 4 = 3 then (del l c.2.1).2 else (put l c.2.1 c.2.2.1).2
theorem mk_length (l : List Pr) (c : Cl) : (mk l c).length ≤ l.length + 1 := by
  unfold mk
  split
  · have := del_length l c.2.1; omega
  · exact (put_length l _ _).1
def made (cs : List Cl) : List Pr := (cs.take 40).foldl (fun l c => mk l (fit c)) []
theorem fold_length (f : List Pr → Cl → List Pr) (hf : ∀ l c, (f l c).length ≤ l.length + 1) : ∀ (cs : List Cl) (l : List Pr), (cs.foldl f l).length ≤ l.length + cs.length
  | [], l => by simp
  | c :: cs, l => by
    rw [List.foldl_cons]
    have h1 := fold_length f hf cs (f l c)
    have h2 := hf l c
    simp; omega
theorem made_length (cs : List Cl) : (made cs).length ≤ 40 := by
  have := fold_length (fun l c => mk l (fit c)) (fun l c => mk_length l (fit c)) (cs.take 40) []
  unfold made
  have h2 : (cs.take 40).length ≤ 40 := by rw [List.length_take]; omega
  simp at this
  omega
/-- Two rows of values are one. -/
def rowEq (a b : List V) : Bool := decide (a = b)
end Di
end Go.Proofs.Ytaghkidelbepnaa
