/-
  Rows of pairs with gaps, plain; nothing here speaks of a program.
-/
import Derived.Test.YtaghkidelbepnaaDiP
namespace Go.Proofs.Ytaghkidelbepnaa
namespace Di

/-- A pair, and whether it is a gap. -/
abbrev Ent := Pr × Bool
def gap : Ent := ((zeroV, zeroV), true)
/-- The pairs that are no gaps. -/
def live (es : List Ent) : List Pr := es.filterMap fun e => if e.2 then none else some e.1
theorem live_nil : live [] = [] := rfl
theorem live_app (a b : List Ent) : live (a ++ b) = live a ++ live b := by simp [live, List.filterMap_append]
theorem live_cons_no (p : Pr) (l : List Ent) : live ((p, false) :: l) = p :: live l := by simp [live]
theorem live_cons_gap (p : Pr) (l : List Ent) : live ((p, true) :: l) = live l := by simp [live]
theorem live_len (es : List Ent) : (live es).length ≤ es.length := List.length_filterMap_le _ _
theorem mem_live {es : List Ent} {p : Pr} : p ∈ live es ↔ (p, false) ∈ es := by
  unfold live
  rw [List.mem_filterMap]
  constructor
  · rintro ⟨⟨q, b⟩, h, h2⟩
    cases b
    · simp at h2; subst h2; exact h
    · simp at h2
  · intro h
    exact ⟨(p, false), h, by simp⟩
/-- Where each key is. -/
def Rel (es : List Ent) (f : V → Option Nat) : Prop := ∀ k i, f k = some i ↔ ∃ x, es[i]? = some ((k, x), false)
theorem Rel.nil : Rel [] (fun _ => none) := fun k i => by simp
theorem Rel.lt {es : List Ent} {f : V → Option Nat} (h : Rel es f) {k : V} {i : Nat} (hi : f k = some i) : i < es.length := by
  obtain ⟨x, hx⟩ := (h k i).1 hi
  exact (List.getElem?_eq_some_iff.1 hx).1
theorem Rel.none_iff {es : List Ent} {f : V → Option Nat} (h : Rel es f) (k : V) : f k = none ↔ ∀ p ∈ live es, p.1 ≠ k := by
  constructor
  · rintro hn ⟨k', x⟩ hp rfl
    obtain ⟨i, hi⟩ := List.getElem?_of_mem (mem_live.1 hp)
    rw [(h k' i).2 ⟨x, hi⟩] at hn
    cases hn
  · intro hp
    cases hf : f k with
    | none => rfl
    | some i =>
      obtain ⟨x, hx⟩ := (h k i).1 hf
      exact absurd rfl (hp (k, x) (mem_live.2 (List.mem_of_getElem? hx)))
theorem Rel.idx_none {es : List Ent} {f : V → Option Nat} (h : Rel es f) {k : V} : f k = none ↔ idx (live es) k = none := by
  rw [h.none_iff, Di.idx_none]
theorem Rel.app {es : List Ent} {f : V → Option Nat} (h : Rel es f) {k : V} (x : V) (hk : f k = none) : Rel (es ++ [((k, x), false)]) (fun y => if y = k then some es.length else f y) := by
  intro k' i
  simp only
  by_cases e : k' = k
  · subst e
    rw [if_pos rfl]
    constructor
    · intro h2
      cases h2
      exact ⟨x, by simp⟩
    · rintro ⟨x', hx⟩
      rcases Nat.lt_trichotomy i es.length with h2 | h2 | h2
      · rw [List.getElem?_append_left h2] at hx
        rw [(h k' i).2 ⟨x', hx⟩] at hk
        cases hk
      · rw [h2]
      · rw [List.getElem?_append_right (by omega), List.getElem?_eq_none (by simp; omega)] at hx
        cases hx
  · rw [if_neg e]
    constructor
    · intro h2
      obtain ⟨x', hx⟩ := (h k' i).1 h2
      exact ⟨x', by rw [List.getElem?_append_left (h.lt h2)]; exact hx⟩
    · rintro ⟨x', hx⟩
      rcases Nat.lt_trichotomy i es.length with h2 | h2 | h2
      · rw [List.getElem?_append_left h2] at hx
        exact (h k' i).2 ⟨x', hx⟩
      · subst h2
        simp at hx
        exact absurd hx.1.symm e
      · rw [List.getElem?_append_right (by omega), List.getElem?_eq_none (by simp; omega)] at hx
        cases hx
theorem Rel.set {es : List Ent} {f : V → Option Nat} (h : Rel es f) {k : V} {i : Nat} (x : V) (hk : f k = some i) : Rel (es.set i ((k, x), false)) f := by
  intro k' j
  have hl := h.lt hk
  obtain ⟨x0, hx0⟩ := (h k i).1 hk
  rw [List.getElem?_set]
  by_cases e : i = j
  · subst e
    rw [if_pos rfl, if_pos hl]
    constructor
    · intro h2
      obtain ⟨x', hx⟩ := (h k' i).1 h2
      rw [hx0] at hx
      cases hx
      exact ⟨x, rfl⟩
    · rintro ⟨x', hx⟩
      cases hx
      exact hk
  · rw [if_neg e]
    exact h k' j
theorem Rel.drop {es : List Ent} {f : V → Option Nat} (h : Rel es f) {k : V} {i : Nat} (hk : f k = some i) : Rel (es.set i gap) (fun y => if y = k then none else f y) := by
  intro k' j
  have hl := h.lt hk
  obtain ⟨x0, hx0⟩ := (h k i).1 hk
  simp only
  rw [List.getElem?_set]
  by_cases e : i = j
  · subst e
    rw [if_pos rfl, if_pos hl]
    constructor
    · intro h2
      split at h2
      · cases h2
      · rename_i hne
        obtain ⟨x', hx⟩ := (h k' i).1 h2
        rw [hx0] at hx
        cases hx
        exact absurd rfl hne
    · rintro ⟨x', hx⟩
      simp [gap] at hx
  · rw [if_neg e]
    constructor
    · intro h2
      split at h2
      · cases h2
      · exact (h k' j).1 h2
    · rintro ⟨x', hx⟩
      have h3 := (h k' j).2 ⟨x', hx⟩
      rw [if_neg (by rintro rfl; rw [hk] at h3; cases h3; exact e rfl)]
      exact h3
/-- What a place tells of the pairs that are no gaps. -/
theorem Rel.at_ {es : List Ent} {f : V → Option Nat} (h : Rel es f) {k : V} {i : Nat} (hk : f k = some i) :
    ∃ j x, es[i]? = some ((k, x), false) ∧ idx (live es) k = some j ∧ (live es)[j]? = some (k, x) ∧ (∀ y, live (es.set i ((k, y), false)) = (live es).set j (k, y)) ∧ live (es.set i gap) = (live es).take j ++ (live es).drop (j + 1) := by
  obtain ⟨x, hx⟩ := (h k i).1 hk
  have hl := h.lt hk
  have he : es = es.take i ++ ((k, x), false) :: es.drop (i + 1) := by
    have h1 := List.drop_eq_getElem_cons hl
    have h2 : es[i] = ((k, x), false) := (List.getElem?_eq_some_iff.1 hx).2
    rw [h2] at h1
    rw [← h1, List.take_append_drop]
  obtain ⟨A, hA⟩ : ∃ A, es.take i = A := ⟨_, rfl⟩
  obtain ⟨B, hB⟩ : ∃ B, es.drop (i + 1) = B := ⟨_, rfl⟩
  rw [hA, hB] at he
  have hAl : A.length = i := by rw [← hA, List.length_take]; omega
  have hno : ∀ p ∈ live A, p.1 ≠ k := by
    rintro ⟨k', y⟩ hp rfl
    obtain ⟨j, hj⟩ := List.getElem?_of_mem (mem_live.1 hp)
    have hjl := (List.getElem?_eq_some_iff.1 hj).1
    have h3 := (h k' j).2 ⟨y, by rw [he, List.getElem?_append_left hjl]; exact hj⟩
    rw [hk] at h3
    cases h3
    omega
  have hL : live es = live A ++ (k, x) :: live B := by rw [he, live_app, live_cons_no]
  have hs : ∀ e, es.set i e = A ++ e :: B := fun e => by
    rw [he, List.set_append, if_neg (by omega), hAl, Nat.sub_self]
    rfl
  refine ⟨(live A).length, x, hx, ?_, ?_, ?_, ?_⟩
  · refine idx_first ⟨x, by rw [hL]; simp⟩ ?_
    intro j p hj hp
    rw [hL, List.getElem?_append_left hj] at hp
    exact hno p (List.mem_of_getElem? hp)
  · rw [hL]; simp
  · intro y
    rw [hs, hL, live_app, live_cons_no, List.set_append, if_neg (by omega), Nat.sub_self]
    rfl
  · rw [hs, hL, gap, live_app, live_cons_gap, List.take_append_of_le_length (Nat.le_refl _), List.take_length]
    congr 1
    rw [show (live A).length + 1 = (live A ++ [(k, x)]).length by simp, show live A ++ (k, x) :: live B = (live A ++ [(k, x)]) ++ live B by simp, List.drop_left]
theorem live_snoc (es : List Ent) (p : Pr) : live (es ++ [(p, false)]) = live es ++ [p] := by rw [live_app, live_cons_no, live_nil]
/-- What put, get and del are, by the places. -/
theorem Rel.put_there {es : List Ent} {f : V → Option Nat} (h : Rel es f) {k : V} {i : Nat} (hk : f k = some i) (hok : keyOk k = true) (y : V) : put (live es) k y = (true, live (es.set i ((k, y), false))) := by
  obtain ⟨j, x, _, h2, _, h4, _⟩ := h.at_ hk
  unfold put
  rw [if_pos hok, h2, h4]
theorem Rel.get_there {es : List Ent} {f : V → Option Nat} (h : Rel es f) {k : V} {i : Nat} (hk : f k = some i) : ∃ x, es[i]? = some ((k, x), false) ∧ get (live es) k = (x, true) := by
  obtain ⟨j, x, h1, h2, h3, _, _⟩ := h.at_ hk
  refine ⟨x, h1, ?_⟩
  unfold get
  rw [h2]
  simp only
  rw [h3]
  rfl
theorem Rel.del_there {es : List Ent} {f : V → Option Nat} (h : Rel es f) {k : V} {i : Nat} (hk : f k = some i) : del (live es) k = (true, live (es.set i gap)) ∧ (live (es.set i gap)).length + 1 = (live es).length := by
  obtain ⟨j, x, h1, h2, h3, _, h5⟩ := h.at_ hk
  have hj := (List.getElem?_eq_some_iff.1 h3).1
  unfold del
  rw [h2, h5]
  refine ⟨rfl, ?_⟩
  rw [List.length_append, List.length_take, List.length_drop]
  omega
/-- All that are told are keys. -/
def Keyed1 (l : List Pr) : Prop := ∀ p ∈ l, keyOk p.1 = true
theorem Keyed1.nil : Keyed1 [] := fun p hp => by cases hp
theorem Rel.keys_nodup {es : List Ent} {f : V → Option Nat} (h : Rel es f) (A B : List Ent) (e : es = A ++ B) : ∀ p ∈ live B, ∀ q ∈ live A, q.1 ≠ p.1 := by
  rintro ⟨k, x⟩ hp ⟨k', y⟩ hq e2
  simp only at e2
  subst e2
  obtain ⟨i, hi⟩ := List.getElem?_of_mem (mem_live.1 hq)
  obtain ⟨j, hj⟩ := List.getElem?_of_mem (mem_live.1 hp)
  have hil := (List.getElem?_eq_some_iff.1 hi).1
  have h1 := (h k' i).2 ⟨y, by rw [e, List.getElem?_append_left hil]; exact hi⟩
  have h2 := (h k' (A.length + j)).2 ⟨x, by rw [e, List.getElem?_append_right (by omega), Nat.add_sub_cancel_left]; exact hj⟩
  rw [h1] at h2
  cases h2
  omega
theorem Rel.pairwise {es : List Ent} {f : V → Option Nat} (h : Rel es f) : (live es).Pairwise (fun a b => a.1 ≠ b.1) := by
  unfold live
  rw [List.pairwise_filterMap, List.pairwise_iff_getElem]
  intro i j hi hj hij a ha b hb
  rintro e
  obtain ⟨k, x, m, hei⟩ : ∃ k x m, es[i] = ((k, x), m) := ⟨_, _, _, rfl⟩
  obtain ⟨k', y, m', hej⟩ : ∃ k x m, es[j] = ((k, x), m) := ⟨_, _, _, rfl⟩
  rw [hei] at ha
  rw [hej] at hb
  cases m <;> simp at ha
  cases m' <;> simp at hb
  subst ha
  subst hb
  simp only at e
  subst e
  have h1 := (h k i).2 ⟨x, by rw [List.getElem?_eq_getElem hi, hei]⟩
  have h2 := (h k j).2 ⟨y, by rw [List.getElem?_eq_getElem hj, hej]⟩
  rw [h1] at h2
  cases h2
  omega
theorem Rel.nodup {es : List Ent} {f : V → Option Nat} (h : Rel es f) (q : List Pr) (p : Pr) (r : List Pr) (e : live es = q ++ p :: r) : ∀ x ∈ q, x.1 ≠ p.1 := by
  have h1 := h.pairwise
  rw [e, List.pairwise_append] at h1
  exact fun x hx => h1.2.2 x hx p (by simp)
end Di
end Go.Proofs.Ytaghkidelbepnaa
