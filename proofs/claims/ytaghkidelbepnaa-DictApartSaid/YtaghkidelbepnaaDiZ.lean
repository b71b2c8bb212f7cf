/-
  Dicts as rows of pairs, plain: what is there behind a put, a delete; keys stand once; nothing here speaks of a program.
-/
import Derived.Test.YtaghkidelbepnaaDiP
set_option linter.unusedVariables false
set_option linter.unusedSimpArgs false
namespace Go.Proofs.Ytaghkidelbepnaa
namespace Di

/-- What lies at a key. -/
def lk : List Pr → V → Option V
  | [], _ => none
  | p :: l, k => if p.1 = k then some p.2 else lk l k
/-- Without a key's pair. -/
def era : List Pr → V → List Pr
  | [], _ => []
  | p :: l, k => if p.1 = k then l else p :: era l k
/-- With a key's pair: at its place, or behind. -/
def upd : List Pr → V → V → List Pr
  | [], k, x => [(k, x)]
  | p :: l, k, x => if p.1 = k then (k, x) :: l else p :: upd l k x
theorem idx_lk {k : V} : ∀ (l : List Pr), (idx l k).isSome = (lk l k).isSome
  | [] => rfl
  | p :: l => by
    unfold idx lk
    split
    · rfl
    · rw [Option.isSome_map]; exact idx_lk l
theorem lk_none {k : V} {l : List Pr} : lk l k = none ↔ ∀ p ∈ l, p.1 ≠ k := by
  rw [← idx_none]
  have := idx_lk (k := k) l
  cases h1 : idx l k <;> cases h2 : lk l k <;> simp_all
theorem get_lk (l : List Pr) (k : V) : get l k = ((lk l k).getD zeroV, (lk l k).isSome) := by
  unfold get
  induction l with
  | nil => rfl
  | cons p l ih =>
    unfold idx lk
    by_cases h : p.1 = k
    · simp [h]
    · rw [if_neg h, if_neg h, ← ih]
      cases idx l k <;> simp
theorem del_era (l : List Pr) (k : V) : del l k = ((lk l k).isSome, era l k) := by
  unfold del
  induction l with
  | nil => rfl
  | cons p l ih =>
    unfold idx lk era
    by_cases h : p.1 = k
    · simp [h]
    · rw [if_neg h, if_neg h, if_neg h]
      cases hi : idx l k with
      | none => rw [hi] at ih; simp at ih ⊢; exact ⟨ih.1, ih.2⟩
      | some i => rw [hi] at ih; simp at ih ⊢; exact ih
theorem put_upd {l : List Pr} {k : V} (x : V) (hk : keyOk k = true) (hl : l.length < mx ∨ (lk l k).isSome = true) : put l k x = (true, upd l k x) := by
  unfold put
  rw [if_pos hk]
  have : ∀ l : List Pr, (match idx l k with | some i => l.set i (k, x) | none => l ++ [(k, x)]) = upd l k x := by
    intro l
    induction l with
    | nil => rfl
    | cons p l ih =>
      unfold idx upd
      by_cases h : p.1 = k
      · simp [h]
      · rw [if_neg h, if_neg h, ← ih]
        cases idx l k <;> simp
  rw [← this l]
  cases hi : idx l k with
  | some i => rfl
  | none =>
    have h2 : (lk l k).isSome = false := by rw [← idx_lk, hi]; rfl
    have : l.length < mx := hl.resolve_right (by rw [h2]; decide)
    simp [this]
theorem put_full {l : List Pr} {k : V} (x : V) (h : lk l k = none) (hl : mx ≤ l.length) : put l k x = (false, l) := by
  unfold put
  have hi : idx l k = none := idx_none.2 (lk_none.1 h)
  rw [hi]
  split
  · simp only [if_neg (show ¬ l.length < mx by omega)]
  · rfl
theorem put_bad {l : List Pr} {k : V} (x : V) (hk : keyOk k = false) : put l k x = (false, l) := by
  unfold put
  rw [hk]
  rfl
theorem lk_upd (k x j : V) : ∀ (l : List Pr), lk (upd l k x) j = if k = j then some x else lk l j
  | [] => by simp [upd, lk]
  | p :: l => by
    unfold upd
    by_cases h : p.1 = k
    · rw [if_pos h]
      by_cases hj : k = j
      · simp [lk, hj]
      · have : p.1 ≠ j := by rw [h]; exact hj
        simp [lk, hj, this]
    · rw [if_neg h]
      unfold lk
      rw [lk_upd k x j l]
      by_cases hj : k = j
      · subst hj; simp [h]
      · simp [hj]
/-- No key stands twice. -/
def Nd (l : List Pr) : Prop := (l.map (·.1)).Nodup
theorem lk_era {l : List Pr} (k j : V) (hn : Nd l) : lk (era l k) j = if k = j then none else lk l j := by
  induction l with
  | nil => simp [era, lk]
  | cons p l ih =>
    unfold Nd at hn ih
    rw [List.map_cons, List.nodup_cons] at hn
    unfold era
    by_cases h : p.1 = k
    · rw [if_pos h]
      by_cases hj : k = j
      · subst hj
        rw [if_pos rfl]
        apply lk_none.2
        intro q hq e
        exact hn.1 (by rw [h, ← e]; exact List.mem_map_of_mem hq)
      · rw [if_neg hj]
        have : p.1 ≠ j := by rw [h]; exact hj
        rw [lk, if_neg this]
    · rw [if_neg h, lk, ih hn.2]
      by_cases hj : k = j
      · subst hj; simp [h]
      · simp [hj, lk]
theorem upd_keys (k x : V) : ∀ (l : List Pr), (upd l k x).map (·.1) = if (lk l k).isSome then l.map (·.1) else l.map (·.1) ++ [k]
  | [] => by simp [upd, lk]
  | p :: l => by
    unfold upd lk
    by_cases h : p.1 = k
    · simp [h]
    · rw [if_neg h, if_neg h, List.map_cons, upd_keys k x l]
      split <;> simp
theorem upd_nd {l : List Pr} (k x : V) (h : Nd l) : Nd (upd l k x) := by
  unfold Nd
  rw [upd_keys]
  split
  · exact h
  · rename_i hk
    have hn : lk l k = none := by cases h : lk l k <;> simp_all
    rw [List.nodup_append]
    refine ⟨h, by simp, ?_⟩
    intro a ha b hb
    simp at hb; subst hb
    obtain ⟨p, hp, rfl⟩ := List.mem_map.1 ha
    exact lk_none.1 hn p hp
theorem era_sub (k : V) : ∀ (l : List Pr), (era l k).Sublist l
  | [] => by simp [era]
  | p :: l => by
    unfold era
    split
    · exact List.sublist_cons_self _ _
    · exact (era_sub k l).cons_cons p
theorem era_nd {l : List Pr} (k : V) (h : Nd l) : Nd (era l k) := List.Sublist.nodup ((era_sub k l).map _) h
theorem put_nd {l : List Pr} (k x : V) (h : Nd l) : Nd (put l k x).2 := by
  cases hk : keyOk k with
  | false => rw [put_bad x hk]; exact h
  | true =>
    by_cases hl : l.length < mx ∨ (lk l k).isSome = true
    · rw [put_upd x hk hl]; exact upd_nd k x h
    · have h1 : lk l k = none := by cases h2 : lk l k <;> simp_all
      rw [put_full x h1 (by omega)]; exact h
theorem upd_length (k x : V) (l : List Pr) : (upd l k x).length = if (lk l k).isSome then l.length else l.length + 1 := by
  have := congrArg List.length (upd_keys k x l)
  rw [List.length_map] at this
  rw [this]
  split <;> simp
theorem era_length (k : V) : ∀ (l : List Pr), (era l k).length = if (lk l k).isSome then l.length - 1 else l.length
  | [] => rfl
  | p :: l => by
    unfold era lk
    by_cases h : p.1 = k
    · simp [h]
    · rw [if_neg h, if_neg h, List.length_cons, era_length k l]
      cases hl : lk l k with
      | none => rfl
      | some x =>
        have : l ≠ [] := by rintro rfl; cases hl
        have := List.length_pos_iff.2 this
        simp; omega
theorem mk_nd {l : List Pr} (c : Cl) (h : Nd l) : Nd (mk l c) := by
  unfold mk
  split
  · rw [del_era]; exact era_nd _ h
  · exact put_nd _ _ h
theorem fold_nd : ∀ (cs : List Cl) (l : List Pr), Nd l → Nd (cs.foldl (fun l c => mk l (fit c)) l)
  | [], l, h => h
  | c :: cs, l, h => by rw [List.foldl_cons]; exact fold_nd cs _ (mk_nd _ h)
theorem made_nd (cs : List Cl) : Nd (made cs) := fold_nd _ [] (by simp [Nd])
end Di
end Go.Proofs.Ytaghkidelbepnaa
