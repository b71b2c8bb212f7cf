/-
  The tokens of a line, as a plain function on bytes; nothing here is a walk.
-/
import Derived.Test.YtbdjccmcdifjcaaGreatDoorM
set_option linter.unusedVariables false
set_option linter.unusedSimpArgs false
namespace Go.Proofs.YtbdjccmcdifjcaaGreatDoor
namespace Sp

/-- The tokens of a line from a place on, or where, and what, is wrong. -/
def lexGo : Nat → Nat → Bs → Except (Nat × Int) (List (Nat × Tk))
  | 0, _, _ => .ok []
  | _ + 1, _, [] => .ok []
  | f + 1, pos, c :: r =>
    if c.toNat = 32 then lexGo f (pos + 1) r
    else if c.toNat = 35 then .ok []
    else match tok1 (c :: r) with
      | .error e => .error (pos, e)
      | .ok t => match lexGo f (pos + t.size) ((c :: r).drop t.size) with
        | .error x => .error x
        | .ok ts => .ok ((pos, t) :: ts)

theorem tokStr_size {q : UInt8} {r : Bs} {t : Tk} (h : tokStr q r = .ok t) : 2 ≤ t.size ∧ t.size ≤ r.length + 1 := by
  unfold tokStr at h
  split at h
  · rename_i x n hs
    have := strAt_len q r.length r x n (Nat.le_refl _) hs
    split at h
    · cases h
      simp only
      omega
    · cases h
  · cases h
theorem tokInt_size {l : Bs} {t : Tk} (h : tokInt l = .ok t) : t.size = l.length := by
  unfold tokInt at h
  split at h
  · cases h
  · split at h
    · cases h; rfl
    · cases h
theorem tokOp_size {l : Bs} {t : Tk} (h : tokOp l = .ok t) : 1 ≤ t.size ∧ t.size ≤ l.length := by
  unfold tokOp opsFrom at h
  split at h
  · rename_i o ho
    cases h
    have h1 := List.find?_some ho
    have h2 : o ∈ opsL := by simpa using List.mem_of_find?_eq_some ho
    have h3 : 1 ≤ o.length := by
      have : ∀ x ∈ opsL, 1 ≤ x.length := by decide
      exact this o h2
    have h4 := (List.isPrefixOf_iff_prefix.1 h1).length_le
    exact ⟨h3, h4⟩
  · cases h

theorem tok1_size {l : Bs} {t : Tk} (h : tok1 l = .ok t) : 1 ≤ t.size ∧ t.size ≤ l.length := by
  cases l with
  | nil => cases h
  | cons c r =>
    rw [tok1] at h
    split at h
    · have := tokStr_size h
      simp
      omega
    · have hwd : ∀ (b : Bool), isWd c = true → 1 ≤ ((c :: r).take (wordLen (c :: r))).length ∧ ((c :: r).take (wordLen (c :: r))).length ≤ (c :: r).length := by
        intro _ hw
        have h1 := wordLen_le (c :: r)
        rw [List.length_take, Nat.min_eq_left h1]
        refine ⟨?_, h1⟩
        rw [wordLen, if_pos hw]
        omega
      split at h
      · rename_i hd
        rw [tokInt_size h]
        exact hwd true (by simp [isWd, hd])
      · split at h
        · rename_i hw
          cases h
          exact hwd true hw
        · exact tokOp_size h

theorem lexGo_more : ∀ (f g pos : Nat) (l : Bs), l.length ≤ f → l.length ≤ g → lexGo f pos l = lexGo g pos l := by
  intro f
  induction f with
  | zero =>
    intro g pos l h1 h2
    have : l = [] := by cases l with | nil => rfl | cons => simp at h1
    subst this
    cases g <;> rfl
  | succ f ih =>
    intro g pos l h1 h2
    cases l with
    | nil => cases g <;> rfl
    | cons c r =>
      obtain ⟨g, rfl⟩ : ∃ g', g = g' + 1 := ⟨g - 1, by simp at h2; omega⟩
      simp only [List.length_cons] at h1 h2
      rw [lexGo, lexGo]
      split
      · exact ih g (pos + 1) r (by omega) (by omega)
      · split
        · rfl
        · split
          · rfl
          · rename_i t ht
            have hs := tok1_size ht
            rw [ih g (pos + t.size) ((c :: r).drop t.size) (by simp; omega) (by simp; omega)]

def lexAt (pos : Nat) (l : Bs) : Except (Nat × Int) (List (Nat × Tk)) := lexGo l.length pos l
def lex (l : Bs) : Except (Nat × Int) (List (Nat × Tk)) := lexAt 0 l
/-- Tokens ahead of others. -/
def ahead (ts : List (Nat × Tk)) : Except (Nat × Int) (List (Nat × Tk)) → Except (Nat × Int) (List (Nat × Tk))
  | .error x => .error x
  | .ok us => .ok (ts ++ us)

theorem ahead_nil (x : Except (Nat × Int) (List (Nat × Tk))) : ahead [] x = x := by cases x <;> rfl
theorem ahead_ahead (ts us : List (Nat × Tk)) (x : Except (Nat × Int) (List (Nat × Tk))) : ahead ts (ahead us x) = ahead (ts ++ us) x := by cases x <;> simp [ahead]

theorem lexAt_nil (pos : Nat) : lexAt pos [] = .ok [] := rfl
theorem lexAt_blank (pos : Nat) (c : UInt8) (r : Bs) (h : c.toNat = 32) : lexAt pos (c :: r) = lexAt (pos + 1) r := by
  show lexGo (r.length + 1) pos (c :: r) = _
  rw [lexGo, if_pos h]
  rfl
theorem lexAt_hash (pos : Nat) (c : UInt8) (r : Bs) (h : c.toNat = 35) : lexAt pos (c :: r) = .ok [] := by
  show lexGo (r.length + 1) pos (c :: r) = _
  rw [lexGo, if_neg (by omega), if_pos h]
theorem lexAt_err (pos : Nat) (c : UInt8) (r : Bs) (h1 : ¬ c.toNat = 32) (h2 : ¬ c.toNat = 35) (e : Int) (h : tok1 (c :: r) = .error e) : lexAt pos (c :: r) = .error (pos, e) := by
  show lexGo (r.length + 1) pos (c :: r) = _
  rw [lexGo, if_neg h1, if_neg h2, h]
theorem lexAt_tok (pos : Nat) (c : UInt8) (r : Bs) (h1 : ¬ c.toNat = 32) (h2 : ¬ c.toNat = 35) (t : Tk) (h : tok1 (c :: r) = .ok t) :
    lexAt pos (c :: r) = ahead [(pos, t)] (lexAt (pos + t.size) ((c :: r).drop t.size)) := by
  show lexGo (r.length + 1) pos (c :: r) = _
  rw [lexGo, if_neg h1, if_neg h2, h]
  have hs := tok1_size h
  simp only []
  unfold lexAt
  rw [lexGo_more r.length ((c :: r).drop t.size).length (pos + t.size) ((c :: r).drop t.size) (by simp; omega) (Nat.le_refl _)]
  cases lexGo ((c :: r).drop t.size).length (pos + t.size) ((c :: r).drop t.size) <;> rfl

theorem tok1_err {l : Bs} {e : Int} (h : tok1 l = .error e) : e = 10 ∨ e = 11 ∨ e = 12 := by
  cases l with
  | nil => cases h; exact Or.inl rfl
  | cons c r =>
    rw [tok1] at h
    split at h
    · exact Or.inr (Or.inr (tokStr_err _ _ _ h))
    · split at h
      · unfold tokInt at h
        split at h
        · cases h; exact Or.inr (Or.inl rfl)
        · split at h
          · cases h
          · cases h; exact Or.inr (Or.inl rfl)
      · split at h
        · cases h
        · unfold tokOp opsFrom at h
          split at h
          · cases h
          · cases h; exact Or.inl rfl
end Sp
end Go.Proofs.YtbdjccmcdifjcaaGreatDoor
