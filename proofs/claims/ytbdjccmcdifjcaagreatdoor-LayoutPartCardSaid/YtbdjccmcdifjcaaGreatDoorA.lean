/-
  Names and keywords as the one token of a line: plain facts on bytes.
-/
import Derived.Test.YtbdjccmcdifjcaaGreatDoorX
set_option linter.unusedVariables false
set_option linter.unusedSimpArgs false
namespace Go.Proofs.YtbdjccmcdifjcaaGreatDoor
namespace Sp

/-- Each token of a line is the token with which the rest of the line begins there. -/
theorem lex_mem : ∀ (f : Nat) (l : Bs) (pos : Nat) (ts : List (Nat × Tk)), l.length ≤ f → lexAt pos l = .ok ts → ∀ x ∈ ts, pos ≤ x.1 ∧ x.1 < pos + l.length ∧ tok1 (l.drop (x.1 - pos)) = .ok x.2 := by
  intro f
  induction f with
  | zero =>
    intro l pos ts hl h x hx
    have : l = [] := by cases l with | nil => rfl | cons => simp at hl
    subst this
    rw [lexAt_nil] at h
    cases h
    cases hx
  | succ f ih =>
    intro l pos ts hl h x hx
    cases l with
    | nil =>
      rw [lexAt_nil] at h
      cases h
      cases hx
    | cons c r =>
      simp only [List.length_cons] at hl
      by_cases h32 : c.toNat = 32
      · rw [lexAt_blank _ _ _ h32] at h
        obtain ⟨h1, h2, h3⟩ := ih r (pos + 1) ts (by omega) h x hx
        refine ⟨by omega, by simp; omega, ?_⟩
        rw [show x.1 - pos = (x.1 - (pos + 1)) + 1 by omega, List.drop_succ_cons]
        exact h3
      · by_cases h35 : c.toNat = 35
        · rw [lexAt_hash _ _ _ h35] at h
          cases h
          cases hx
        · cases ht : tok1 (c :: r) with
          | error e =>
            rw [lexAt_err _ _ _ h32 h35 e ht] at h
            cases h
          | ok t =>
            rw [lexAt_tok _ _ _ h32 h35 t ht] at h
            have hs := tok1_size ht
            cases hr : lexAt (pos + t.size) ((c :: r).drop t.size) with
            | error y => rw [hr] at h; cases h
            | ok us =>
              rw [hr] at h
              cases h
              rcases List.mem_cons.1 hx with rfl | hx
              · simp only [Nat.sub_self, List.drop_zero]
                exact ⟨Nat.le_refl _, by simp, ht⟩
              · obtain ⟨h1, h2, h3⟩ := ih ((c :: r).drop t.size) (pos + t.size) us (by simp; omega) hr x hx
                simp only [List.length_drop] at h2
                refine ⟨by omega, by omega, ?_⟩
                rw [List.drop_drop] at h3
                rw [show x.1 - pos = t.size + (x.1 - (pos + t.size)) by omega]
                exact h3

theorem isLet_facts {c : UInt8} (h : isLet c = true) : ¬ c.toNat = 32 ∧ ¬ c.toNat = 35 ∧ ¬ (c.toNat = 39 ∨ c.toNat = 34) ∧ isDig c = false ∧ isWd c = true := by
  have h2 : isWd c = true := by simp [isWd, h]
  simp [isLet] at h
  refine ⟨by omega, by omega, by omega, ?_, h2⟩
  simp [isDig]
  omega

/-- Whether a text is one word that begins with no digit. -/
def wordy (l : Bs) : Bool :=
  match l with
  | [] => false
  | c :: _ => isLet c && decide (wordLen l = l.length)

theorem tok1_word {c : UInt8} {r : Bs} (h : isLet c = true) : tok1 (c :: r) = .ok ⟨1, (c :: r).take (wordLen (c :: r)), 0, ((c :: r).take (wordLen (c :: r))).length⟩ := by
  obtain ⟨h1, h2, h3, h4, h5⟩ := isLet_facts h
  rw [tok1, if_neg h3, h4, if_neg (by simp), if_pos h5]
  rfl

theorem tok1_kind1 {l : Bs} {t : Tk} (h : tok1 l = .ok t) (hk : t.kind = 1) : ∃ c r, l = c :: r ∧ isLet c = true ∧ t.text = l.take (wordLen l) := by
  cases l with
  | nil => cases h
  | cons c r =>
    rw [tok1] at h
    split at h
    · exfalso
      unfold tokStr at h
      split at h
      · split at h
        · cases h; simp at hk
        · cases h
      · cases h
    · split at h
      · exfalso
        unfold tokInt at h
        split at h
        · cases h
        · split at h
          · cases h; simp at hk
          · cases h
      · rename_i hd
        split at h
        · rename_i hw
          cases h
          refine ⟨c, r, rfl, ?_, rfl⟩
          simp only [isWd, Bool.or_eq_true] at hw
          rcases hw with hw | hw
          · exact hw
          · exact absurd hw hd
        · exfalso
          unfold tokOp opsFrom at h
          split at h
          · cases h; simp at hk
          · cases h

theorem lex_wordy {l : Bs} (h : wordy l = true) : lex l = .ok [(0, ⟨1, l, 0, l.length⟩)] := by
  cases l with
  | nil => cases h
  | cons c r =>
    simp only [wordy, Bool.and_eq_true, decide_eq_true_eq] at h
    obtain ⟨hc, hw⟩ := h
    obtain ⟨h1, h2, _, _, _⟩ := isLet_facts hc
    have ht := tok1_word (r := r) hc
    rw [hw, List.take_length] at ht
    unfold lex
    rw [lexAt_tok 0 c r h1 h2 _ ht]
    simp only
    rw [List.drop_length, lexAt_nil]
    rfl

theorem wordy_of_lex {l : Bs} {p : Nat} {t : Tk} (h : lex l = .ok [(p, t)]) (hk : t.kind = 1) (ht : t.text = l) : wordy l = true := by
  obtain ⟨_, h2, h3⟩ := lex_mem l.length l 0 _ (Nat.le_refl _) h (p, t) (by simp)
  simp only [Nat.sub_zero, Nat.zero_add] at h2 h3
  obtain ⟨c, r, e1, e2, e3⟩ := tok1_kind1 h3 hk
  rw [ht] at e3
  have hlen := congrArg List.length e3
  rw [List.length_take] at hlen
  have hwl := wordLen_le (l.drop p)
  rw [List.length_drop] at hwl hlen
  have hp : p = 0 := by omega
  subst hp
  rw [List.drop_zero] at e1 e3 hlen hwl
  rw [e1] at hlen hwl ⊢
  simp only [wordy, e2, Bool.true_and, decide_eq_true_eq]
  simp at hlen hwl ⊢
  omega

theorem kws_wordy : kws.all wordy = true := by decide
theorem kw_wordy {l : Bs} (h : kw l = true) : wordy l = true := by
  have h1 : l ∈ kws := by simpa [kw] using h
  exact List.all_eq_true.1 kws_wordy l h1
theorem wordy_eq (l : Bs) : wordy l = (nm l || kw l) := by
  cases hk : kw l with
  | true => rw [kw_wordy hk]; simp
  | false =>
    cases l with
    | nil => rfl
    | cons c r => simp [wordy, nm, hk]
theorem nm_kw (l : Bs) : (nm l && kw l) = false := by
  cases l with
  | nil => rfl
  | cons c r =>
    cases hk : kw (c :: r) with
    | false => simp
    | true => simp [nm, hk]
theorem wordLen_snoc (l : Bs) (c : UInt8) (h : wordLen l = l.length) : wordLen (l ++ [c]) = if isWd c then l.length + 1 else l.length := by
  induction l with
  | nil => simp [wordLen]
  | cons d r ih =>
    have hd : isWd d = true := by
      cases hd : isWd d with
      | true => rfl
      | false => rw [wordLen, hd] at h; simp at h
    rw [wordLen, if_pos hd] at h
    rw [List.cons_append, wordLen, if_pos hd, ih (by simpa using h)]
    split <;> simp
theorem wordy_snoc {l : Bs} (h : wordy l = true) (c : UInt8) : wordy (l ++ [c]) = isWd c := by
  cases l with
  | nil => cases h
  | cons d r =>
    simp only [wordy, Bool.and_eq_true, decide_eq_true_eq] at h
    obtain ⟨hc, hw⟩ := h
    have := wordLen_snoc (d :: r) c hw
    have e : wordy (d :: r ++ [c]) = decide (wordLen (d :: r ++ [c]) = (d :: r ++ [c]).length) := by
      show (isLet d && _) = _
      rw [hc]
      rfl
    rw [e, Bool.eq_iff_iff, decide_eq_true_eq, this]
    cases hwc : isWd c with
    | true => simp
    | false => simp
end Sp
end Go.Proofs.YtbdjccmcdifjcaaGreatDoor
