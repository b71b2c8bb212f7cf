/-
  What is quoted is unquoted: plain facts on bytes.
-/
import Derived.Test.YtbdjccmcdifjcaaGreatDoorX
set_option linter.unusedVariables false
set_option linter.unusedSimpArgs false
namespace Go.Proofs.YtbdjccmcdifjcaaGreatDoor
namespace Sp

theorem hexv_low (k : Nat) (h : k < 16) : hexv (hexLow k) = some k := by
  have : ∀ j : Fin 16, hexv (hexLow j.val) = some j.val := by decide
  exact this ⟨k, h⟩

/-- One byte, quoted, read back; and what is cut short of it is none. -/
theorem strAt_quoteB (c : UInt8) (u : Bs) : strAt 39 (quoteB c ++ u) = (strAt 39 u).map fun x => (c :: x.1, x.2 + (quoteB c).length) := by
  have hc := c.toNat_lt
  have e39 : ¬ (92 : UInt8) = 39 := by decide
  have e92 : (92 : UInt8).toNat = 92 := rfl
  unfold quoteB
  split
  · rename_i h
    have hc' : c = 10 := UInt8.toNat_inj.1 h
    rw [List.cons_append, strAt_cons, if_neg e39, if_neg (by decide), if_pos e92]
    simp only [List.cons_append, List.nil_append, esc, simp1]
    simp [hc']
  · split
    · rename_i h
      have hc' : c = 9 := UInt8.toNat_inj.1 h
      rw [List.cons_append, strAt_cons, if_neg e39, if_neg (by decide), if_pos e92]
      simp only [List.cons_append, List.nil_append, esc, simp1]
      simp [hc']
    · split
      · rename_i h
        have hs : simp1 c = some c := by
          unfold simp1
          rw [if_neg (by omega), if_neg (by omega), if_pos (by omega)]
        have he : esc (c :: u) = some (c, 1) := by unfold esc; simp only [hs]
        rw [List.cons_append, strAt_cons, if_neg e39, if_neg (by decide), if_pos e92]
        simp only [List.cons_append, List.nil_append, he]
        simp
      · split
        · rename_i h
          have hs : simp1 120 = none := by decide
          have he : esc (120 :: hexLow (c.toNat / 16) :: hexLow (c.toNat % 16) :: u) = some (c, 3) := by
            unfold esc
            simp only [hs, hexv_low _ (show c.toNat / 16 < 16 by omega), hexv_low _ (show c.toNat % 16 < 16 by omega)]
            rw [if_pos (by decide)]
            congr 2
            apply UInt8.toNat_inj.1
            simp
            omega
          rw [List.cons_append, strAt_cons, if_neg e39, if_neg (by decide), if_pos e92]
          simp only [List.cons_append, List.nil_append, he]
          simp
        · rename_i h1 h2 h3 h4
          have hne : ¬ c = 39 := fun e => h3 (by rw [e]; decide)
          rw [List.cons_append, strAt_cons, if_neg hne, if_neg (by omega), if_neg (by omega)]
          simp

theorem strAt_quote (w u : Bs) : strAt 39 (w.flatMap quoteB ++ 39 :: u) = some (w, (w.flatMap quoteB).length + 1) := by
  induction w with
  | nil => simp [strAt_cons]
  | cons c w ih =>
    rw [List.flatMap_cons, List.append_assoc, strAt_quoteB, ih]
    simp
    omega

theorem strAt_cutB (c : UInt8) (k : Nat) (h : k < (quoteB c).length) : strAt 39 ((quoteB c).take k) = none := by
  have e39 : ¬ (92 : UInt8) = 39 := by decide
  have e92 : (92 : UInt8).toNat = 92 := rfl
  have one : strAt 39 [92] = none := by rw [strAt_cons, if_neg e39, if_neg (by decide), if_pos e92]; rfl
  unfold quoteB at h ⊢
  split at h
  · rename_i hc
    rw [if_pos hc]
    match k, h with
    | 0, _ => rfl
    | 1, _ => exact one
  · rename_i hc
    rw [if_neg hc]
    split at h
    · rename_i hc
      rw [if_pos hc]
      match k, h with
      | 0, _ => rfl
      | 1, _ => exact one
    · rename_i hc
      rw [if_neg hc]
      split at h
      · rename_i hc
        rw [if_pos hc]
        match k, h with
        | 0, _ => rfl
        | 1, _ => exact one
      · rename_i hc
        rw [if_neg hc]
        split at h
        · rename_i hc
          rw [if_pos hc]
          have hs : simp1 120 = none := by decide
          match k, h with
          | 0, _ => rfl
          | 1, _ => exact one
          | 2, _ =>
            show strAt 39 [92, 120] = none
            rw [strAt_cons, if_neg e39, if_neg (by decide), if_pos e92]
            rfl
          | 3, _ =>
            show strAt 39 [92, 120, hexLow (c.toNat / 16)] = none
            have he : esc [120, hexLow (c.toNat / 16)] = none := by unfold esc; simp only [hs]; rw [if_pos (by decide)]
            rw [strAt_cons, if_neg e39, if_neg (by decide), if_pos e92, he]
        · rename_i hc
          rw [if_neg hc]
          match k, h with
          | 0, _ => rfl

theorem strAt_cut (w : Bs) : ∀ k, strAt 39 ((w.flatMap quoteB).take k) = none := by
  induction w with
  | nil => intro k; simp [strAt_nil]
  | cons c w ih =>
    intro k
    rw [List.flatMap_cons]
    by_cases h : k < (quoteB c).length
    · rw [List.take_append_of_le_length (by omega)]
      exact strAt_cutB c k h
    · have e : (quoteB c ++ w.flatMap quoteB).take k = quoteB c ++ (w.flatMap quoteB).take (k - (quoteB c).length) := by
        rw [List.take_append, List.take_of_length_le (by omega)]
      rw [e, strAt_quoteB, ih]
      rfl

theorem quoteB_bounds (c : UInt8) : 1 ≤ (quoteB c).length ∧ (quoteB c).length ≤ 4 ∧ ∀ b ∈ quoteB c, 32 ≤ b.toNat ∧ b.toNat ≤ 126 := by
  have hl : ∀ k, k < 16 → 32 ≤ (hexLow k).toNat ∧ (hexLow k).toNat ≤ 126 := by
    intro k hk
    have : ∀ j : Fin 16, 32 ≤ (hexLow j.val).toNat ∧ (hexLow j.val).toNat ≤ 126 := by decide
    exact this ⟨k, hk⟩
  have hc := c.toNat_lt
  have h1 := hl (c.toNat / 16) (by omega)
  have h2 := hl (c.toNat % 16) (by omega)
  unfold quoteB
  split
  · refine ⟨by simp, by simp, ?_⟩
    intro b hb
    simp at hb
    rcases hb with rfl | rfl <;> decide
  · split
    · refine ⟨by simp, by simp, ?_⟩
      intro b hb
      simp at hb
      rcases hb with rfl | rfl <;> decide
    · split
      · refine ⟨by simp, by simp, ?_⟩
        intro b hb
        simp at hb
        rcases hb with rfl | rfl
        · decide
        · omega
      · split
        · refine ⟨by simp, by simp, ?_⟩
          intro b hb
          simp only [List.mem_cons, List.not_mem_nil, or_false] at hb
          rcases hb with rfl | rfl | rfl | rfl
          · decide
          · decide
          · exact h1
          · exact h2
        · refine ⟨by simp, by simp, ?_⟩
          intro b hb
          simp at hb
          subst hb
          omega

theorem quote_bounds (w : Bs) : w.length + 2 ≤ (quote w).length ∧ (quote w).length ≤ 4 * w.length + 2 ∧ ∀ b ∈ quote w, 32 ≤ b.toNat ∧ b.toNat ≤ 126 := by
  have key : w.length ≤ (w.flatMap quoteB).length ∧ (w.flatMap quoteB).length ≤ 4 * w.length ∧ ∀ b ∈ w.flatMap quoteB, 32 ≤ b.toNat ∧ b.toNat ≤ 126 := by
    induction w with
    | nil => simp
    | cons c w ih =>
      have h := quoteB_bounds c
      rw [List.flatMap_cons]
      refine ⟨by simp only [List.length_cons, List.length_append]; omega, by simp only [List.length_cons, List.length_append]; omega, ?_⟩
      intro b hb
      rcases List.mem_append.1 hb with hb | hb
      · exact h.2.2 b hb
      · exact ih.2.2 b hb
  unfold quote
  refine ⟨by simp only [List.length_cons, List.length_append, List.length_nil]; omega, by simp only [List.length_cons, List.length_append, List.length_nil]; omega, ?_⟩
  intro b hb
  rcases List.mem_cons.1 hb with rfl | hb
  · decide
  · rcases List.mem_append.1 hb with hb | hb
    · exact key.2.2 b hb
    · simp at hb
      subst hb
      decide

theorem unq_cons39 (r : Bs) : unq (39 :: r) = match strAt 39 r with
    | some (t, n) => if t.length ≤ 65536 ∧ n = r.length then some t else none
    | none => none := by
  unfold unq
  simp only []
  rw [if_pos (by decide)]
  unfold tokStr
  cases hs : strAt 39 r with
  | none => rfl
  | some x =>
    obtain ⟨t, n⟩ := x
    simp only []
    by_cases h1 : t.length ≤ 65536
    · rw [if_pos h1]
      simp only [List.length_cons]
      by_cases h2 : n = r.length
      · rw [if_pos (by omega), if_pos ⟨h1, h2⟩]
      · rw [if_neg (by omega), if_neg (fun h => h2 h.2)]
    · rw [if_neg h1, if_neg (fun h => h1 h.1)]

theorem unq_quote (w : Bs) (h : w.length ≤ 65536) : unq (quote w) = some w := by
  unfold quote
  rw [unq_cons39, strAt_quote]
  simp [h]
theorem unq_quote_more (w : Bs) (c : UInt8) : unq (quote w ++ [c]) = none := by
  unfold quote
  rw [List.cons_append, List.append_assoc, unq_cons39]
  rw [show [39] ++ [c] = 39 :: [c] from rfl, strAt_quote]
  simp
theorem unq_quote_cut (w : Bs) (i : Nat) (h : i < (quote w).length) : unq ((quote w).take i) = none := by
  unfold quote at h ⊢
  cases i with
  | zero => rfl
  | succ i =>
    rw [List.take_succ_cons, unq_cons39]
    simp only [List.length_cons, List.length_append, List.length_nil] at h
    rw [List.take_append_of_le_length (by omega), strAt_cut]
theorem lex_quote (w : Bs) (h : w.length ≤ 65536) : lex (quote w) = .ok [(0, ⟨3, w, 0, (quote w).length⟩)] := by
  have ht : tok1 (quote w) = .ok ⟨3, w, 0, (quote w).length⟩ := by
    unfold quote
    rw [tok1, if_pos (by decide)]
    unfold tokStr
    rw [strAt_quote]
    simp [h]
  unfold lex
  have e : quote w = 39 :: (w.flatMap quoteB ++ [39]) := rfl
  rw [e] at ht ⊢
  rw [lexAt_tok 0 39 _ (by decide) (by decide) _ ht]
  simp only
  rw [List.drop_length, lexAt_nil]
  rfl
end Sp
end Go.Proofs.YtbdjccmcdifjcaaGreatDoor
