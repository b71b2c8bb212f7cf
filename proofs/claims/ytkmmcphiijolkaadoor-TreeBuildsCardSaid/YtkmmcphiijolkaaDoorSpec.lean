/-
  What the tokens of a line, names, and quoted texts are, as plain functions on lists of bytes; nothing here speaks of a program.
-/
import Derived.Lib.ParseIntB
import Derived.Lib.CutLaws
namespace Go.Proofs.YtkmmcphiijolkaaDoor
namespace Sp

abbrev Bs := List UInt8

def isDig (c : UInt8) : Bool := decide (48 ≤ c.toNat) && decide (c.toNat ≤ 57)
def isLet (c : UInt8) : Bool := (decide (65 ≤ c.toNat) && decide (c.toNat ≤ 90)) || (decide (97 ≤ c.toNat) && decide (c.toNat ≤ 122)) || decide (c.toNat = 95)
def isWd (c : UInt8) : Bool := isLet c || isDig c
def wordLen : Bs → Nat
  | [] => 0
  | c :: r => if isWd c then wordLen r + 1 else 0

theorem wordLen_le : ∀ l : Bs, wordLen l ≤ l.length
  | [] => Nat.le_refl _
  | c :: r => by
    unfold wordLen
    have := wordLen_le r
    split <;> simp <;> omega

def kws : List Bs := [[78, 111, 110, 101], [84, 114, 117, 101], [70, 97, 108, 115, 101], [97, 110, 100], [111, 114], [110, 111, 116], [105, 102], [101, 108, 115, 101], [101, 108, 105, 102], [119, 104, 105, 108, 101], [102, 111, 114], [105, 110], [105, 115], [98, 114, 101, 97, 107], [99, 111, 110, 116, 105, 110, 117, 101], [112, 97, 115, 115], [100, 101, 102], [99, 108, 97, 115, 115], [114, 101, 116, 117, 114, 110], [114, 97, 105, 115, 101], [116, 114, 121], [101, 120, 99, 101, 112, 116], [97, 115], [102, 105, 110, 97, 108, 108, 121], [103, 108, 111, 98, 97, 108], [110, 111, 110, 108, 111, 99, 97, 108], [100, 101, 108], [97, 115, 115, 101, 114, 116], [121, 105, 101, 108, 100], [108, 97, 109, 98, 100, 97]]
def kw (l : Bs) : Bool := kws.contains l
def nm (l : Bs) : Bool :=
  match l with
  | [] => false
  | c :: _ => isLet c && decide (wordLen l = l.length) && !kw l

def hexLow (n : Nat) : UInt8 := UInt8.ofNat (if n < 10 then 48 + n else 87 + n)
def quoteB (c : UInt8) : Bs :=
  if c.toNat = 10 then [92, 110]
  else if c.toNat = 9 then [92, 116]
  else if c.toNat = 92 ∨ c.toNat = 39 then [92, c]
  else if c.toNat < 32 ∨ 126 < c.toNat then [92, 120, hexLow (c.toNat / 16), hexLow (c.toNat % 16)]
  else [c]
def quote (l : Bs) : Bs := 39 :: (l.flatMap quoteB ++ [39])

/-- A digit of sixteen. -/
def hexv (c : UInt8) : Option Nat :=
  if 48 ≤ c.toNat ∧ c.toNat ≤ 57 then some (c.toNat - 48)
  else if 97 ≤ c.toNat ∧ c.toNat ≤ 102 then some (c.toNat - 87)
  else if 65 ≤ c.toNat ∧ c.toNat ≤ 70 then some (c.toNat - 55)
  else none
/-- What a letter behind a backslash says. -/
def simp1 (c : UInt8) : Option UInt8 :=
  if c.toNat = 110 then some 10
  else if c.toNat = 116 then some 9
  else if c.toNat = 92 ∨ c.toNat = 39 ∨ c.toNat = 34 then some c
  else none
/-- What stands behind a backslash: the byte, and how many bytes say it. -/
def esc : Bs → Option (UInt8 × Nat)
  | [] => none
  | c :: r =>
    match simp1 c with
    | some b => some (b, 1)
    | none =>
      if c.toNat = 120 then
        match r with
        | a :: b :: _ =>
          match hexv a, hexv b with
          | some x, some y => some (UInt8.ofNat (16 * x + y), 3)
          | _, _ => none
        | _ => none
      else none

/-- The rest of a string behind its first quote q: what it says, and how many bytes it has, its last quote with them. -/
def strGo (q : UInt8) : Nat → Bs → Option (Bs × Nat)
  | 0, _ => none
  | _ + 1, [] => none
  | f + 1, c :: r =>
    if c = q then some ([], 1)
    else if c.toNat < 32 then none
    else if c.toNat = 92 then
      match esc r with
      | none => none
      | some (b, k) => (strGo q f (r.drop k)).map fun x => (b :: x.1, x.2 + k + 1)
    else (strGo q f r).map fun x => (c :: x.1, x.2 + 1)

theorem esc_len {r : Bs} {b : UInt8} {k : Nat} (h : esc r = some (b, k)) : 1 ≤ k ∧ k ≤ r.length ∧ k ≤ 3 := by
  match r, h with
  | [], h => simp [esc] at h
  | c :: r, h =>
    cases h3 : simp1 c with
    | some x =>
      unfold esc at h
      simp only [h3] at h
      cases h
      simp
    | none =>
      unfold esc at h
      simp only [h3] at h
      by_cases hx : c.toNat = 120
      · rw [if_pos hx] at h
        match r, h with
        | [], h => cases h
        | [_], h => cases h
        | x :: y :: u, h =>
          cases hx1 : hexv x with
          | none => simp [hx1] at h
          | some m =>
            cases hy1 : hexv y with
            | none => simp [hx1, hy1] at h
            | some n => simp only [hx1, hy1] at h; cases h; simp
      · rw [if_neg hx] at h; cases h

theorem strGo_more (q : UInt8) : ∀ (f g : Nat) (l : Bs), l.length ≤ f → l.length ≤ g → strGo q (f + 1) l = strGo q (g + 1) l := by
  intro f
  induction f with
  | zero =>
    intro g l h1 h2
    have : l = [] := by cases l with | nil => rfl | cons => simp at h1
    subst this
    simp [strGo]
  | succ f ih =>
    intro g l h1 h2
    cases l with
    | nil => simp [strGo]
    | cons c r =>
      obtain ⟨g, rfl⟩ : ∃ g', g = g' + 1 := ⟨g - 1, by simp at h2; omega⟩
      simp only [List.length_cons] at h1 h2
      rw [strGo, strGo]
      split
      · rfl
      · split
        · rfl
        · split
          · split
            · rfl
            · rename_i b k he
              rw [ih g (r.drop k) (by simp; omega) (by simp; omega)]
          · rw [ih g r (by omega) (by omega)]

/-- A string behind its first quote. -/
def strAt (q : UInt8) (l : Bs) : Option (Bs × Nat) := strGo q (l.length + 1) l

theorem strAt_eq (q : UInt8) (f : Nat) (l : Bs) (h : l.length ≤ f) : strGo q (f + 1) l = strAt q l := strGo_more q f l.length l h (Nat.le_refl _)

theorem strAt_nil (q : UInt8) : strAt q [] = none := rfl
theorem strAt_cons (q c : UInt8) (r : Bs) : strAt q (c :: r) =
    if c = q then some ([], 1)
    else if c.toNat < 32 then none
    else if c.toNat = 92 then
      match esc r with
      | none => none
      | some (b, k) => (strAt q (r.drop k)).map fun x => (b :: x.1, x.2 + k + 1)
    else (strAt q r).map fun x => (c :: x.1, x.2 + 1) := by
  show strGo q (r.length + 1 + 1) (c :: r) = _
  rw [strGo]
  split
  · rfl
  · split
    · rfl
    · split
      · split
        · rfl
        · rename_i b k he
          rw [strAt_eq q r.length (r.drop k) (by simp)]
      · rfl

theorem strAt_len (q : UInt8) : ∀ (f : Nat) (l t : Bs) (n : Nat), l.length ≤ f → strAt q l = some (t, n) → 1 ≤ n ∧ n ≤ l.length ∧ t.length + 1 ≤ n := by
  intro f
  induction f with
  | zero =>
    intro l t n hl h
    have : l = [] := by cases l with | nil => rfl | cons => simp at hl
    subst this
    simp [strAt_nil] at h
  | succ f ih =>
    intro l t n hl h
    cases l with
    | nil => simp [strAt_nil] at h
    | cons c r =>
      simp only [List.length_cons] at hl
      rw [strAt_cons] at h
      split at h
      · cases h; simp
      · split at h
        · simp at h
        · split at h
          · split at h
            · simp at h
            · rename_i b k he
              have hk := esc_len he
              rw [Option.map_eq_some_iff] at h
              obtain ⟨⟨t', n'⟩, h1, h2⟩ := h
              cases h2
              have := ih (r.drop k) t' n' (by simp; omega) h1
              simp only [List.length_drop] at this
              simp
              omega
          · rw [Option.map_eq_some_iff] at h
            obtain ⟨⟨t', n'⟩, h1, h2⟩ := h
            cases h2
            have := ih r t' n' (by omega) h1
            simp
            omega

/-- How many bytes a string has behind its first quote q, its escapes unread; 'e': a backslash stands ahead. -/
def sizeGo (q : UInt8) : Bool → Bs → Option Nat
  | _, [] => none
  | e, c :: r =>
    if c.toNat < 32 then none
    else if e then (sizeGo q false r).map (· + 1)
    else if c.toNat = 92 then (sizeGo q true r).map (· + 1)
    else if c = q then some 1
    else (sizeGo q false r).map (· + 1)

theorem sizeGo_len (q : UInt8) : ∀ (l : Bs) (e : Bool) (n : Nat), sizeGo q e l = some n → 1 ≤ n ∧ n ≤ l.length := by
  intro l
  induction l with
  | nil => intro e n h; simp [sizeGo] at h
  | cons c r ih =>
    intro e n h
    rw [sizeGo] at h
    have fin : ∀ e', (sizeGo q e' r).map (· + 1) = some n → 1 ≤ n ∧ n ≤ (c :: r).length := by
      intro e' h
      rw [Option.map_eq_some_iff] at h
      obtain ⟨m, h1, rfl⟩ := h
      have := ih e' m h1
      simp
      omega
    split at h
    · simp at h
    · split at h
      · exact fin _ h
      · split at h
        · exact fin _ h
        · split at h
          · cases h; simp
          · exact fin _ h

/-- What stands between the quotes, with each escape as the byte that it says. -/
def unescGo : Nat → Bs → Option Bs
  | 0, _ => none
  | _ + 1, [] => some []
  | f + 1, c :: r =>
    if c.toNat = 92 then
      match esc r with
      | none => none
      | some (b, k) => (unescGo f (r.drop k)).map (b :: ·)
    else (unescGo f r).map (c :: ·)
theorem unescGo_more : ∀ (f g : Nat) (l : Bs), l.length ≤ f → l.length ≤ g → unescGo (f + 1) l = unescGo (g + 1) l := by
  intro f
  induction f with
  | zero =>
    intro g l h1 h2
    have : l = [] := by cases l with | nil => rfl | cons => simp at h1
    subst this
    simp [unescGo]
  | succ f ih =>
    intro g l h1 h2
    cases l with
    | nil => simp [unescGo]
    | cons c r =>
      obtain ⟨g, rfl⟩ : ∃ g', g = g' + 1 := ⟨g - 1, by simp at h2; omega⟩
      simp only [List.length_cons] at h1 h2
      rw [unescGo, unescGo]
      split
      · split
        · rfl
        · rename_i b k he
          rw [ih g (r.drop k) (by simp; omega) (by simp; omega)]
      · rw [ih g r (by omega) (by omega)]
def unesc (l : Bs) : Option Bs := unescGo (l.length + 1) l
theorem unesc_eq (f : Nat) (l : Bs) (h : l.length ≤ f) : unescGo (f + 1) l = unesc l := unescGo_more f l.length l h (Nat.le_refl _)
theorem unesc_nil : unesc [] = some [] := rfl
theorem unesc_cons (c : UInt8) (r : Bs) : unesc (c :: r) =
    if c.toNat = 92 then
      match esc r with
      | none => none
      | some (b, k) => (unesc (r.drop k)).map (b :: ·)
    else (unesc r).map (c :: ·) := by
  show unescGo (r.length + 1 + 1) (c :: r) = _
  rw [unescGo]
  split
  · split
    · rfl
    · rename_i b k he
      rw [unesc_eq r.length (r.drop k) (by simp)]
  · rfl

theorem hexv_range {a : UInt8} {x : Nat} (h : hexv a = some x) : 48 ≤ a.toNat ∧ a.toNat ≠ 92 ∧ x < 16 := by
  unfold hexv at h
  split at h
  · cases h; omega
  · split at h
    · cases h; omega
    · split at h
      · cases h; omega
      · simp at h

/-- The two ways to read a string say the same. -/
theorem two_ways (q : UInt8) (hq : q.toNat = 39 ∨ q.toNat = 34) : ∀ (f : Nat) (r : Bs), r.length ≤ f →
    strAt q r = (sizeGo q false r).bind fun n => (unesc (r.take (n - 1))).map fun t => (t, n) := by
  intro f
  induction f with
  | zero =>
    intro r hl
    have : r = [] := by cases r with | nil => rfl | cons => simp at hl
    subst this
    rfl
  | succ f ih =>
    intro r hl
    cases r with
    | nil => rfl
    | cons c r =>
      simp only [List.length_cons] at hl
      rw [strAt_cons, sizeGo]
      by_cases hc : c = q
      · subst hc
        have h1 : ¬ c.toNat < 32 := by omega
        have h2 : ¬ c.toNat = 92 := by omega
        simp [h1, h2, unesc_nil]
      · rw [if_neg hc]
        by_cases h1 : c.toNat < 32
        · simp [h1]
        · rw [if_neg h1, if_neg h1]
          have fin : ∀ (u : Bs) (b : UInt8) (k : Nat) (p : Bs), (∀ n, 1 ≤ n → unesc (p ++ u.take (n - 1)) = (unesc (u.take (n - 1))).map (b :: ·)) → u.length ≤ f →
              ((strAt q u).map fun x => (b :: x.1, x.2 + k)) = ((sizeGo q false u).map (· + k)).bind fun n => (unesc (p ++ u.take (n - k - 1))).map fun t => (t, n) := by
            intro u b k p hp hu
            rw [ih u hu]
            cases hs : sizeGo q false u with
            | none => rfl
            | some n =>
              have hn := sizeGo_len q u false n hs
              simp only [Option.bind_some, Option.map_some, Nat.add_sub_cancel]
              rw [hp n hn.1]
              cases unesc (u.take (n - 1)) <;> rfl
          by_cases h2 : c.toNat = 92
          · rw [if_pos h2, if_neg (by simp), if_pos h2]
            cases r with
            | nil => simp [esc, sizeGo]
            | cons e r1 =>
              rw [sizeGo]
              simp only [List.length_cons] at hl
              by_cases he : e.toNat < 32
              · have h3 : simp1 e = none := by unfold simp1; rw [if_neg (by omega), if_neg (by omega), if_neg (by omega)]
                have h4 : esc (e :: r1) = none := by unfold esc; simp only [h3]; rw [if_neg (by omega)]
                rw [h4, if_pos he]
                rfl
              · rw [if_neg he, if_pos rfl]
                cases h3 : simp1 e with
                | some b =>
                  have h4 : esc (e :: r1) = some (b, 1) := by unfold esc; simp only [h3]
                  rw [h4]
                  simp only [List.drop_succ_cons, List.drop_zero]
                  rw [fin r1 b 2 [c, e] ?_ (by omega)]
                  · cases hs : sizeGo q false r1 with
                    | none => rfl
                    | some n =>
                      have hn := sizeGo_len q r1 false n hs
                      simp only [Option.map_some, Option.bind_some]
                      rw [show n + 1 + 1 - 1 = (n - 1) + 2 by omega, show n + 2 - 2 - 1 = n - 1 by omega]
                      rfl
                  · intro n hn
                    show unesc (c :: e :: r1.take (n - 1)) = _
                    have h5 : esc (e :: r1.take (n - 1)) = some (b, 1) := by unfold esc; simp only [h3]
                    rw [unesc_cons, if_pos h2, h5]
                    rfl
                | none =>
                  by_cases hx : e.toNat = 120
                  · match r1, hl with
                    | [], _ =>
                      have h4 : esc [e] = none := by unfold esc; simp only [h3]; rw [if_pos hx]
                      rw [h4]; rfl
                    | [a], _ =>
                      have h4 : esc [e, a] = none := by unfold esc; simp only [h3]; rw [if_pos hx]
                      rw [h4]
                      cases hs : sizeGo q false [a] with
                      | none => rfl
                      | some n =>
                        have hn := sizeGo_len q [a] false n hs
                        simp only [List.length_cons, List.length_nil] at hn
                        obtain rfl : n = 1 := by omega
                        have h5 : esc [e] = none := by unfold esc; simp only [h3]; rw [if_pos hx]
                        simp [unesc_cons, h2, h5]
                    | a :: b :: r2, hl =>
                      simp only [List.length_cons] at hl
                      cases ha : hexv a with
                      | none =>
                        have h4 : ∀ u, esc (e :: a :: u) = none := by
                          intro u; unfold esc; simp only [h3]; rw [if_pos hx]
                          cases u with
                          | nil => rfl
                          | cons b u => simp [ha]
                        rw [h4]
                        cases hs : sizeGo q false (a :: b :: r2) with
                        | none => rfl
                        | some n =>
                          have hn := sizeGo_len q _ false n hs
                          simp only [Option.map_some, Option.bind_some]
                          obtain ⟨n, rfl⟩ : ∃ m, n = m + 1 := ⟨n - 1, by omega⟩
                          simp only [Nat.add_sub_cancel, List.take_succ_cons]
                          cases n with
                          | zero =>
                            have h5 : esc [e] = none := by unfold esc; simp only [h3]; rw [if_pos hx]
                            simp [unesc_cons, h2, h5]
                          | succ n => simp [unesc_cons, h2, h4]
                      | some x =>
                        cases hb : hexv b with
                        | none =>
                          have h4 : ∀ u, esc (e :: a :: b :: u) = none := by
                            intro u; unfold esc; simp only [h3]; rw [if_pos hx]; simp [ha, hb]
                          rw [h4]
                          cases hs : sizeGo q false (a :: b :: r2) with
                          | none => rfl
                          | some n =>
                            have hn := sizeGo_len q _ false n hs
                            simp only [Option.map_some, Option.bind_some]
                            obtain ⟨n, rfl⟩ : ∃ m, n = m + 1 := ⟨n - 1, by omega⟩
                            simp only [Nat.add_sub_cancel, List.take_succ_cons]
                            cases n with
                            | zero =>
                              have h5 : esc [e] = none := by unfold esc; simp only [h3]; rw [if_pos hx]
                              simp [unesc_cons, h2, h5]
                            | succ n =>
                              cases n with
                              | zero =>
                                have h5 : esc [e, a] = none := by unfold esc; simp only [h3]; rw [if_pos hx]
                                simp [unesc_cons, h2, h5]
                              | succ n => simp [unesc_cons, h2, h4]
                        | some y =>
                          have h4 : ∀ u, esc (e :: a :: b :: u) = some (UInt8.ofNat (16 * x + y), 3) := by
                            intro u; unfold esc; simp only [h3]; rw [if_pos hx]; simp [ha, hb]
                          have hha := hexv_range ha
                          have hhb := hexv_range hb
                          have na : ¬ a = q := fun h => by rw [h] at hha; omega
                          have nb : ¬ b = q := fun h => by rw [h] at hhb; omega
                          have hs2 : sizeGo q false (a :: b :: r2) = (sizeGo q false r2).map (· + 2) := by
                            rw [sizeGo, sizeGo]
                            simp only [na, nb, hha.2.1, hhb.2.1, if_false, Bool.false_eq_true]
                            rw [if_neg (by omega), if_neg (by omega)]
                            cases sizeGo q false r2 <;> rfl
                          rw [h4, hs2]
                          simp only [List.drop_succ_cons, List.drop_zero]
                          rw [fin r2 (UInt8.ofNat (16 * x + y)) 4 [c, e, a, b] ?_ (by omega)]
                          · cases hs : sizeGo q false r2 with
                            | none => rfl
                            | some n =>
                              have hn := sizeGo_len q r2 false n hs
                              simp only [Option.map_some, Option.bind_some]
                              rw [show n + 2 + 1 + 1 - 1 = (n - 1) + 4 by omega, show n + 4 - 4 - 1 = n - 1 by omega]
                              rfl
                          · intro n hn
                            show unesc (c :: e :: a :: b :: r2.take (n - 1)) = _
                            rw [unesc_cons, if_pos h2, h4]
                            rfl
                  · have h4 : ∀ u, esc (e :: u) = none := by intro u; unfold esc; simp only [h3]; rw [if_neg hx]
                    rw [h4]
                    cases hs : sizeGo q false r1 with
                    | none => rfl
                    | some n =>
                      have hn := sizeGo_len q r1 false n hs
                      simp only [Option.map_some, Option.bind_some]
                      rw [show n + 1 + 1 - 1 = (n - 1) + 2 by omega]
                      simp only [List.take_succ_cons]
                      simp [unesc_cons, h2, h4]
          · rw [if_neg h2, if_neg (by simp), if_neg h2, if_neg hc]
            rw [fin r c 1 [c] ?_ (by omega)]
            · cases hs : sizeGo q false r with
              | none => rfl
              | some n =>
                have hn := sizeGo_len q r false n hs
                simp only [Option.map_some, Option.bind_some]
                rw [show n + 1 - 1 - 1 = n - 1 by omega, show n + 1 - 1 = (n - 1) + 1 by omega]
                rfl
            · intro n hn
              show unesc (c :: r.take (n - 1)) = _
              rw [unesc_cons, if_neg h2]
end Sp
end Go.Proofs.YtkmmcphiijolkaaDoor
