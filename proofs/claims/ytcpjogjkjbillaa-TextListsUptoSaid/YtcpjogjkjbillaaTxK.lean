/-
  The longest beginning of a text with which another one ends; the places of a text in another one, told from the front on, byte by byte; plain: nothing here speaks of a program.
-/
import Derived.Test.YtcpjogjkjbillaaTxT
set_option linter.unusedVariables false
namespace Go.Proofs.Ytcpjogjkjbillaa
namespace Tx

theorem suf_snoc {l T : Bs} {x b : UInt8} : l ++ [x] <:+ T ++ [b] ↔ x = b ∧ l <:+ T := by
  constructor
  · rintro ⟨t, ht⟩
    rw [← List.append_assoc] at ht
    obtain ⟨h1, h2⟩ := List.append_inj' ht rfl
    injection h2 with h2
    exact ⟨h2, t, h1⟩
  · rintro ⟨rfl, t, rfl⟩
    exact ⟨t, by rw [List.append_assoc]⟩
theorem take_snoc {P : Bs} {k : Nat} {b : UInt8} (h : P[k]? = some b) : P.take (k + 1) = P.take k ++ [b] := by
  rw [List.take_add_one, h]; rfl
/-- The longest beginning of P, of at most k bytes, with which T ends. -/
def lngTo (P T : Bs) : Nat → Nat
  | 0 => 0
  | k + 1 => if (P.take (k + 1)).isSuffixOf T then k + 1 else lngTo P T k
def lng (P T : Bs) : Nat := lngTo P T P.length
theorem lngTo_le (P T : Bs) : ∀ k, lngTo P T k ≤ k
  | 0 => Nat.le_refl _
  | k + 1 => by
    rw [lngTo]
    split
    · exact Nat.le_refl _
    · exact Nat.le_succ_of_le (lngTo_le P T k)
theorem lngTo_suf (P T : Bs) : ∀ k, P.take (lngTo P T k) <:+ T
  | 0 => by rw [lngTo, List.take_zero]; exact List.nil_suffix
  | k + 1 => by
    rw [lngTo]
    split
    · rename_i h; exact List.isSuffixOf_iff_suffix.1 h
    · exact lngTo_suf P T k
theorem lngTo_max {P T : Bs} : ∀ {k j : Nat}, j ≤ k → P.take j <:+ T → j ≤ lngTo P T k
  | 0, j, h, _ => h
  | k + 1, j, h, hs => by
    rw [lngTo]
    split
    · exact h
    · rename_i hn
      rcases Nat.lt_or_ge k j with g | g
      · rw [show j = k + 1 by omega] at hs
        exact absurd (List.isSuffixOf_iff_suffix.2 hs) hn
      · exact lngTo_max g hs
theorem lng_le (P T : Bs) : lng P T ≤ P.length := lngTo_le _ _ _
theorem lng_suf (P T : Bs) : P.take (lng P T) <:+ T := lngTo_suf _ _ _
theorem lng_max {P T : Bs} {j : Nat} (h : j ≤ P.length) (hs : P.take j <:+ T) : j ≤ lng P T := lngTo_max h hs
theorem lng_len (P T : Bs) : lng P T ≤ T.length := by
  have h := (lng_suf P T).length_le
  rw [List.length_take] at h
  have := lng_le P T
  omega
theorem lng_eq {P T : Bs} {h : Nat} (hh : h ≤ P.length) (hs : P.take h <:+ T) (hm : ∀ j, j ≤ P.length → P.take j <:+ T → j ≤ h) : lng P T = h :=
  Nat.le_antisymm (hm _ (lng_le P T) (lng_suf P T)) (lng_max hh hs)
theorem lng_nil (P : Bs) : lng P [] = 0 := Nat.le_zero.1 (lng_len P [])
/-- What may go on at byte b. -/
def Cand (P T : Bs) (b : UInt8) (h : Nat) : Prop := ∀ k, k < P.length → P.take k <:+ T → P[k]? = some b → k ≤ h
theorem cand_first (P T : Bs) (b : UInt8) : Cand P T b (lng P T) := fun k hk hs _ => lng_max (Nat.le_of_lt hk) hs
theorem cut_last {P T : Bs} {b : UInt8} {j : Nat} (hj : j + 1 ≤ P.length) (hs : P.take (j + 1) <:+ T ++ [b]) : P[j]? = some b ∧ P.take j <:+ T := by
  have hx := List.getElem?_eq_getElem (l := P) (i := j) (by omega)
  rw [take_snoc hx, suf_snoc] at hs
  rw [hx, hs.1]
  exact ⟨rfl, hs.2⟩
theorem lng_hit {P T : Bs} {b : UInt8} {h : Nat} (hh : h < P.length) (hs : P.take h <:+ T) (hm : Cand P T b h) (hb : P[h]? = some b) : lng P (T ++ [b]) = h + 1 := by
  refine lng_eq hh ?_ fun j hj hsj => ?_
  · rw [take_snoc hb, suf_snoc]; exact ⟨rfl, hs⟩
  · cases j with
    | zero => omega
    | succ j =>
      obtain ⟨h1, h2⟩ := cut_last hj hsj
      have := hm j (by omega) h2 h1
      omega
theorem lng_miss {P T : Bs} {b : UInt8} (hm : Cand P T b 0) (hb : P[0]? ≠ some b) : lng P (T ++ [b]) = 0 := by
  refine lng_eq (Nat.zero_le _) (by rw [List.take_zero]; exact List.nil_suffix) fun j hj hsj => ?_
  cases j with
  | zero => exact Nat.le_refl _
  | succ j =>
    obtain ⟨h1, h2⟩ := cut_last hj hsj
    have := hm j (by omega) h2 h1
    rw [show j = 0 by omega] at h1
    exact absurd h1 hb
/-- Of the beginning of j + 1 bytes: how many bytes the longest lesser beginning has with which it ends. -/
def bord (P : Bs) (j : Nat) : Nat := lng P ((P.take (j + 1)).drop 1)
theorem bord_le (P : Bs) (j : Nat) : bord P j ≤ j := by
  have := lng_len P ((P.take (j + 1)).drop 1)
  rw [List.length_drop, List.length_take] at this
  unfold bord
  omega
theorem back_step {P T : Bs} {b : UInt8} {h : Nat} (hh : h + 1 < P.length) (hs : P.take (h + 1) <:+ T) (hm : Cand P T b (h + 1)) (hb : P[h + 1]? ≠ some b) :
    P.take (bord P h) <:+ T ∧ Cand P T b (bord P h) := by
  have hd : (P.take (h + 1)).drop 1 <:+ P.take (h + 1) := List.drop_suffix _ _
  refine ⟨((lng_suf P _).trans hd).trans hs, fun k hk hks hkb => ?_⟩
  have h1 := hm k hk hks hkb
  have h2 : k ≠ h + 1 := fun e => hb (e ▸ hkb)
  refine lng_max (by omega) (List.suffix_of_suffix_length_le hks (hd.trans hs) ?_)
  rw [List.length_take, List.length_drop, List.length_take]
  omega
theorem bord_next {P : Bs} {i : Nat} {b : UInt8} (h0 : 0 < i) (hb : P[i]? = some b) : (P.take i).drop 1 ++ [b] = (P.take (i + 1)).drop 1 := by
  have hi := (List.getElem?_eq_some_iff.1 hb).1
  rw [take_snoc hb, List.drop_append_of_le_length]
  rw [List.length_take]
  omega

/-- The places of P in what follows, T being what came since the last one ended. -/
def scan (P : Bs) : Bs → Nat → Bs → List Nat
  | _, _, [] => []
  | T, i, b :: r => if lng P (T ++ [b]) = P.length then (i + 1 - P.length) :: scan P [] (i + 1) r else scan P (T ++ [b]) (i + 1) r
theorem full_iff {P T : Bs} : lng P T = P.length ↔ P <:+ T := by
  constructor
  · intro h
    have := lng_suf P T
    rw [h, List.take_length] at this
    exact this
  · intro h
    refine lng_eq (Nat.le_refl _) (by rw [List.take_length]; exact h) fun j hj _ => hj
theorem pre_suf {P T r : Bs} {j : Nat} (hj : j + P.length = T.length) : pre P ((T ++ r).drop j) = true ↔ P <:+ T := by
  have hd : (T ++ r).drop j = T.drop j ++ r := List.drop_append_of_le_length (by omega)
  have hl : (T.drop j).length = P.length := by rw [List.length_drop]; omega
  rw [pre_iff, hd, ← hl, List.take_left]
  constructor
  · intro h; rw [← h]; exact List.drop_suffix _ _
  · intro h
    have := List.suffix_of_suffix_length_le (List.drop_suffix j T) h (by omega)
    exact this.eq_of_length hl
theorem scan_find {P : Bs} (hP : P ≠ []) : ∀ (r T : Bs) (f : Nat), (∀ j, j + P.length ≤ T.length → pre P ((T ++ r).drop j) = false) →
    scan P T (f + T.length) r = match find P (T ++ r) with
      | some k => (f + k) :: scan P [] (f + k + P.length) ((T ++ r).drop (k + P.length))
      | none => []
  | [], T, f, hn => by
    have hf : find P (T ++ []) = none := find_none_of fun j hj => by
      cases e : pre P ((T ++ []).drop j) with
      | false => rfl
      | true =>
        have h1 := pre_length e
        have hl : 0 < P.length := List.length_pos_iff.2 hP
        rw [List.append_nil, List.length_drop] at h1
        rw [hn j (by omega)] at e
        cases e
    rw [hf]
    rfl
  | b :: r, T, f, hn => by
    have hl : 0 < P.length := List.length_pos_iff.2 hP
    have hR : T ++ b :: r = (T ++ [b]) ++ r := by rw [List.append_assoc]; rfl
    have hTl : (T ++ [b]).length = T.length + 1 := by rw [List.length_append]; rfl
    rw [scan]
    by_cases hfull : lng P (T ++ [b]) = P.length
    · rw [if_pos hfull]
      have hs := full_iff.1 hfull
      have hle := hs.length_le
      rw [hTl] at hle
      have hk : (T.length + 1 - P.length) + P.length = (T ++ [b]).length := by rw [hTl]; omega
      have hp : pre P ((T ++ b :: r).drop (T.length + 1 - P.length)) = true := by rw [hR]; exact (pre_suf hk).2 hs
      rw [find_at hp (fun j hj => hn j (by omega))]
      simp only
      rw [show f + T.length + 1 - P.length = f + (T.length + 1 - P.length) by omega, show f + (T.length + 1 - P.length) + P.length = f + T.length + 1 by omega, show T.length + 1 - P.length + P.length = (T ++ [b]).length by rw [hTl]; omega, hR, List.drop_left]
    · rw [if_neg hfull]
      have := scan_find hP r (T ++ [b]) f (fun j hj => by
        rw [← hR]
        rw [hTl] at hj
        rcases Nat.lt_or_ge T.length (j + P.length) with g | g
        · cases e : pre P ((T ++ b :: r).drop j) with
          | false => rfl
          | true =>
            rw [hR] at e
            exact absurd (full_iff.2 ((pre_suf (by rw [hTl]; omega)).1 e)) hfull
        · exact hn j g)
      rw [hTl, ← hR] at this
      rw [show f + T.length + 1 = f + (T.length + 1) by omega]
      exact this
theorem scan_at {P : Bs} (hP : P ≠ []) (s : Bs) (f : Nat) : scan P [] f (s.drop f) = match find P (s.drop f) with
      | some k => (f + k) :: scan P [] (f + k + P.length) (s.drop (f + k + P.length))
      | none => [] := by
  have h := scan_find hP (s.drop f) [] f (fun j hj => by have : 0 < P.length := List.length_pos_iff.2 hP; rw [List.length_nil] at hj; omega)
  rw [List.nil_append, List.length_nil, Nat.add_zero] at h
  rw [h]
  cases find P (s.drop f) with
  | none => rfl
  | some k => simp only; rw [List.drop_drop, show f + (k + P.length) = f + k + P.length by omega]
/-- All places of P in s. -/
def plcs (P s : Bs) : List Nat := scan P [] 0 s
theorem plcs_find {P s : Bs} (hP : P ≠ []) : findI s P = match plcs P s with
    | [] => -1
    | p :: _ => (p : Int) := by
  have h := scan_at hP s 0
  rw [List.drop_zero] at h
  unfold plcs findI
  rw [h]
  cases find P s with
  | none => rfl
  | some k => simp
theorem plcs_long {P s : Bs} (hP : P ≠ []) (h : s.length < P.length) : plcs P s = [] := by
  have h1 := scan_at hP s 0
  rw [List.drop_zero] at h1
  unfold plcs
  rw [h1, find_none_of (fun j _ => by
    cases e : pre P (s.drop j) with
    | false => rfl
    | true => have := pre_length e; rw [List.length_drop] at this; omega)]
/-- The places follow one another, and lie within L bytes. -/
def Chain (n L : Nat) : Nat → List Nat → Prop
  | f, [] => f ≤ L
  | f, p :: ps => f ≤ p ∧ p + n ≤ L ∧ Chain n L (p + n) ps
theorem Chain.le {n L : Nat} : ∀ {f : Nat} {ps : List Nat}, Chain n L f ps → f ≤ L
  | _, [], h => h
  | _, _ :: _, h => by have := h.1; have := h.2.1; omega
/-- The pieces between places. -/
def cuts (s : Bs) (n : Nat) : Nat → List Nat → List Bs
  | f, [] => [s.drop f]
  | f, p :: ps => (s.drop f).take (p - f) :: cuts s n (p + n) ps
theorem pcs_find {P : Bs} (hP : P ≠ []) : ∀ (s cur : Bs), pcs P cur s = match find P s with
    | some k => (cur ++ s.take k) :: pcs P [] (s.drop (k + P.length))
    | none => [cur ++ s]
  | [], cur => by
    have : find P [] = none := find_none_of fun j _ => by
      cases e : pre P (List.drop j []) with
      | false => rfl
      | true => have := pre_length e; simp at this; exact absurd this hP
    rw [this, pcs_nil]; simp
  | c :: r, cur => by
    cases hp : pre P (c :: r) with
    | true =>
      rw [pcs_at hP _ hp, find_at (k := 0) (by rw [List.drop_zero]; exact hp) (fun j hj => by omega)]
      simp
    | false =>
      rw [pcs_not _ hp, pcs_find hP r (cur ++ [c])]
      rw [show find P (c :: r) = (find P r).map (· + 1) by rw [find, hp]; rfl]
      cases find P r with
      | none => simp
      | some k =>
        simp only [Option.map_some, List.append_assoc, List.cons_append, List.nil_append, List.take_succ_cons]
        rw [show k + 1 + P.length = (k + P.length) + 1 by omega, List.drop_succ_cons]
theorem scan_both {P : Bs} (hP : P ≠ []) (s : Bs) : ∀ (n f : Nat), s.length - f ≤ n → f ≤ s.length →
    pcs P [] (s.drop f) = cuts s P.length f (scan P [] f (s.drop f)) ∧ Chain P.length s.length f (scan P [] f (s.drop f)) := by
  have hl : 0 < P.length := List.length_pos_iff.2 hP
  intro n
  induction n with
  | zero =>
    intro f hn hf
    have hd : s.drop f = [] := List.drop_eq_nil_of_le (by omega)
    rw [hd]
    exact ⟨by rw [scan, cuts, hd, pcs_nil], by rw [scan]; exact hf⟩
  | succ n ih =>
    intro f hn hf
    rw [scan_at hP, pcs_find hP]
    cases e : find P (s.drop f) with
    | none => exact ⟨by rw [List.nil_append]; rfl, hf⟩
    | some k =>
      simp only
      obtain ⟨h1, h2, _⟩ := find_some e
      have h3 := pre_length h2
      rw [List.length_drop, List.length_drop] at h3
      obtain ⟨i1, i2⟩ := ih (f + k + P.length) (by omega) (by omega)
      refine ⟨?_, by omega, by omega, i2⟩
      rw [cuts, List.drop_drop, show f + (k + P.length) = f + k + P.length by omega, i1, List.nil_append, Nat.add_sub_cancel_left]
theorem plcs_pcs {P s : Bs} (hP : P ≠ []) : pcs P [] s = cuts s P.length 0 (plcs P s) ∧ Chain P.length s.length 0 (plcs P s) := by
  have h := scan_both hP s s.length 0 (by omega) (Nat.zero_le _)
  rw [List.drop_zero] at h
  exact h
theorem Chain.len {n L : Nat} (hn : 0 < n) : ∀ {f : Nat} {ps : List Nat}, Chain n L f ps → ps.length + f ≤ L
  | _, [], h => by simpa [Chain] using h
  | f, p :: ps, h => by
    have := Chain.len hn h.2.2
    have := h.1
    simp only [List.length_cons]
    omega
theorem plcs_len {P s : Bs} (hP : P ≠ []) : (plcs P s).length ≤ s.length := by
  have := Chain.len (List.length_pos_iff.2 hP) (plcs_pcs (s := s) hP).2
  omega
theorem cuts_len (s : Bs) (n : Nat) : ∀ (f : Nat) (ps : List Nat), (cuts s n f ps).length = ps.length + 1
  | _, [] => rfl
  | f, p :: ps => by rw [cuts, List.length_cons, cuts_len s n _ ps]; rfl
end Tx
end Go.Proofs.Ytcpjogjkjbillaa
