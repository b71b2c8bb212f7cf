/-
  Numbers without bounds as rows of digits to base 65536, plain; nothing here speaks of a program.
-/
namespace Go.Proofs.Ytaekjkihdecmcaa
namespace Nu

def B16 : Nat := 65536
/-- A digit; 0 beyond. -/
def dig (l : List Nat) (i : Nat) : Nat := (l[i]?).getD 0
/-- What the first i digits say. -/
def valTo (l : List Nat) : Nat → Nat
  | 0 => 0
  | i + 1 => valTo l i + dig l i * 65536 ^ i
def val (l : List Nat) : Nat := valTo l l.length
def Dg (l : List Nat) : Prop := ∀ d ∈ l, d < 65536
/-- No noughts ahead. -/
def Trim (l : List Nat) : Prop := ∀ h : 0 < l.length, l[l.length - 1] ≠ 0

theorem pow_pos (i : Nat) : 0 < 65536 ^ i := Nat.pow_pos (by decide)
theorem dig_lt {l : List Nat} (h : Dg l) (i : Nat) : dig l i < 65536 := by
  unfold dig
  cases e : l[i]? with
  | none => simp
  | some d => exact h d (List.mem_of_getElem? e)
theorem dig_beyond {l : List Nat} {i : Nat} (h : l.length ≤ i) : dig l i = 0 := by
  unfold dig; rw [List.getElem?_eq_none h]; rfl
theorem dig_get {l : List Nat} {i : Nat} (h : i < l.length) : dig l i = l[i] := by
  unfold dig; rw [List.getElem?_eq_getElem h]; rfl
theorem valTo_lt {l : List Nat} (h : Dg l) : ∀ i, valTo l i < 65536 ^ i
  | 0 => by simp [valTo]
  | i + 1 => by
    have h1 := valTo_lt h i
    have h2 := dig_lt h i
    have h3 : dig l i * 65536 ^ i ≤ 65535 * 65536 ^ i := Nat.mul_le_mul_right _ (by omega)
    rw [valTo, Nat.pow_succ]
    omega
theorem valTo_beyond {l : List Nat} {i : Nat} (h : l.length ≤ i) : valTo l i = val l := by
  obtain ⟨k, rfl⟩ : ∃ k, i = l.length + k := ⟨i - l.length, by omega⟩
  induction k with
  | zero => rfl
  | succ k ih =>
    rw [← Nat.add_assoc, valTo, dig_beyond (by omega), ih (by omega)]
    simp
theorem val_lt {l : List Nat} (h : Dg l) : val l < 65536 ^ l.length := valTo_lt h _
theorem valTo_congr {l m : List Nat} : ∀ {i : Nat}, (∀ j, j < i → dig l j = dig m j) → valTo l i = valTo m i
  | 0, _ => rfl
  | i + 1, h => by rw [valTo, valTo, valTo_congr (fun j hj => h j (by omega)), h i (by omega)]
theorem dig_append_left {l m : List Nat} {i : Nat} (h : i < l.length) : dig (l ++ m) i = dig l i := by
  unfold dig; rw [List.getElem?_append_left h]
theorem val_snoc (l : List Nat) (x : Nat) : val (l ++ [x]) = val l + x * 65536 ^ l.length := by
  unfold val
  rw [show (l ++ [x]).length = l.length + 1 by simp, valTo, valTo_congr (m := l) (fun j hj => dig_append_left hj)]
  congr 2
  unfold dig
  simp
theorem val_nil : val [] = 0 := rfl
theorem val_take {l : List Nat} {i : Nat} (h : i ≤ l.length) : val (l.take i) = valTo l i := by
  unfold val
  rw [List.length_take, Nat.min_eq_left h]
  refine valTo_congr fun j hj => ?_
  unfold dig
  rw [List.getElem?_take_of_lt hj]
theorem val_of_noughts {l : List Nat} {n : Nat} (hn : n ≤ l.length) (h : ∀ j, n ≤ j → j < l.length → dig l j = 0) : val (l.take n) = val l := by
  rw [val_take hn]
  unfold val
  have : ∀ k, n + k ≤ l.length → valTo l n = valTo l (n + k) := by
    intro k
    induction k with
    | zero => intro; rfl
    | succ k ih =>
      intro hk
      rw [← Nat.add_assoc, valTo, h (n + k) (by omega) (by omega), ih (by omega)]
      simp
  have := this (l.length - n) (by omega)
  rwa [show n + (l.length - n) = l.length by omega] at this
theorem val_pos {l : List Nat} (hl : 0 < l.length) (h : Trim l) : 65536 ^ (l.length - 1) ≤ val l := by
  unfold val
  have e : l.length = (l.length - 1) + 1 := by omega
  rw [e, valTo]
  have h1 := h hl
  have h2 : dig l (l.length - 1) = l[l.length - 1] := dig_get (by omega)
  rw [← h2] at h1
  have : 1 * 65536 ^ (l.length - 1) ≤ dig l (l.length - 1) * 65536 ^ (l.length - 1) := Nat.mul_le_mul_right _ (by omega)
  simp only [Nat.add_sub_cancel]
  omega
theorem val_eq_zero {l : List Nat} (h : Trim l) : val l = 0 ↔ l = [] := by
  constructor
  · intro e
    cases l with
    | nil => rfl
    | cons a r =>
      have := val_pos (l := a :: r) (by simp) h
      have := pow_pos ((a :: r).length - 1)
      omega
  · rintro rfl; rfl
theorem len_of_lt {l : List Nat} (h : Trim l) {k : Nat} (hv : val l < 65536 ^ k) : l.length ≤ k := by
  rcases Nat.eq_zero_or_pos l.length with h0 | h0
  · omega
  · have h1 := val_pos h0 h
    have h2 : 65536 ^ (l.length - 1) < 65536 ^ k := Nat.lt_of_le_of_lt h1 hv
    have := (Nat.pow_lt_pow_iff_right (by decide : 1 < 65536)).1 h2
    omega
theorem len_le_iff {l : List Nat} (hd : Dg l) (h : Trim l) (k : Nat) : l.length ≤ k ↔ val l < 65536 ^ k :=
  ⟨fun hk => Nat.lt_of_lt_of_le (val_lt hd) (Nat.pow_le_pow_right (by decide) hk), len_of_lt h⟩
/-- Rows that are alike from i on: what they say lies as far apart as what their first i digits say. -/
theorem valTo_diff {a b : List Nat} {i n : Nat} (hi : i ≤ n) (h : ∀ j, i ≤ j → j < n → dig a j = dig b j) : valTo a n + valTo b i = valTo b n + valTo a i := by
  obtain ⟨k, rfl⟩ : ∃ k, n = i + k := ⟨n - i, by omega⟩
  induction k with
  | zero => simp only [Nat.add_zero]; omega
  | succ k ih =>
    have := ih (by omega) (fun j h1 h2 => h j h1 (by omega))
    have h2 := h (i + k) (by omega) (by omega)
    rw [← Nat.add_assoc, valTo, valTo, h2]
    omega
theorem valTo_gt {a b : List Nat} (hb : Dg b) {i : Nat} (h : dig b i < dig a i) : valTo b (i + 1) < valTo a (i + 1) := by
  have h1 := valTo_lt hb i
  rw [valTo, valTo]
  have h2 : (dig b i + 1) * 65536 ^ i ≤ dig a i * 65536 ^ i := Nat.mul_le_mul_right _ (by omega)
  rw [Nat.add_mul, Nat.one_mul] at h2
  omega
theorem cmp_gt {a b : List Nat} (hb : Dg b) {i n : Nat} (hi : i < n) (ha : a.length ≤ n) (hbl : b.length ≤ n) (h : dig b i < dig a i) (he : ∀ j, i + 1 ≤ j → j < n → dig a j = dig b j) : val b < val a := by
  have h1 := valTo_diff (a := a) (b := b) (i := i + 1) (n := n) (by omega) he
  have h2 := valTo_gt hb h
  rw [valTo_beyond ha, valTo_beyond hbl] at h1
  omega
theorem cmp_eq {a b : List Nat} {n : Nat} (ha : a.length ≤ n) (hbl : b.length ≤ n) (he : ∀ j, j < n → dig a j = dig b j) : val a = val b := by
  rw [← valTo_beyond ha, ← valTo_beyond hbl]
  exact valTo_congr he

/-- The sum, digit by digit. -/
theorem plus_step {a b out : List Nat} {i carry : Nat} (hi : out.length = i) (h : val out + carry * 65536 ^ i = valTo a i + valTo b i) :
    val (out ++ [(dig a i + dig b i + carry) % 65536]) + (dig a i + dig b i + carry) / 65536 * 65536 ^ (i + 1) = valTo a (i + 1) + valTo b (i + 1) := by
  rw [val_snoc, hi, valTo, valTo]
  have e := Nat.div_add_mod (dig a i + dig b i + carry) 65536
  generalize (dig a i + dig b i + carry) / 65536 = q at *
  generalize (dig a i + dig b i + carry) % 65536 = r at *
  rw [Nat.pow_succ]
  have e2 : (65536 * q + r) * 65536 ^ i = (dig a i + dig b i + carry) * 65536 ^ i := by rw [e]
  grind
theorem plus_end {a b out : List Nat} (ha : Dg a) (hb : Dg b) {n carry : Nat} (hn : n = max a.length b.length + 1) (h : val out + carry * 65536 ^ n = valTo a n + valTo b n) : val out = val a + val b := by
  rw [valTo_beyond (by omega), valTo_beyond (by omega)] at h
  have h1 : val a < 65536 ^ (n - 1) := by rw [← valTo_beyond (i := n - 1) (by omega)]; exact valTo_lt ha _
  have h2 : val b < 65536 ^ (n - 1) := by rw [← valTo_beyond (i := n - 1) (by omega)]; exact valTo_lt hb _
  have h3 : 65536 ^ n = 65536 ^ (n - 1) * 65536 := by rw [← Nat.pow_succ]; congr 1; omega
  rcases Nat.eq_zero_or_pos carry with rfl | hc
  · omega
  · have : 1 * 65536 ^ n ≤ carry * 65536 ^ n := Nat.mul_le_mul_right _ hc
    omega
/-- The difference, digit by digit. -/
theorem less_step {a b out : List Nat} {i lent lent' d : Nat} (hi : out.length = i) (h : val out + valTo b i = valTo a i + lent * 65536 ^ i) (hd : d + dig b i + lent = dig a i + lent' * 65536) :
    val (out ++ [d]) + valTo b (i + 1) = valTo a (i + 1) + lent' * 65536 ^ (i + 1) := by
  rw [val_snoc, hi, valTo, valTo, Nat.pow_succ]
  have e2 : (d + dig b i + lent) * 65536 ^ i = (dig a i + lent' * 65536) * 65536 ^ i := by rw [hd]
  grind
theorem less_end {a b out : List Nat} (ho : Dg out) (hab : val b ≤ val a) (hda : Dg a) (htb : Trim b) {lent : Nat} (hl : out.length = a.length) (h : val out + valTo b a.length = valTo a a.length + lent * 65536 ^ a.length) : val out + val b = val a := by
  have h0 : val a < 65536 ^ a.length := val_lt hda
  have h1 : b.length ≤ a.length := len_of_lt htb (by omega)
  rw [valTo_beyond h1] at h
  have h2 := val_lt ho
  rw [hl] at h2
  rw [show valTo a a.length = val a from rfl] at h
  rcases Nat.eq_zero_or_pos lent with rfl | hc
  · omega
  · have : 1 * 65536 ^ a.length ≤ lent * 65536 ^ a.length := Nat.mul_le_mul_right _ hc
    omega
/-- A digit is set anew. -/
theorem valTo_set {l : List Nat} {j x : Nat} (hj : j < l.length) : ∀ n, valTo (l.set j x) n + (if j < n then dig l j * 65536 ^ j else 0) = valTo l n + (if j < n then x * 65536 ^ j else 0)
  | 0 => rfl
  | n + 1 => by
    have ih := valTo_set (x := x) hj n
    rw [valTo, valTo]
    by_cases e : j = n
    · subst e
      simp only [Nat.lt_irrefl, if_false, Nat.lt_succ_self, if_true] at ih ⊢
      have : dig (l.set j x) j = x := by unfold dig; simp [hj]
      rw [this]
      omega
    · have : dig (l.set j x) n = dig l n := by unfold dig; rw [List.getElem?_set_ne e]
      rw [this]
      by_cases h : j < n
      · simp only [h, show j < n + 1 by omega, if_true] at ih ⊢; omega
      · simp only [h, show ¬ j < n + 1 by omega, if_false] at ih ⊢; omega
theorem val_set {l : List Nat} {j x : Nat} (hj : j < l.length) : val (l.set j x) + dig l j * 65536 ^ j = val l + x * 65536 ^ j := by
  have := valTo_set (x := x) hj l.length
  simp only [hj, if_true] at this
  unfold val
  rwa [List.length_set]
theorem dg_set {l : List Nat} (h : Dg l) {j x : Nat} (hx : x < 65536) : Dg (l.set j x) := by
  intro d hd
  rcases List.mem_or_eq_of_mem_set hd with h1 | h1
  · exact h d h1
  · omega
theorem dg_snoc {l : List Nat} (h : Dg l) {x : Nat} (hx : x < 65536) : Dg (l ++ [x]) := by
  intro d hd
  rcases List.mem_append.1 hd with h1 | h1
  · exact h d h1
  · simp at h1; omega
theorem dg_take {l : List Nat} (h : Dg l) (n : Nat) : Dg (l.take n) := fun d hd => h d (List.mem_of_mem_take hd)
theorem dg_zeros (n : Nat) : Dg (List.replicate n 0) := by
  intro d hd
  have := List.eq_of_mem_replicate hd
  omega
theorem val_zeros (n : Nat) : val (List.replicate n 0) = 0 := by
  have := val_of_noughts (l := List.replicate n 0) (n := 0) (Nat.zero_le _) (fun j _ hj => by
    rw [dig_get hj]; simp)
  rw [← this]; rfl
/-- The product: a digit of the one by a digit of the other. -/
theorem mul_step {a b out : List Nat} {i k carry X : Nat} (hj : i + k < out.length) (hx : X = dig out (i + k) + dig a i * dig b k + carry)
    (h : val out + carry * 65536 ^ (i + k) = valTo a i * val b + dig a i * valTo b k * 65536 ^ i) :
    val (out.set (i + k) (X % 65536)) + X / 65536 * 65536 ^ (i + (k + 1)) = valTo a i * val b + dig a i * valTo b (k + 1) * 65536 ^ i := by
  have hs := val_set (x := X % 65536) hj
  have e := Nat.div_add_mod X 65536
  rw [valTo]
  generalize X / 65536 = q at *
  generalize X % 65536 = r at *
  rw [← Nat.add_assoc, Nat.pow_succ]
  have e2 : (65536 * q + r) * 65536 ^ (i + k) = (dig out (i + k) + dig a i * dig b k + carry) * 65536 ^ (i + k) := by rw [e, hx]
  have e3 : (65536 : Nat) ^ (i + k) = 65536 ^ i * 65536 ^ k := Nat.pow_add _ _ _
  grind
theorem mul_row {a b out : List Nat} {i k : Nat} (hk : b.length ≤ k) (h : val out + 0 * 65536 ^ (i + k) = valTo a i * val b + dig a i * valTo b k * 65536 ^ i) : val out = valTo a (i + 1) * val b := by
  rw [valTo_beyond hk] at h
  rw [valTo]
  grind
theorem mul_fits {a b out : List Nat} (ha : Dg a) (hb : Dg b) {i k carry : Nat} (hc : 0 < carry) (hk : b.length ≤ k) (h : val out + carry * 65536 ^ (i + k) = valTo a i * val b + dig a i * valTo b k * 65536 ^ i) : k ≤ b.length := by
  rw [valTo_beyond hk] at h
  have h1 : valTo a i * val b + dig a i * val b * 65536 ^ i = valTo a (i + 1) * val b := by rw [valTo]; grind
  rw [h1] at h
  have h2 := valTo_lt ha (i + 1)
  have h3 := val_lt hb
  have h4 : valTo a (i + 1) * val b ≤ 65536 ^ (i + 1) * val b := Nat.mul_le_mul_right _ (by omega)
  have h5 : 65536 ^ (i + 1) * val b < 65536 ^ (i + 1) * 65536 ^ b.length := Nat.mul_lt_mul_of_pos_left h3 (pow_pos _)
  rw [← Nat.pow_add] at h5
  have h6 : 1 * 65536 ^ (i + k) ≤ carry * 65536 ^ (i + k) := Nat.mul_le_mul_right _ hc
  have h7 : 65536 ^ (i + k) < 65536 ^ (i + 1 + b.length) := by omega
  have := (Nat.pow_lt_pow_iff_right (by decide : 1 < 65536)).1 h7
  omega
/-- Noughts ahead are taken off. -/
def trim (l : List Nat) : Nat → Nat
  | 0 => 0
  | n + 1 => if dig l n = 0 then trim l n else n + 1
theorem trim_le (l : List Nat) : ∀ n, trim l n ≤ n
  | 0 => Nat.le_refl _
  | n + 1 => by unfold trim; have := trim_le l n; split <;> omega
theorem trim_noughts (l : List Nat) : ∀ n j, trim l n ≤ j → j < n → dig l j = 0
  | 0, j, _, h => by omega
  | n + 1, j, h1, h2 => by
    unfold trim at h1
    split at h1
    · rename_i e
      rcases Nat.lt_or_ge j n with h | h
      · exact trim_noughts l n j h1 h
      · rw [show j = n by omega]; exact e
    · omega
theorem trim_top (l : List Nat) : ∀ n, 0 < trim l n → dig l (trim l n - 1) ≠ 0
  | 0, h => by simp [trim] at h
  | n + 1, h => by
    unfold trim at h ⊢
    split
    · rename_i e; rw [if_pos e] at h; exact trim_top l n h
    · rename_i e; simpa using e
def trimmed (l : List Nat) : List Nat := l.take (trim l l.length)
theorem trimmed_val (l : List Nat) : val (trimmed l) = val l := val_of_noughts (trim_le _ _) (trim_noughts l _)
theorem trimmed_dg {l : List Nat} (h : Dg l) : Dg (trimmed l) := dg_take h _
theorem trimmed_length (l : List Nat) : (trimmed l).length = trim l l.length := by
  unfold trimmed; rw [List.length_take]; have := trim_le l l.length; omega
theorem trimmed_trim (l : List Nat) : Trim (trimmed l) := by
  intro h
  have hl := trimmed_length l
  have h1 := trim_top l l.length (by omega)
  have h2 := trim_le l l.length
  rw [dig_get (by omega)] at h1
  unfold trimmed
  rw [List.getElem_take]
  simp only [← hl] at h1
  exact h1

/-- The int that a sign and digits say. -/
def sgn (below : Bool) (n : Nat) : Int := if below then -(n : Int) else (n : Int)
/-- A row of digits and a sign say an int, in the one way. -/
def Says (below : Bool) (l : List Nat) (z : Int) : Prop := Dg l ∧ Trim l ∧ z = sgn below (val l) ∧ (below = true → l ≠ [])
theorem Says.abs {s : Bool} {l : List Nat} {z : Int} (h : Says s l z) : val l = z.natAbs := by
  obtain ⟨_, _, rfl, _⟩ := h
  unfold sgn
  split <;> omega
theorem Says.sign {s : Bool} {l : List Nat} {z : Int} (h : Says s l z) : s = decide (z < 0) := by
  obtain ⟨h1, h2, rfl, h3⟩ := h
  unfold sgn
  cases s with
  | false => simp only [Bool.false_eq_true, if_false]; symm; apply decide_eq_false; omega
  | true =>
    have : val l ≠ 0 := fun e => h3 rfl ((val_eq_zero h2).1 e)
    simp only [if_true]; symm; apply decide_eq_true; omega
theorem says_trimmed {s : Bool} {l : List Nat} (h : Dg l) : Says (s && decide (0 < trim l l.length)) (trimmed l) (sgn s (val l)) := by
  refine ⟨trimmed_dg h, trimmed_trim l, ?_, ?_⟩
  · rw [trimmed_val]
    cases s with
    | false => rfl
    | true =>
      by_cases e : 0 < trim l l.length
      · simp [e]
      · have : trimmed l = [] := List.length_eq_zero_iff.1 (by rw [trimmed_length]; omega)
        have h0 : val l = 0 := by rw [← trimmed_val, this]; rfl
        simp [e, sgn, h0]
  · intro e
    simp only [Bool.and_eq_true, decide_eq_true_eq] at e
    intro e2
    have := trimmed_length l
    rw [e2] at this
    simp at this
    omega
theorem Says.ext {s t : Bool} {l m : List Nat} {x y : Int} (h : Says s l x) (k : Says t m y) (e : x = y) : s = t ∧ val l = val m := by
  subst e
  exact ⟨h.sign.trans k.sign.symm, h.abs.trans k.abs.symm⟩
theorem sgn_abs (z : Int) : sgn (decide (z < 0)) z.natAbs = z := by
  unfold sgn
  by_cases h : z < 0
  · simp only [h, decide_true, if_true]; omega
  · simp only [h, decide_false, Bool.false_eq_true, if_false]; omega
theorem sgn_neg (s : Bool) (n : Nat) : sgn (!s) n = - sgn s n := by cases s <;> simp [sgn]
theorem sgn_add_same (s : Bool) (n m : Nat) : sgn s n + sgn s m = sgn s (n + m) := by cases s <;> simp [sgn] <;> omega
theorem sgn_add_diff {s t : Bool} (h : s ≠ t) {n m k : Nat} (hk : k + m = n) : sgn s n + sgn t m = sgn s k := by
  cases s <;> cases t <;> simp_all [sgn] <;> omega
theorem sgn_mul (s t : Bool) (n m : Nat) : sgn s n * sgn t m = sgn (s != t) (n * m) := by
  cases s <;> cases t <;> simp [sgn, Int.neg_mul, Int.mul_neg]
/-- The four digits of an int. -/
def four (m : Nat) : List Nat := [m % 65536, m / 65536 % 65536, m / 4294967296 % 65536, m / 281474976710656]
theorem four_val (m : Nat) : val (four m) = m := by
  simp only [val, four, valTo, dig, List.length_cons, List.length_nil, List.getElem?_cons_zero, List.getElem?_cons_succ, Option.getD_some, Nat.zero_add, Nat.reduceAdd, Nat.pow_zero, Nat.pow_succ]
  omega
theorem four_dg (m : Nat) (h : m < 18446744073709551616) : Dg (four m) := by
  intro d hd
  simp only [four, List.mem_cons, List.not_mem_nil, or_false] at hd
  omega
/-- Digits from the top. -/
theorem top_step {l : List Nat} {i m : Nat} (h : m * 65536 ^ (i + 1) + valTo l (i + 1) = val l) : (m * 65536 + dig l i) * 65536 ^ i + valTo l i = val l := by
  rw [valTo, Nat.pow_succ] at h
  grind
theorem says_fits {s : Bool} {l : List Nat} {z : Int} (h : Says s l z) : l.length ≤ 4 ↔ z.natAbs < 18446744073709551616 := by
  rw [len_le_iff h.1 h.2.1, h.abs]
/-- A bit of a digit is one of the number. -/
theorem val_div (l : List Nat) (h : Dg l) : ∀ n k, k ≤ n → valTo l n / 65536 ^ k % 65536 = if k < n then dig l k else 0
  | 0, k, hk => by
    have : k = 0 := by omega
    subst this
    simp [valTo]
  | n + 1, k, hk => by
    rw [valTo]
    rcases Nat.lt_or_ge k n with h1 | h1
    · have e : dig l n * 65536 ^ n = 65536 ^ k * (65536 * (dig l n * 65536 ^ (n - k - 1))) := by
        have : (65536 : Nat) ^ n = 65536 ^ k * (65536 * 65536 ^ (n - k - 1)) := by
          rw [← Nat.mul_assoc, ← Nat.pow_succ, ← Nat.pow_add]; congr 1; omega
        rw [this]; grind
      rw [e, Nat.add_mul_div_left _ _ (pow_pos k), Nat.add_mul_mod_self_left, val_div l h n k (by omega), if_pos h1, if_pos (by omega)]
    · rcases Nat.eq_or_lt_of_le hk with e | e
      · subst e
        have := valTo_lt h (n + 1)
        rw [valTo] at this
        rw [Nat.div_eq_of_lt this]
        simp
      · have : k = n := by omega
        subst this
        rw [Nat.add_mul_div_right _ _ (pow_pos k), Nat.div_eq_of_lt (valTo_lt h k), if_pos e, Nat.zero_add]
        exact Nat.mod_eq_of_lt (dig_lt h k)
theorem two_pow16 (i : Nat) : 2 ^ i = 65536 ^ (i / 16) * 2 ^ (i % 16) := by
  rw [show (65536 : Nat) = 2 ^ 16 by rfl, ← Nat.pow_mul, ← Nat.pow_add]
  congr 1
  omega
theorem bit_val {l : List Nat} (h : Dg l) {i : Nat} (hi : i < 16 * l.length) : dig l (i / 16) / 2 ^ (i % 16) % 2 = val l / 2 ^ i % 2 := by
  have h1 := val_div l h l.length (i / 16) (by omega)
  rw [if_pos (by omega)] at h1
  rw [← h1, two_pow16 i, ← Nat.div_div_eq_div_mul]
  show _ = valTo l l.length / _ / _ % 2
  generalize valTo l l.length / 65536 ^ (i / 16) = V
  have h2 : i % 16 < 16 := by omega
  generalize i % 16 = j at h2
  have e : (65536 : Nat) = 2 ^ j * (2 * 2 ^ (15 - j)) := by
    rw [← Nat.mul_assoc, ← Nat.pow_succ, ← Nat.pow_add, show (65536 : Nat) = 2 ^ 16 by rfl]
    congr 1
    omega
  have h3 := Nat.div_add_mod V 65536
  generalize V % 65536 = r at *
  generalize V / 65536 = q at *
  rw [← h3, show 65536 * q = 2 ^ j * (2 * (2 ^ (15 - j) * q)) by rw [e]; grind, Nat.mul_add_div (Nat.pow_pos (by decide)), Nat.mul_add_mod_self_left]
theorem half_step (V i : Nat) : V / 2 ^ i = 2 * (V / 2 ^ (i + 1)) + V / 2 ^ i % 2 := by
  rw [Nat.pow_succ, ← Nat.div_div_eq_div_mul]
  omega
/-- The quotient, bit by bit. -/
theorem parts_step {V i q r b bit : Nat} (h : q * b + r = V / 2 ^ (i + 1)) (hb : V / 2 ^ i % 2 = bit) : (q + q) * b + (r + r + bit) = V / 2 ^ i := by
  rw [half_step V i, ← h, hb]
  grind
theorem floor_parts {a b q r : Int} (hb : b ≠ 0) (h : q * b + r = a) (h1 : 0 < b → 0 ≤ r ∧ r < b) (h2 : b < 0 → b < r ∧ r ≤ 0) : q = a.fdiv b ∧ r = a.fmod b := by
  have e : r + b * q = a := by rw [Int.mul_comm]; omega
  rcases Int.lt_or_gt_of_ne hb with hn | hp
  · obtain ⟨g1, g2⟩ := (Int.fdiv_fmod_unique' hn).2 ⟨e, (h2 hn).1, (h2 hn).2⟩
    exact ⟨g1.symm, g2.symm⟩
  · obtain ⟨g1, g2⟩ := (Int.fdiv_fmod_unique hp).2 ⟨e, (h1 hp).1, (h1 hp).2⟩
    exact ⟨g1.symm, g2.symm⟩
/-- Signs are put to a quotient of two numbers, and what is left. -/
theorem floor_signs {s t : Bool} {n m Q R : Nat} (hm : 0 < m) (h : Q * m + R = n) (hR : R < m) :
    (if sgn s R ≠ 0 ∧ s ≠ t then sgn (s != t) Q - 1 else sgn (s != t) Q) = (sgn s n).fdiv (sgn t m) ∧ (if sgn s R ≠ 0 ∧ s ≠ t then sgn s R + sgn t m else sgn s R) = (sgn s n).fmod (sgn t m) := by
  have hs0 : sgn t m ≠ 0 := by cases t <;> simp [sgn] <;> omega
  have hi : (Q : Int) * (m : Int) + (R : Int) = (n : Int) := by exact_mod_cast h
  refine floor_parts hs0 ?_ ?_ ?_
  · cases s <;> cases t <;> simp [sgn] <;> (try split) <;> grind
  · cases s <;> cases t <;> simp [sgn] <;> (try split) <;> omega
  · cases s <;> cases t <;> simp [sgn] <;> (try split) <;> omega
abbrev Bs := List UInt8
def fits (z : Int) : Bool := decide (-9223372036854775808 ≤ z ∧ z ≤ 9223372036854775807)
def nOver : Bs := [79, 118, 101, 114, 102, 108, 111, 119, 69, 114, 114, 111, 114]
def nZero : Bs := [90, 101, 114, 111, 68, 105, 118, 105, 115, 105, 111, 110, 69, 114, 114, 111, 114]
def nVal : Bs := [86, 97, 108, 117, 101, 69, 114, 114, 111, 114]
def nType : Bs := [84, 121, 112, 101, 69, 114, 114, 111, 114]
/-- What is told of an int, if it fits. -/
def fit (z : Int) : Int × Bs := if fits z then (z, []) else (0, nOver)
/-- What an operator makes of two ints. -/
def doN (op : Bs) (a b : Int) : Int × Bs :=
  if op = [43] then fit (a + b)
  else if op = [45] then fit (a - b)
  else if op = [42] then fit (a * b)
  else if op = [47, 47] then (if b = 0 then (0, nZero) else fit (a.fdiv b))
  else if op = [37] then (if b = 0 then (0, nZero) else fit (a.fmod b))
  else if op = [42, 42] then (if b < 0 then (0, nVal) else fit (a ^ b.toNat))
  else (0, nType)
theorem fit_fits {z : Int} (h : fits z = true) : fit z = (z, []) := by unfold fit; rw [if_pos h]
theorem fit_not {z : Int} (h : fits z = false) : fit z = (0, nOver) := by unfold fit; rw [h]; rfl
theorem fits_iff (z : Int) : fits z = true ↔ -9223372036854775808 ≤ z ∧ z ≤ 9223372036854775807 := by simp [fits]
theorem fits_natAbs {z : Int} (h : fits z = true) : z.natAbs ≤ 9223372036854775808 := by rw [fits_iff] at h; omega
theorem not_fits_of {z : Int} (h : 9223372036854775808 < z.natAbs) : fits z = false := by
  cases e : fits z with
  | false => rfl
  | true => have := fits_natAbs e; omega
/-- A power of a number of 0 or 1 hangs on few of its factors. -/
theorem pow_small {a : Int} (h : a.natAbs ≤ 1) {b : Nat} (hb : 2 < b) : a ^ b = a ^ (2 + b % 2) := by
  have : a = 0 ∨ a = 1 ∨ a = -1 := by omega
  have key : ∀ k r : Nat, a ^ (2 + r + 2 * k) = a ^ (2 + r) := by
    intro k r
    induction k with
    | zero => rfl
    | succ k ih =>
      rw [show 2 + r + 2 * (k + 1) = (2 + r + 2 * k) + 2 by omega, Int.pow_succ, Int.pow_succ, ih]
      rw [show 2 + r = r + 1 + 1 by omega, Int.pow_succ, Int.pow_succ]
      rcases this with e | e | e <;> subst e <;> simp
  have := key ((b - 2) / 2) (b % 2)
  rw [show 2 + b % 2 + 2 * ((b - 2) / 2) = b by omega] at this
  exact this
theorem natAbs_pow_le {a : Int} (h : 1 ≤ a.natAbs) {i j : Nat} (hij : i ≤ j) : (a ^ i).natAbs ≤ (a ^ j).natAbs := by
  rw [Int.natAbs_pow, Int.natAbs_pow]
  exact Nat.pow_le_pow_right h hij
theorem pow_two_le {a : Int} (h : 2 ≤ a.natAbs) (i : Nat) : 2 ^ i ≤ (a ^ i).natAbs := by
  rw [Int.natAbs_pow]
  exact Nat.pow_le_pow_left h i

/-- Digits to base ten. -/
def dec (n : Nat) : Bs := if n < 10 then [UInt8.ofNat (48 + n)] else dec (n / 10) ++ [UInt8.ofNat (48 + n % 10)]
decreasing_by omega
def text (z : Int) : Bs := if z < 0 then 45 :: dec z.natAbs else dec z.natAbs
theorem dec_small {n : Nat} (h : n < 10) : dec n = [UInt8.ofNat (48 + n)] := by rw [dec, if_pos h]
theorem dec_big {n : Nat} (h : 10 ≤ n) : dec n = dec (n / 10) ++ [UInt8.ofNat (48 + n % 10)] := by rw [dec, if_neg (by omega)]
def isDig (c : UInt8) : Bool := decide (48 ≤ c.toNat) && decide (c.toNat ≤ 57)
/-- What digits say, behind a number. -/
def numFrom (n : Nat) (l : Bs) : Nat := l.foldl (fun n c => n * 10 + (c.toNat - 48)) n
def num (l : Bs) : Nat := numFrom 0 l
theorem numFrom_snoc (n : Nat) (l : Bs) (c : UInt8) : numFrom n (l ++ [c]) = numFrom n l * 10 + (c.toNat - 48) := by simp [numFrom]
theorem numFrom_le : ∀ (l : Bs) (n : Nat), n ≤ numFrom n l
  | [], n => Nat.le_refl _
  | c :: l, n => by
    have := numFrom_le l (n * 10 + (c.toNat - 48))
    simp only [numFrom, List.foldl_cons] at this ⊢
    omega
theorem num_take_le (l : Bs) (i : Nat) : num (l.take i) ≤ num l := by
  have : num l = numFrom (num (l.take i)) (l.drop i) := by
    unfold num numFrom
    rw [← List.foldl_append, List.take_append_drop]
  rw [this]
  exact numFrom_le _ _
theorem num_take_succ {l : Bs} {i : Nat} (h : i < l.length) : num (l.take (i + 1)) = num (l.take i) * 10 + (l[i].toNat - 48) := by
  rw [List.take_succ_eq_append_getElem h]
  exact numFrom_snoc _ _ _
theorem digit_toNat {n : Nat} (h : n < 10) : (UInt8.ofNat (48 + n)).toNat = 48 + n := by
  rw [UInt8.toNat_ofNat_of_lt' (by show 48 + n < 256; omega)]
theorem num_dec (n : Nat) : num (dec n) = n := by
  induction n using Nat.strongRecOn with
  | _ n ih =>
    rcases Nat.lt_or_ge n 10 with h | h
    · rw [dec_small h]
      simp only [num, numFrom, List.foldl_cons, List.foldl_nil]
      rw [digit_toNat h]; omega
    · rw [dec_big h]
      unfold num
      rw [numFrom_snoc]
      have := ih (n / 10) (by omega)
      unfold num at this
      rw [this, digit_toNat (by omega)]; omega
theorem dec_digits (n : Nat) : ∀ c ∈ dec n, isDig c = true := by
  induction n using Nat.strongRecOn with
  | _ n ih =>
    intro c hc
    rcases Nat.lt_or_ge n 10 with h | h
    · rw [dec_small h] at hc
      simp only [List.mem_cons, List.not_mem_nil, or_false] at hc
      subst hc
      unfold isDig
      rw [digit_toNat h]
      simp; omega
    · rw [dec_big h] at hc
      rcases List.mem_append.1 hc with h1 | h1
      · exact ih _ (by omega) c h1
      · simp only [List.mem_cons, List.not_mem_nil, or_false] at h1
        subst h1
        unfold isDig
        rw [digit_toNat (by omega)]
        simp; omega
theorem dec_ne (n : Nat) : dec n ≠ [] := by
  rcases Nat.lt_or_ge n 10 with h | h
  · rw [dec_small h]; simp
  · rw [dec_big h]; simp
theorem dec_length_le (n k : Nat) (hk : 0 < k) (h : n < 10 ^ k) : (dec n).length ≤ k := by
  induction k generalizing n with
  | zero => omega
  | succ k ih =>
    rcases Nat.lt_or_ge n 10 with h1 | h1
    · rw [dec_small h1]; simp
    · rw [dec_big h1, List.length_append]
      have hk0 : 0 < k := by
        rcases Nat.eq_zero_or_pos k with e | e
        · subst e; simp at h; omega
        · exact e
      have := ih (n / 10) hk0 (by rw [Nat.pow_succ] at h; omega)
      simp; omega
/-- The int of a text. -/
def split (s : Bs) : Bool × Bs := match s with
  | 45 :: r => (true, r)
  | _ => (false, s)
def parse (s : Bs) : Option Int :=
  let p := split s
  if p.2 = [] ∨ p.2.all isDig = false then none else if fits (sgn p.1 (num p.2)) then some (sgn p.1 (num p.2)) else none
theorem split_minus (r : Bs) : split (45 :: r) = (true, r) := rfl
theorem split_other {s : Bs} (h : s.head? ≠ some 45) : split s = (false, s) := by
  unfold split
  split
  · simp at h
  · rfl
theorem noughts_num (k : Nat) (l : Bs) : num (List.replicate k 48 ++ l) = num l := by
  induction k with
  | zero => rfl
  | succ k ih => rw [List.replicate_succ, List.cons_append]; exact ih
theorem isDig_minus : isDig 45 = false := by decide
theorem parse_digits {s : Bs} (hs : s ≠ []) (h : s.all isDig = true) : parse s = if fits (num s) then some (num s : Int) else none := by
  have : s.head? ≠ some 45 := by
    cases s with
    | nil => exact absurd rfl hs
    | cons c r =>
      intro e
      simp only [List.head?_cons, Option.some.injEq] at e
      subst e
      simp [isDig_minus] at h
  unfold parse
  rw [split_other this]
  simp only [hs, h, sgn, Bool.true_eq_false, or_self, if_false, Bool.false_eq_true]
theorem parse_minus {s : Bs} (hs : s ≠ []) (h : s.all isDig = true) : parse (45 :: s) = if fits (-(num s : Int)) then some (-(num s : Int)) else none := by
  unfold parse
  rw [split_minus]
  simp only [hs, h, sgn, Bool.true_eq_false, or_self, if_false, if_true]
theorem all_noughts (k : Nat) {l : Bs} (h : l.all isDig = true) : (List.replicate k (48 : UInt8) ++ l).all isDig = true := by
  rw [List.all_append, h, Bool.and_true]
  rw [List.all_eq_true]
  intro c hc
  rw [List.eq_of_mem_replicate hc]
  decide
theorem dec_all (n : Nat) : (dec n).all isDig = true := List.all_eq_true.2 (dec_digits n)
/-- The text of an int says it, with noughts ahead, too. -/
theorem parse_ahead {z : Int} (h : fits z = true) (k : Nat) : parse ((if z < 0 then [45] else []) ++ (List.replicate k 48 ++ dec z.natAbs)) = some z := by
  have hne : List.replicate k (48 : UInt8) ++ dec z.natAbs ≠ [] := by simp [dec_ne]
  have hall := all_noughts k (dec_all z.natAbs)
  by_cases hz : z < 0
  · rw [if_pos hz]
    rw [List.singleton_append, parse_minus hne hall, noughts_num, num_dec]
    have : -(z.natAbs : Int) = z := by omega
    rw [this, if_pos h]
  · rw [if_neg hz, List.nil_append, parse_digits hne hall, noughts_num, num_dec]
    have : (z.natAbs : Int) = z := by omega
    rw [this, if_pos h]
theorem parse_text {z : Int} (h : fits z = true) : parse (text z) = some z := by
  have := parse_ahead h 0
  unfold text
  by_cases hz : z < 0
  · rw [if_pos hz] at this ⊢; exact this
  · rw [if_neg hz] at this ⊢; exact this
theorem text_inj {a b : Int} (ha : fits a = true) (hb : fits b = true) : text a = text b ↔ a = b := by
  constructor
  · intro e
    have h1 := parse_text ha
    rw [e, parse_text hb] at h1
    exact (Option.some.inj h1).symm
  · rintro rfl; rfl
/-- Digits are told from behind. -/
theorem dec_snoc {n : Nat} (s : Bs) (h : 0 < n) : (if n / 10 = 0 then [] else dec (n / 10)) ++ (UInt8.ofNat (48 + n % 10) :: s) = dec n ++ s := by
  rcases Nat.lt_or_ge n 10 with h1 | h1
  · rw [if_pos (by omega), dec_small h1, Nat.mod_eq_of_lt h1]; rfl
  · rw [if_neg (by omega), dec_big h1]; simp

theorem prod_far {a b : Int} (ha : fits a = true) (hb : fits b = true) (h : fits (a * b) = false) : (1 < a ∨ a < -1 ∨ b = -9223372036854775808) ∧ (1 < b ∨ b < -1 ∨ a = -9223372036854775808) := by
  rw [fits_iff] at ha hb
  have h' : ¬ (-9223372036854775808 ≤ a * b ∧ a * b ≤ 9223372036854775807) := by
    intro e
    rw [(fits_iff _).2 e] at h
    cases h
  constructor
  · by_cases h1 : 1 < a ∨ a < -1
    · omega
    · have : a = 0 ∨ a = 1 ∨ a = -1 := by omega
      rcases this with e | e | e <;> subst e <;> simp at h' <;> omega
  · by_cases h1 : 1 < b ∨ b < -1
    · omega
    · have : b = 0 ∨ b = 1 ∨ b = -1 := by omega
      rcases this with e | e | e <;> subst e <;> simp at h' <;> omega
theorem prod_zero {a b : Int} (h : a = 0 ∨ b = 0) : a * b = 0 := by rcases h with e | e <;> subst e <;> simp
theorem prod_sign {a b : Int} (ha : a ≠ 0) (hb : b ≠ 0) : a * b < 0 ↔ ¬ (a < 0 ↔ b < 0) := by
  constructor
  · intro h e
    rcases Int.lt_or_gt_of_ne ha with h1 | h1
    · have := Int.mul_pos_of_neg_of_neg h1 (e.1 h1); omega
    · have h2 : 0 < b := by rcases Int.lt_or_gt_of_ne hb with h2 | h2; exact absurd (e.2 h2) (by omega); exact h2
      have := Int.mul_pos h1 h2; omega
  · intro h
    rcases Int.lt_or_gt_of_ne ha with h1 | h1
    · have h2 : 0 < b := by rcases Int.lt_or_gt_of_ne hb with h2 | h2; exact absurd ⟨fun _ => h2, fun _ => h1⟩ h; exact h2
      exact Int.mul_neg_of_neg_of_pos h1 h2
    · have h2 : b < 0 := by
        rcases Int.lt_or_gt_of_ne hb with h2 | h2
        · exact h2
        · exact absurd ⟨fun h => by omega, fun h => by omega⟩ h
      exact Int.mul_neg_of_pos_of_neg h1 h2
/-- Quotients of ints fit, but for one. -/
theorem parts_range (a b : Int) : a.fdiv b * b + a.fmod b = a ∧ (0 < b → 0 ≤ a.fmod b ∧ a.fmod b < b) ∧ (b < 0 → b < a.fmod b ∧ a.fmod b ≤ 0) := by
  refine ⟨Int.fdiv_mul_add_fmod a b, fun h => ?_, fun h => ?_⟩
  · exact ⟨Int.fmod_nonneg_of_pos a h, Int.fmod_lt_of_pos a h⟩
  · have := (Int.fdiv_fmod_unique' (a := a) (q := a.fdiv b) (r := a.fmod b) h).1 ⟨rfl, rfl⟩
    exact this.2
theorem mod_fits {a b : Int} (hb : fits b = true) (h0 : b ≠ 0) : fits (a.fmod b) = true := by
  obtain ⟨_, h1, h2⟩ := parts_range a b
  rw [fits_iff] at hb ⊢
  omega
theorem div_fits {a b : Int} (ha : fits a = true) (hb : b ≠ 0) : fits (a.fdiv b) = true ∨ (a = -9223372036854775808 ∧ b = -1) := by
  obtain ⟨h0, h1, h2⟩ := parts_range a b
  rw [fits_iff] at ha ⊢
  by_cases e : b = -1
  · subst e
    rw [Int.mul_neg_one] at h0
    omega
  · left
    generalize a.fdiv b = q at *
    generalize a.fmod b = r at *
    rcases Int.lt_or_gt_of_ne hb with hn | hp
    · have h2 := h2 hn
      constructor
      · rcases Int.lt_or_le q (-9223372036854775808) with h | h
        · have := Int.mul_le_mul_of_nonpos_right (a := -9223372036854775809) (b := q) (c := b) (by omega) (by omega)
          omega
        · exact h
      · rcases Int.lt_or_le 9223372036854775807 q with h | h
        · have := Int.mul_le_mul_of_nonpos_right (a := q) (b := 9223372036854775808) (c := b) (by omega) (by omega)
          omega
        · exact h
    · have h1 := h1 hp
      constructor
      · rcases Int.lt_or_le q (-9223372036854775808) with h | h
        · have := Int.mul_le_mul_of_nonneg_right (a := q) (b := -9223372036854775809) (c := b) (by omega) (by omega)
          omega
        · exact h
      · rcases Int.lt_or_le 9223372036854775807 q with h | h
        · have := Int.mul_le_mul_of_nonneg_right (a := 9223372036854775808) (b := q) (c := b) (by omega) (by omega)
          omega
        · exact h
theorem far_pow {a : Int} (h : 2 ≤ a.natAbs) {b : Nat} (hb : 64 ≤ b) : fits (a ^ b) = false := by
  refine not_fits_of ?_
  have h1 := pow_two_le h 64
  have h2 := natAbs_pow_le (a := a) (by omega) hb
  have : (2 : Nat) ^ 64 = 18446744073709551616 := by decide
  omega
theorem one_pow_cases (b : Nat) : ((-1 : Int) ^ b = 1 ∧ b % 2 = 0) ∨ ((-1 : Int) ^ b = -1 ∧ b % 2 = 1) := by
  induction b with
  | zero => simp
  | succ b ih => rcases ih with ⟨e, h⟩ | ⟨e, h⟩ <;> rw [Int.pow_succ, e] <;> omega
/-- Beyond a power that does not fit none fits. -/
theorem pow_over {a : Int} {b : Nat} (h : fits (a ^ b) = false) : fits (a ^ (b + 1)) = false ∧ (1 < a ∨ a < -1) := by
  have h2 : 2 ≤ a.natAbs := by
    rcases Nat.lt_or_ge a.natAbs 2 with h1 | h1
    · have : a = 0 ∨ a = 1 ∨ a = -1 := by omega
      rcases this with e | e | e
      · subst e
        cases b with
        | zero => rw [Int.pow_zero] at h; exact absurd h (by decide)
        | succ b => rw [Int.pow_succ, Int.mul_zero] at h; exact absurd h (by decide)
      · subst e; rw [Int.one_pow] at h; exact absurd h (by decide)
      · subst e
        rcases one_pow_cases b with ⟨e, _⟩ | ⟨e, _⟩ <;> rw [e] at h <;> simp [fits] at h
    · exact h1
  refine ⟨not_fits_of ?_, by omega⟩
  have h3 : ¬ (-9223372036854775808 ≤ a ^ b ∧ a ^ b ≤ 9223372036854775807) := by
    intro e
    rw [(fits_iff _).2 e] at h
    cases h
  rw [Int.pow_succ, Int.natAbs_mul]
  have h4 : 9223372036854775808 ≤ (a ^ b).natAbs := by omega
  have := Nat.mul_le_mul h4 h2
  omega
end Nu
end Go.Proofs.Ytaekjkihdecmcaa
