/-
  A name, or a keyword, is one token, and nothing else is one whole name: the statement ScanNames holds for every input.
-/
import Derived.Test.YtfomjdaihoaipaaDoorF
import Derived.Test.YtfomjdaihoaipaaDoorA
import Derived.Deep.DeepCutAuto
set_option linter.unusedVariables false
set_option linter.unusedSimpArgs false
namespace Go.Proofs.YtfomjdaihoaipaaDoor
open Go.RowKit Go.Shelf

/-- How a line's answer can look: an error; no token or several; just one. -/
abbrev LineKind := Except (Nat × Int) (Sum Nat (Nat × Sp.Tk))
def kindOf (x : Except (Nat × Int) (List (Nat × Sp.Tk))) : LineKind :=
  match x with
  | .error y => .error y
  | .ok [y] => .ok (.inr y)
  | .ok l => .ok (.inl l.length)
/-- What Line answers, by the kind. -/
def KindEnd (B : Nat) (at_ : Int) (k : LineKind) (e : Ending) (w' : World) : Prop :=
  match k with
  | .error (p, er) => e = .returned (.tuple #[.slice none 0 0, .int .i64 (wrap64 (at_ + (p : Int))), .int .i64 er])
  | .ok (.inl n) => ∃ pa cap, e = .returned (.tuple #[.slice pa n cap, .int .i64 0, .int .i64 0])
  | .ok (.inr y) => ∃ g cap, g < w'.heap.size ∧ B ≤ g ∧ e = .returned (.tuple #[.slice (some ⟨g, 0, none⟩) 1 cap, .int .i64 0, .int .i64 0]) ∧
      w'.cell? ⟨g, 0, none⟩ = some (.int .i64 y.2.kind) ∧ w'.cell? ⟨g, 1, none⟩ = some (.int .i64 (wrap64 (at_ + (y.1 : Int)))) ∧ w'.cell? ⟨g, 2, none⟩ = some (.string ⟨y.2.text.toArray⟩) ∧ w'.cell? ⟨g, 3, none⟩ = some (.int .i64 y.2.num)

theorem kind_of {B : Nat} {at_ : Int} {x : Except (Nat × Int) (List (Nat × Sp.Tk))} {e : Ending} {w' : World} (h : LineEnd B at_ x e w') : KindEnd B at_ (kindOf x) e w' := by
  cases x with
  | error y => obtain ⟨p, er⟩ := y; exact h
  | ok ts =>
    obtain ⟨v, rfl, hr⟩ := h
    obtain ⟨pa, cap, rfl, hf⟩ := hr.row4.form
    match ts, hf with
    | [], hf => exact ⟨pa, cap, rfl⟩
    | [y], hf =>
      obtain ⟨g, rfl, hg, hB, a0, a1, a2, a3⟩ := hf 0 (abs4 at_ y) rfl
      simp only [Nat.zero_mul, Nat.zero_add] at a0 a1 a2 a3
      exact ⟨g, cap, hg, hB, rfl, a0, a1, a2, a3⟩
    | y :: z :: u, hf => exact ⟨pa, cap, by simp [kindOf]⟩

theorem line_kind {s : ByteArray} {k : LineKind} (h : Hid (kindOf (Sp.lex s.data.toList) = k)) (hs : s.size ≤ 60000) (at_ : Int) (w : World) (hE : Env w) :
    Calls Tryd.prog 16 #[.string s, .int .i64 at_] w fun e w' => KindEnd w.heap.size at_ k e w' ∧ Below w.heap.size w w' := by
  rw [← h.out]
  refine (line_any s hs at_ w hE).mono ?_
  rintro e w' ⟨h1, h2⟩
  exact ⟨kind_of h1, h2⟩

theorem eql_tok (w : World) (k a n k' a' n' : Int) (s s' : ByteArray) (b : Bool) (h : (k == k' && (a == a' && (s.toList == s'.toList && n == n'))) = b) :
    (binOp .eql 36 (.agg #[.int .i64 k, .int .i64 a, .string s, .int .i64 n]) (.agg #[.int .i64 k', .int .i64 a', .string s', .int .i64 n'])).run Tryd.prog w = .ok (.bool b) w := by
  have h1 := neq_tok w k a n k' a' n' s s'
  rw [h] at h1
  rw [run_neq_struct] at h1
  rw [run_eql_struct]
  generalize (Op.equalIn 10000 36 (.agg #[.int .i64 k, .int .i64 a, .string s, .int .i64 n]) (.agg #[.int .i64 k', .int .i64 a', .string s', .int .i64 n'])).run Tryd.prog w = r at h1
  cases r with
  | ok v w' =>
    simp only [Result.andThen_ok, Result.ok.injEq, Value.bool.injEq] at h1 ⊢
    exact ⟨by simpa using h1.1, h1.2⟩
  | halt x w' => simp [Result.andThen] at h1

theorem lex_err {l : Sp.Bs} {p : Nat} {er : Int} (h : Sp.lex l = .error (p, er)) : (er = 10 ∨ er = 11 ∨ er = 12) ∧ p < l.length := by
  have key : ∀ (f : Nat) (l : Sp.Bs) (pos : Nat), l.length ≤ f → Sp.lexAt pos l = .error (p, er) → (er = 10 ∨ er = 11 ∨ er = 12) ∧ pos ≤ p ∧ p < pos + l.length := by
    intro f
    induction f with
    | zero =>
      intro l pos hl h
      have : l = [] := by cases l with | nil => rfl | cons => simp at hl
      subst this
      cases h
    | succ f ih =>
      intro l pos hl h
      cases l with
      | nil => cases h
      | cons c r =>
        simp only [List.length_cons] at hl
        by_cases h32 : c.toNat = 32
        · rw [Sp.lexAt_blank _ _ _ h32] at h
          obtain ⟨h1, h2, h3⟩ := ih r (pos + 1) (by omega) h
          exact ⟨h1, by omega, by simp; omega⟩
        · by_cases h35 : c.toNat = 35
          · rw [Sp.lexAt_hash _ _ _ h35] at h; cases h
          · cases ht : Sp.tok1 (c :: r) with
            | error e =>
              rw [Sp.lexAt_err _ _ _ h32 h35 e ht] at h
              cases h
              exact ⟨Sp.tok1_err ht, Nat.le_refl _, by simp⟩
            | ok t =>
              rw [Sp.lexAt_tok _ _ _ h32 h35 t ht] at h
              have hs := Sp.tok1_size ht
              cases hr : Sp.lexAt (pos + t.size) ((c :: r).drop t.size) with
              | ok us => rw [hr] at h; cases h
              | error y =>
                rw [hr] at h
                cases h
                obtain ⟨h1, h2, h3⟩ := ih ((c :: r).drop t.size) (pos + t.size) (by simp; omega) hr
                simp only [List.length_drop] at h3
                exact ⟨h1, by omega, by omega⟩
  have := key l.length l 0 (Nat.le_refl _) h
  exact ⟨this.1, by omega⟩

theorem kind_err {l : Sp.Bs} {p : Nat} {er : Int} (h : kindOf (Sp.lex l) = .error (p, er)) : Sp.lex l = .error (p, er) := by
  cases hx : Sp.lex l with
  | error y => rw [hx] at h; cases h; rfl
  | ok ts =>
    rw [hx] at h
    match ts, h with
    | [], h => cases h
    | [_], h => cases h
    | _ :: _ :: _, h => cases h
theorem kind_many {l : Sp.Bs} {n : Nat} (h : kindOf (Sp.lex l) = .ok (.inl n)) : n ≠ 1 ∧ Sp.wordy l = false := by
  have hw : Sp.wordy l = false := by
    cases hw : Sp.wordy l with
    | false => rfl
    | true => rw [Sp.lex_wordy hw] at h; cases h
  refine ⟨?_, hw⟩
  cases hx : Sp.lex l with
  | error y => rw [hx] at h; cases h
  | ok ts =>
    rw [hx] at h
    match ts, h with
    | [], h => cases h; decide
    | [_], h => cases h
    | _ :: _ :: u, h => cases h; simp
theorem kind_one {l : Sp.Bs} {y : Nat × Sp.Tk} (h : kindOf (Sp.lex l) = .ok (.inr y)) (hl : l.length ≤ 1000) :
    ((y.2.kind : Int) == 1 && (wrap64 (0 + (y.1 : Int)) == 0 && ((⟨y.2.text.toArray⟩ : ByteArray).toList == (⟨l.toArray⟩ : ByteArray).toList && y.2.num == 0))) = Sp.wordy l := by
  have hx : Sp.lex l = .ok [y] := by
    cases hx : Sp.lex l with
    | error z => rw [hx] at h; cases h
    | ok ts =>
      rw [hx] at h
      match ts, h with
      | [], h => cases h
      | [_], h => cases h; rfl
      | _ :: _ :: u, h => cases h
  rw [Sp.toList_data, Sp.toList_data, mk_list, mk_list]
  cases hw : Sp.wordy l with
  | true =>
    rw [Sp.lex_wordy hw] at hx
    cases hx
    simp [wrap64]
  | false =>
    rw [Bool.eq_false_iff]
    intro hc
    simp at hc
    have := Sp.wordy_of_lex (p := y.1) (t := y.2) hx hc.1 hc.2.2.1
    rw [this] at hw
    cases hw

theorem kind_tuple {B : Nat} {at_ : Int} {k : LineKind} {e : Ending} {w' : World} (h : KindEnd B at_ k e w') : ∃ v7 v8 v9, e = .returned (.tuple #[v7, v8, v9]) ∧ KindEnd B at_ k (.returned (.tuple #[v7, v8, v9])) w' := by
  match k, h with
  | .error (p, er), h => exact ⟨_, _, _, h, rfl⟩
  | .ok (.inl n), ⟨pa, cap, h⟩ => exact ⟨_, _, _, h, pa, cap, rfl⟩
  | .ok (.inr y), ⟨g, cap, h1, h2, h3, h4⟩ => exact ⟨_, _, _, h3, g, cap, h1, h2, rfl, h4⟩
theorem ret3 {a b c a' b' c' : Value} (h : Ending.returned (.tuple #[a, b, c]) = .returned (.tuple #[a', b', c'])) : a = a' ∧ b = b' ∧ c = c' := by
  simp at h
  exact h

namespace lawNames
theorem byte_str (c : UInt8) (w : World) : (convert 33 9 (.slice (some ⟨w.heap.size, 0, none⟩) 1 1)).run Tryd.prog (w.alloc (Obj.cells #[.int .u8 (c.toNat : Int)] 5)) = .ok (.string ⟨#[c]⟩) (w.alloc (Obj.cells #[.int .u8 (c.toNat : Int)] 5)) := by
  have h := run_convert_bytes_back (P := Tryd.prog) (w.alloc (Obj.cells #[.int .u8 (c.toNat : Int)] 5)) 33 9 5 ⟨w.heap.size, 0, none⟩ 1 [c] Tryd.underlying33 Tryd.underlying5 Tryd.underlying9
  exact h (by
    intro j hj
    have hj0 : j = 0 := by simp at hj; exact hj
    subst hj0
    simp [Addr.add])
theorem b_ff {a b : Bool} (h : false = (a || b)) : a = false ∧ b = false := by cases a <;> cases b <;> simp at h ⊢
theorem b_t {a b : Bool} (h : true = (a || b)) (h2 : (a && b) = false) : b = !a := by cases a <;> cases b <;> simp at h h2 ⊢
theorem name_is {s : ByteArray} {b : Bool} (h : Hid (Sp.nm s.data.toList = b)) (hs : s.size ≤ 1000000) (w : World) : Calls Tryd.prog 22 #[.string s] w fun e w' => e = .returned (.bool b) ∧ Below w.heap.size w w' := by
  rw [← h.out]; exact name_any s w hs

set_option maxHeartbeats 8000000 in
set_option maxRecDepth 100000 in
theorem walk (s : ByteArray) (c : UInt8) (hs : s.size ≤ maxLen) (w : World) (hE : Env w) : Calls Tryd.prog 11 #[.string s, .int .u8 (c.toNat : Int)] w fun e w' => e = .returned (.bool true) ∧ Below w.heap.size w w' := by
  have hc0 := c.toNat_lt
  obtain ⟨f, HF⟩ := hid_ex (s.extract 0 (min s.size 100))
  have hf : f.size ≤ 100 := by rw [← HF.out]; simp [ByteArray.size_extract]; omega
  obtain ⟨kx, HX⟩ := hid_ex (kindOf (Sp.lex f.data.toList))
  obtain ⟨ow, HOW⟩ := hid_ex (Sp.wordy f.data.toList)
  obtain ⟨nw, HNW⟩ := hid_ex (Sp.nm f.data.toList)
  obtain ⟨kw, HKW⟩ := hid_ex (Sp.kw f.data.toList)
  obtain ⟨mo, HM⟩ := hid_ex (f ++ ⟨#[c]⟩)
  have hml : mo.data.toList = f.data.toList ++ [c] := by rw [← HM.out]; simp
  have hmo : mo.size ≤ 101 := by rw [← size_list, hml, List.length_append, size_list]; simp; omega
  have HML := Lib.hid hml
  clear hml
  obtain ⟨ky, HY⟩ := hid_ex (kindOf (Sp.lex mo.data.toList))
  obtain ⟨jo, HJO⟩ := hid_ex (Sp.wordy mo.data.toList)
  obtain ⟨nm, HNM⟩ := hid_ex (Sp.nm mo.data.toList)
  obtain ⟨km, HKM⟩ := hid_ex (Sp.kw mo.data.toList)
  obtain ⟨bw, HBW⟩ := hid_ex (Sp.isWd c)
  have F1 : Hid (ow = (nw || kw) ∧ (nw && kw) = false ∧ (ow = true → jo = bw) ∧ jo = (nm || km) ∧ (nm && km) = false) := by
    refine ⟨by rw [← HOW.out, ← HNW.out, ← HKW.out, Sp.wordy_eq], by rw [← HNW.out, ← HKW.out, Sp.nm_kw], ?_, by rw [← HJO.out, ← HNM.out, ← HKM.out, Sp.wordy_eq], by rw [← HNM.out, ← HKM.out, Sp.nm_kw]⟩
    intro ho
    rw [← HOW.out] at ho
    rw [← HJO.out, ← HBW.out, HML.out, Sp.wordy_snoc ho]
  go_enter Tryd.func11, Tryd.ntmps11
  go_wp2_with fail
  refine (shown_any w hE).mono ?_
  rintro e w1 ⟨rfl, hb1⟩
  have hE1 := hE.below hb1 hE.size
  go_wp2_with fail
  refine (few_any s w1 hs).mono ?_
  rintro e w1' ⟨rfl, rfl⟩
  rw [HF.out]
  go_wp2_with fail
  refine (line_kind HX (by omega) 0 w1 hE1).mono ?_
  rintro e w2 ⟨hK0, hb2⟩
  obtain ⟨v7, v8, v9, rfl, hK⟩ := kind_tuple hK0
  have hE2 := hE1.below hb2 hE1.size
  have hbel2 := hb1.trans (hb2.mono hb1.size)
  clear hK0 hb1 hb2 hE1
  go_upto_region 4 with (fail)
  go_cut [10] (fun v10 wx => v10 = .bool ow ∧ wx = w2)
  case first =>
    have hlen : f.data.toList.length ≤ 1000 := by rw [size_list]; omega
    match kx, hK, HX with
    | .error (p, er), hK, HX =>
      obtain ⟨rfl, rfl, rfl⟩ := ret3 hK
      have her := (lex_err (kind_err HX.out)).1
      have ger : ((er : Int) == 0) = false := by rcases her with rfl | rfl | rfl <;> decide
      have how : ow = false := by
        rw [← HOW.out]
        cases hw : Sp.wordy f.data.toList with
        | false => rfl
        | true => have := kind_err HX.out; rw [Sp.lex_wordy hw] at this; cases this
      subst how
      clear her hK HX
      go_wp2_with fail
      go_meet
      exact ⟨rfl, rfl⟩
    | .ok (.inl n), ⟨pa, cap, hK⟩, HX =>
      obtain ⟨rfl, rfl, rfl⟩ := ret3 hK
      have hn := kind_many HX.out
      have gn : ((n : Int) == 1) = false := by simp; omega
      have how : ow = false := by rw [← HOW.out]; exact hn.2
      subst how
      clear hn hK HX
      go_wp2_with fail
      go_meet
      exact ⟨rfl, rfl⟩
    | .ok (.inr y), ⟨g, cap, hg, _, hK, a0, a1, a2, a3⟩, HX =>
      obtain ⟨rfl, rfl, rfl⟩ := ret3 hK
      have hcmp := fun wx => eql_tok wx y.2.kind (wrap64 (0 + (y.1 : Int))) y.2.num 1 0 0 ⟨y.2.text.toArray⟩ f ow (by
        have := kind_one HX.out hlen
        rw [HOW.out, toArray_data] at this
        exact this)
      generalize wrap64 (0 + (y.1 : Int)) = z at a1 hcmp
      generalize (⟨y.2.text.toArray⟩ : ByteArray) = tb at a2 hcmp
      clear hK HX
      go_wp2_with fail
      go_meet
      exact ⟨rfl, rfl⟩
  case rest =>
    obtain ⟨rfl, hw⟩ := hcut
    subst hw
    clear hK
    go_wp2_with fail
    refine (name_is HNW (by omega) _).mono ?_
    rintro e w3 ⟨rfl, hb3⟩
    have hbel3 := hbel2.trans (hb3.mono hbel2.size)
    have hE3 := hE.below hbel3 hE.size
    clear hb3 hbel2 hE2
    go_wp2_with fail
    refine (keyword_is HKW _).mono ?_
    rintro e w3' ⟨rfl, rfl⟩
    have hbs := byte_str c w3
    go_wp2_with fail
    rw [HM.out]
    have hbel4 : Below w.heap.size w (w3.alloc (Obj.cells #[.int .u8 (c.toNat : Int)] 5)) := hbel3.alloc hbel3.size _
    have hE4 := hE.below hbel4 hE.size
    refine (line_kind HY (by omega) 0 _ hE4).mono ?_
    rintro e w5 ⟨hK0, hb5⟩
    obtain ⟨v14, v15, v16, rfl, hK⟩ := kind_tuple hK0
    have hbel5 := hbel4.trans (hb5.mono hbel4.size)
    clear hK0 hb5 hbel3 hE3 hbel4 hE4 hbs
    go_upto_region 9 with (fail)
    go_cut [17] (fun v17 wx => v17 = .bool bw ∧ wx = w5)
    case first =>
      have HW : Hid (wdI (c.toNat : Int) = bw) := by show _ = _; rw [wdI_byte]; exact HBW.out
      clear hK HX HOW HNW HKW HM HML HY HJO HNM HKM HBW F1 HF
      cases g95 : ((c.toNat : Int) == 95)
      all_goals
        go_wp2_with fail
        all_goals
          go_meet
          refine ⟨?_, rfl⟩
          rw [← HW.out]
          congr 1
          rw [Bool.eq_iff_iff]
          simp [wdI] at g95 ⊢ <;> omega
    case rest =>
      obtain ⟨rfl, hw⟩ := hcut
      subst hw
      go_upto_region 10 with (fail)
      go_cut [18] (fun v18 wx => v18 = .bool jo ∧ wx = wc)
      case first =>
        have hlen : mo.data.toList.length ≤ 1000 := by rw [size_list]; omega
        clear HX HOW HNW HKW HM HML HNM HKM HBW F1 HF hbel5
        match ky, hK, HY with
        | .error (p, er), hK, HX =>
          obtain ⟨rfl, rfl, rfl⟩ := ret3 hK
          have her := (lex_err (kind_err HX.out)).1
          have ger : ((er : Int) == 0) = false := by rcases her with rfl | rfl | rfl <;> decide
          have how : jo = false := by
            rw [← HJO.out]
            cases hw : Sp.wordy mo.data.toList with
            | false => rfl
            | true => have := kind_err HX.out; rw [Sp.lex_wordy hw] at this; cases this
          subst how
          clear her hK HX
          go_wp2_with fail
          go_meet
          exact ⟨rfl, rfl⟩
        | .ok (.inl n), ⟨pa, cap, hK⟩, HX =>
          obtain ⟨rfl, rfl, rfl⟩ := ret3 hK
          have hn := kind_many HX.out
          have gn : ((n : Int) == 1) = false := by simp; omega
          have how : jo = false := by rw [← HJO.out]; exact hn.2
          subst how
          clear hn hK HX
          go_wp2_with fail
          go_meet
          exact ⟨rfl, rfl⟩
        | .ok (.inr y), ⟨g, cap, hg, _, hK, a0, a1, a2, a3⟩, HX =>
          obtain ⟨rfl, rfl, rfl⟩ := ret3 hK
          have hcmp := fun wx => eql_tok wx y.2.kind (wrap64 (0 + (y.1 : Int))) y.2.num 1 0 0 ⟨y.2.text.toArray⟩ mo jo (by
            have := kind_one HX.out hlen
            rw [HJO.out, toArray_data] at this
            exact this)
          generalize wrap64 (0 + (y.1 : Int)) = z at a1 hcmp
          generalize (⟨y.2.text.toArray⟩ : ByteArray) = tb at a2 hcmp
          clear hK HX
          go_wp2_with fail
          go_meet
          exact ⟨rfl, rfl⟩
      case rest =>
        obtain ⟨rfl, hw⟩ := hcut
        subst hw
        clear hK HX HOW HNW HKW HM HML HJO HBW HF HY
        obtain ⟨f1, f2, f3, f4, f5⟩ := F1.out
        clear F1
        have hmo6 : mo.size ≤ 1000000 := by omega
        have HN := fun w => name_is HNM hmo6 w
        have HK := fun w => keyword_is HKM w
        clear HNM HKM
        have H1 := Lib.hid HN
        have H2 := Lib.hid HK
        clear HN HK
        cases ow with
        | false =>
          obtain ⟨rfl, rfl⟩ := b_ff f1
          clear f1 f2 f3 f4 f5
          go_wp2_with fail
          go_ret
          exact ⟨rfl, hbel5⟩
        | true =>
          obtain rfl := f3 rfl
          obtain rfl := b_t f1 f2
          clear f1 f2 f3
          cases nw
          all_goals
            cases jo with
            | false =>
              clear f4 f5
              go_wp2_with fail
              go_ret
              exact ⟨rfl, hbel5⟩
            | true =>
              obtain rfl := b_t f4 f5
              clear f4 f5
              cases nm
              all_goals
                go_wp2_with fail
                refine (H1.out _).mono ?_
                rintro e w6 ⟨rfl, hb6⟩
                have hbel6 := hbel5.trans (hb6.mono hbel5.size)
                go_wp2_with fail
                refine (H2.out _).mono ?_
                rintro e w7 ⟨rfl, rfl⟩
                go_wp2_with fail
                go_ret
                exact ⟨rfl, hbel6⟩
end lawNames
end Go.Proofs.YtfomjdaihoaipaaDoor
