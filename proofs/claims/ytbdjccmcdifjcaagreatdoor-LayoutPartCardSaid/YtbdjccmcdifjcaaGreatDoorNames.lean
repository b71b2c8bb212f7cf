/-
  A name, or a keyword, is one token, and nothing else is one whole name: the statement ScanNames holds for every input.
-/
import Derived.Test.YtbdjccmcdifjcaaGreatDoorF
import Derived.Test.YtbdjccmcdifjcaaGreatDoorA
import Derived.Deep.DeepCutAuto
set_option linter.unusedVariables false
set_option linter.unusedSimpArgs false
namespace Go.Proofs.YtbdjccmcdifjcaaGreatDoor
open Go.RowKit Go.Shelf

/-- How a line's answer can look: an error; no token or several; just one. -/
abbrev LineKind := Except (Nat × Int) (Sum Nat (Nat × Sp.Tk))
def kindOf (x : Except (Nat × Int) (List (Nat × Sp.Tk))) : LineKind :=
  match x with
  | .error y => .error y
  | .ok [y] => .ok (.inr y)
  | .ok l => .ok (.inl l.length)
/-- What Line answers, by the kind. -/
def KindEnd (B : Nat) (at_ : Int) (k : LineKind) (e : Ending) (w' : World) : Prop :=
  match k with
  | .error (p, er) => e = .returned (.tuple #[.slice none 0 0, .int .i64 (wrap64 (at_ + (p : Int))), .int .i64 er])
  | .ok (.inl n) => ∃ pa cap, e = .returned (.tuple #[.slice pa n cap, .int .i64 0, .int .i64 0])
  | .ok (.inr y) => ∃ g cap, g < w'.heap.size ∧ B ≤ g ∧ e = .returned (.tuple #[.slice (some ⟨g, 0, none⟩) 1 cap, .int .i64 0, .int .i64 0]) ∧
      w'.cell? ⟨g, 0, none⟩ = some (.int .i64 y.2.kind) ∧ w'.cell? ⟨g, 1, none⟩ = some (.int .i64 (wrap64 (at_ + (y.1 : Int)))) ∧ w'.cell? ⟨g, 2, none⟩ = some (.string ⟨y.2.text.toArray⟩) ∧ w'.cell? ⟨g, 3, none⟩ = some (.int .i64 y.2.num)

theorem kind_of {B : Nat} {at_ : Int} {x : Except (Nat × Int) (List (Nat × Sp.Tk))} {e : Ending} {w' : World} (h : LineEnd B at_ x e w') : KindEnd B at_ (kindOf x) e w' := by
  cases x with
  | error y => obtain ⟨p, er⟩ := y; exact h
  | ok ts =>
    obtain ⟨v, rfl, hr⟩ := h
    obtain ⟨pa, cap, rfl, hf⟩ := hr.row4.form
    match ts, hf with
    | [], hf => exact ⟨pa, cap, rfl⟩
    | [y], hf =>
      obtain ⟨g, rfl, hg, hB, a0, a1, a2, a3⟩ := hf 0 (abs4 at_ y) rfl
      simp only [Nat.zero_mul, Nat.zero_add] at a0 a1 a2 a3
      exact ⟨g, cap, hg, hB, rfl, a0, a1, a2, a3⟩
    | y :: z :: u, hf => exact ⟨pa, cap, by simp [kindOf]⟩

theorem line_kind {s : ByteArray} {k : LineKind} (h : Hid (kindOf (Sp.lex s.data.toList) = k)) (hs : s.size ≤ 60000) (at_ : Int) (w : World) (hE : Env w) :
    Calls Tryz.prog 39 #[.string s, .int .i64 at_] w fun e w' => KindEnd w.heap.size at_ k e w' ∧ Below w.heap.size w w' := by
  rw [← h.out]
  refine (line_any s hs at_ w hE).mono ?_
  rintro e w' ⟨h1, h2⟩
  exact ⟨kind_of h1, h2⟩

theorem eql_tok (w : World) (k a n k' a' n' : Int) (s s' : ByteArray) (b : Bool) (h : (k == k' && (a == a' && (s.toList == s'.toList && n == n'))) = b) :
    (binOp .eql 37 (.agg #[.int .i64 k, .int .i64 a, .string s, .int .i64 n]) (.agg #[.int .i64 k', .int .i64 a', .string s', .int .i64 n'])).run Tryz.prog w = .ok (.bool b) w := by
  have h1 := neq_tok w k a n k' a' n' s s'
  rw [h] at h1
  rw [run_neq_struct] at h1
  rw [run_eql_struct]
  generalize (Op.equalIn 10000 37 (.agg #[.int .i64 k, .int .i64 a, .string s, .int .i64 n]) (.agg #[.int .i64 k', .int .i64 a', .string s', .int .i64 n'])).run Tryz.prog w = r at h1
  cases r with
  | ok v w' =>
    simp only [Result.andThen_ok, Result.ok.injEq, Value.bool.injEq] at h1 ⊢
    exact ⟨by simpa using h1.1, h1.2⟩
  | halt x w' => simp [Result.andThen] at h1

theorem lex_err {l : Sp.Bs} {p : Nat} {er : Int} (h : Sp.lex l = .error (p, er)) : (er = 10 ∨ er = 11 ∨ er = 12) ∧ p < l.length := by
  have key : ∀ (f : Nat) (l : Sp.Bs) (pos : Nat), l.length ≤ f → Sp.lexAt pos l = .error (p, er) → (er = 10 ∨ er = 11 ∨ er = 12) ∧ pos ≤ p ∧ p < pos + l.length := by
    intro f
    induction f with
    | zero =>
      intro l pos hl h
      have : l = [] := by cases l with | nil => rfl | cons => simp at hl
      subst this
      cases h
    | succ f ih =>
      intro l pos hl h
      cases l with
      | nil => cases h
      | cons c r =>
        simp only [List.length_cons] at hl
        by_cases h32 : c.toNat = 32
        · rw [Sp.lexAt_blank _ _ _ h32] at h
          obtain ⟨h1, h2, h3⟩ := ih r (pos + 1) (by omega) h
          exact ⟨h1, by omega, by simp; omega⟩
        · by_cases h35 : c.toNat = 35
          · rw [Sp.lexAt_hash _ _ _ h35] at h; cases h
          · cases ht : Sp.tok1 (c :: r) with
            | error e =>
              rw [Sp.lexAt_err _ _ _ h32 h35 e ht] at h
              cases h
              exact ⟨Sp.tok1_err ht, Nat.le_refl _, by simp⟩
            | ok t =>
              rw [Sp.lexAt_tok _ _ _ h32 h35 t ht] at h
              have hs := Sp.tok1_size ht
              cases hr : Sp.lexAt (pos + t.size) ((c :: r).drop t.size) with
              | ok us => rw [hr] at h; cases h
              | error y =>
                rw [hr] at h
                cases h
                obtain ⟨h1, h2, h3⟩ := ih ((c :: r).drop t.size) (pos + t.size) (by simp; omega) hr
                simp only [List.length_drop] at h3
                exact ⟨h1, by omega, by omega⟩
  have := key l.length l 0 (Nat.le_refl _) h
  exact ⟨this.1, by omega⟩

theorem kind_err {l : Sp.Bs} {p : Nat} {er : Int} (h : kindOf (Sp.lex l) = .error (p, er)) : Sp.lex l = .error (p, er) := by
  cases hx : Sp.lex l with
  | error y => rw [hx] at h; cases h; rfl
  | ok ts =>
    rw [hx] at h
    match ts, h with
    | [], h => cases h
    | [_], h => cases h
    | _ :: _ :: _, h => cases h
theorem kind_many {l : Sp.Bs} {n : Nat} (h : kindOf (Sp.lex l) = .ok (.inl n)) : n ≠ 1 ∧ Sp.wordy l = false := by
  have hw : Sp.wordy l = false := by
    cases hw : Sp.wordy l with
    | false => rfl
    | true => rw [Sp.lex_wordy hw] at h; cases h
  refine ⟨?_, hw⟩
  cases hx : Sp.lex l with
  | error y => rw [hx] at h; cases h
  | ok ts =>
    rw [hx] at h
    match ts, h with
    | [], h => cases h; decide
    | [_], h => cases h
    | _ :: _ :: u, h => cases h; simp
theorem kind_one {l : Sp.Bs} {y : Nat × Sp.Tk} (h : kindOf (Sp.lex l) = .ok (.inr y)) (hl : l.length ≤ 1000) :
    ((y.2.kind : Int) == 1 && (wrap64 (0 + (y.1 : Int)) == 0 && ((⟨y.2.text.toArray⟩ : ByteArray).toList == (⟨l.toArray⟩ : ByteArray).toList && y.2.num == 0))) = Sp.wordy l := by
  have hx : Sp.lex l = .ok [y] := by
    cases hx : Sp.lex l with
    | error z => rw [hx] at h; cases h
    | ok ts =>
      rw [hx] at h
      match ts, h with
      | [], h => cases h
      | [_], h => cases h; rfl
      | _ :: _ :: u, h => cases h
  rw [Sp.toList_data, Sp.toList_data, mk_list, mk_list]
  cases hw : Sp.wordy l with
  | true =>
    rw [Sp.lex_wordy hw] at hx
    cases hx
    simp [wrap64]
  | false =>
    rw [Bool.eq_false_iff]
    intro hc
    simp at hc
    have := Sp.wordy_of_lex (p := y.1) (t := y.2) hx hc.1 hc.2.2.1
    rw [this] at hw
    cases hw

theorem kind_tuple {B : Nat} {at_ : Int} {k : LineKind} {e : Ending} {w' : World} (h : KindEnd B at_ k e w') : ∃ v7 v8 v9, e = .returned (.tuple #[v7, v8, v9]) ∧ KindEnd B at_ k (.returned (.tuple #[v7, v8, v9])) w' := by
  match k, h with
  | .error (p, er), h => exact ⟨_, _, _, h, rfl⟩
  | .ok (.inl n), ⟨pa, cap, h⟩ => exact ⟨_, _, _, h, pa, cap, rfl⟩
  | .ok (.inr y), ⟨g, cap, h1, h2, h3, h4⟩ => exact ⟨_, _, _, h3, g, cap, h1, h2, rfl, h4⟩
theorem ret3 {a b c a' b' c' : Value} (h : Ending.returned (.tuple #[a, b, c]) = .returned (.tuple #[a', b', c'])) : a = a' ∧ b = b' ∧ c = c' := by
  simp at h
  exact h

namespace lawNames
theorem byte_str (c : UInt8) (w : World) : (convert 86 9 (.slice (some ⟨w.heap.size, 0, none⟩) 1 1)).run Tryz.prog (w.alloc (Obj.cells #[.int .u8 (c.toNat : Int)] 5)) = .ok (.string ⟨#[c]⟩) (w.alloc (Obj.cells #[.int .u8 (c.toNat : Int)] 5)) := by
  have h := run_convert_bytes_back (P := Tryz.prog) (w.alloc (Obj.cells #[.int .u8 (c.toNat : Int)] 5)) 86 9 5 ⟨w.heap.size, 0, none⟩ 1 [c] Tryz.underlying86 Tryz.underlying5 Tryz.underlying9
  exact h (by
    intro j hj
    have hj0 : j = 0 := by simp at hj; exact hj
    subst hj0
    simp [Addr.add])
theorem b_ff {a b : Bool} (h : false = (a || b)) : a = false ∧ b = false := by cases a <;> cases b <;> simp at h ⊢
theorem b_t {a b : Bool} (h : true = (a || b)) (h2 : (a && b) = false) : b = !a := by cases a <;> cases b <;> simp at h h2 ⊢
end lawNames
end Go.Proofs.YtbdjccmcdifjcaaGreatDoor
