/-
  How two rows of tokens are held against each other, at this program.
-/
import Derived.Test.YtbdjccmcdifjcaaGreatDoorY
import Derived.Laws.StructEq
import Derived.Deep.QuietTactic
import Derived.BigQuiet
set_option linter.unusedVariables false
set_option linter.unusedSimpArgs false
namespace Go.Proofs.YtbdjccmcdifjcaaGreatDoor
open Go.RowKit Go.Shelf

theorem neq_tok (w : World) (k a n k' a' n' : Int) (s s' : ByteArray) :
    (binOp .neq 37 (.agg #[.int .i64 k, .int .i64 a, .string s, .int .i64 n]) (.agg #[.int .i64 k', .int .i64 a', .string s', .int .i64 n'])).run Tryz.prog w =
      .ok (.bool (!(k == k' && (a == a' && (s.toList == s'.toList && n == n'))))) w := by
  have hu := Tryz.underlying37
  have hp : Tryz.prog.stoodInHeld 37 = false := by kernel_rfl
  have hf : Tryz.prog.fieldsOf 37 = #[{ name := "Kind", type := 3, offset := 0, embedded := false, tag := "", pkgPath := "", byteOffset := 0 },
          { name := "At", type := 3, offset := 1, embedded := false, tag := "", pkgPath := "", byteOffset := 8 },
          { name := "Text", type := 9, offset := 2, embedded := false, tag := "", pkgPath := "", byteOffset := 16 },
          { name := "N", type := 2, offset := 3, embedded := false, tag := "", pkgPath := "", byteOffset := 32 }] := by simp [Program.fieldsOf, hu]
  have h := run_equalIn_agg (P := Tryz.prog) w 9999 37 #[.int .i64 k, .int .i64 a, .string s, .int .i64 n] #[.int .i64 k', .int .i64 a', .string s', .int .i64 n'] (by rw [hf]; exact hu) hp
  rw [run_neq_struct, show (10000 : Nat) = 9999 + 1 from rfl, h, hf]
  have e3 : ∀ d a b, (Op.equalIn (d + 1) 3 (.int .i64 a) (.int .i64 b)).run Tryz.prog w = .ok (a == b) w := fun d a b => run_equalIn_int w d 3 .i64 .i64 a b Tryz.underlying3
  have e2 : ∀ d a b, (Op.equalIn (d + 1) 2 (.int .i64 a) (.int .i64 b)).run Tryz.prog w = .ok (a == b) w := fun d a b => run_equalIn_int w d 2 .i64 .i64 a b Tryz.underlying2
  have e9 : ∀ d a b, (Op.equalIn (d + 1) 9 (.string a) (.string b)).run Tryz.prog w = .ok (a.toList == b.toList) w := fun d a b => run_equalIn_string w d 9 a b Tryz.underlying9
  have f3 := e3 9998
  have f2 := e2 9998
  have f9 := e9 9998
  simp [Op.eqFields, part, Tryz.isAgg3, Tryz.isAgg9, Tryz.isAgg2, f3, f2, f9]
  by_cases h1 : k = k' <;> by_cases h2 : a = a' <;> by_cases h3 : s.toList = s'.toList <;> by_cases h4 : n = n' <;> simp [h1, h2, h3, h4]

/-- A token as it lies in a row: kind, place, text, number. -/
abbrev T4 := Int × Int × Sp.Bs × Int
def c4 (x : T4) : List Value := [.int .i64 x.1, .int .i64 x.2.1, .string ⟨x.2.2.1.toArray⟩, .int .i64 x.2.2.2]
def abs4 (at_ : Int) (x : Nat × Sp.Tk) : T4 := (x.2.kind, wrap64 (at_ + (x.1 : Int)), x.2.text, x.2.num)
/-- Value v is a row of these tokens. -/
def Row4 (B : Nat) (v : Value) (l : List T4) (w : World) : Prop := w.ownsRow B 37 4 v l.length (l.flatMap c4)

theorem rowCells_abs (at_ : Int) (ts : List (Nat × Sp.Tk)) : rowCells at_ ts = (ts.map (abs4 at_)).flatMap c4 := by
  unfold rowCells
  rw [List.flatMap_map]
  rfl
theorem TokRow.row4 {B : Nat} {at_ : Int} {v : Value} {ts : List (Nat × Sp.Tk)} {w : World} (h : TokRow B at_ v ts w) : Row4 B v (ts.map (abs4 at_)) w := by
  unfold Row4
  rw [List.length_map, ← rowCells_abs]
  exact h
theorem Row4.below {B : Nat} {v : Value} {l : List T4} {w w' : World} (h : Row4 B v l w) (k : Below w.heap.size w w') : Row4 B v l w' := by
  refine ⟨h.1, ?_⟩
  rcases h.2 with hn | ⟨g, cap, cur, hv, hbg, hg, rest⟩
  · exact .inl hn
  · exact .inr ⟨g, cap, cur, hv, hbg, (k.block g (heap_of_some hg)).trans hg, rest⟩
theorem c4_at (l : List T4) (k j : Nat) (hj : j < 4) : (l.flatMap c4)[k * 4 + j]? = (l[k]?).bind fun x => (c4 x)[j]? := by
  induction l generalizing k with
  | nil => simp
  | cons x l ih =>
    rw [List.flatMap_cons]
    cases k with
    | zero =>
      rw [List.getElem?_append_left (by simp [c4]; omega)]
      simp
    | succ k =>
      rw [List.getElem?_append_right (by simp [c4]; omega)]
      have e : (k + 1) * 4 + j - (c4 x).length = k * 4 + j := by simp [c4]; omega
      rw [e, ih k]
      rfl
/-- What a row gives a walk. -/
theorem Row4.form {B : Nat} {v : Value} {l : List T4} {w : World} (h : Row4 B v l w) : ∃ pa cap, v = .slice pa l.length cap ∧ ∀ k x, l[k]? = some x → ∃ g, pa = some ⟨g, 0, none⟩ ∧ g < w.heap.size ∧ B ≤ g ∧
    w.cell? ⟨g, k * 4, none⟩ = some (.int .i64 x.1) ∧ w.cell? ⟨g, k * 4 + 1, none⟩ = some (.int .i64 x.2.1) ∧ w.cell? ⟨g, k * 4 + 2, none⟩ = some (.string ⟨x.2.2.1.toArray⟩) ∧ w.cell? ⟨g, k * 4 + 3, none⟩ = some (.int .i64 x.2.2.2) := by
  have hc := fun g hg j u hj => World.ownsRow.cells h (g := g) hg j u hj
  rcases h.2 with ⟨rfl, hn⟩ | ⟨g, cap, cur, rfl, hbg, hg, _⟩
  · refine ⟨none, 0, by rw [hn], fun k x hx => ?_⟩
    have : l = [] := List.eq_nil_of_length_eq_zero hn
    rw [this] at hx
    cases hx
  · refine ⟨some ⟨g, 0, none⟩, cap, rfl, fun k x hx => ⟨g, rfl, heap_of_some hg, hbg, ?_⟩⟩
    have at0 := fun j (hj : j < 4) u (hu : (c4 x)[j]? = some u) => hc g rfl (k * 4 + j) u (by rw [c4_at l k j hj, hx]; exact hu)
    have a0 := at0 0 (by omega) _ rfl
    have a1 := at0 1 (by omega) _ rfl
    have a2 := at0 2 (by omega) _ rfl
    have a3 := at0 3 (by omega) _ rfl
    simp only [Addr.add_lit, Nat.zero_add, Nat.add_zero] at a0 a1 a2 a3
    exact ⟨a0, a1, a2, a3⟩

theorem same_cmp (x y : T4) (w : World) : (binOp .neq 37 (.agg #[.int .i64 x.1, .int .i64 x.2.1, .string ⟨x.2.2.1.toArray⟩, .int .i64 x.2.2.2]) (.agg #[.int .i64 y.1, .int .i64 y.2.1, .string ⟨y.2.2.1.toArray⟩, .int .i64 y.2.2.2])).run Tryz.prog w =
      .ok (.bool (!(decide (x = y)))) w := by
  rw [neq_tok]
  obtain ⟨a, b, c, d⟩ := x
  obtain ⟨a', b', c', d'⟩ := y
  rw [Sp.toList_data, Sp.toList_data, mk_list, mk_list]
  congr 3
  rw [Bool.eq_iff_iff]
  simp

end Go.Proofs.YtbdjccmcdifjcaaGreatDoor
