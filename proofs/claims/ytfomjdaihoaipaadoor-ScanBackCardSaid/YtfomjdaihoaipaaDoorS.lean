/-
  How two rows of tokens are held against each other, at this program.
-/
import Derived.Test.YtfomjdaihoaipaaDoorY
import Derived.Laws.StructEq
import Derived.Deep.QuietTactic
import Derived.BigQuiet
set_option linter.unusedVariables false
set_option linter.unusedSimpArgs false
namespace Go.Proofs.YtfomjdaihoaipaaDoor
open Go.RowKit Go.Shelf

theorem neq_tok (w : World) (k a n k' a' n' : Int) (s s' : ByteArray) :
    (binOp .neq 36 (.agg #[.int .i64 k, .int .i64 a, .string s, .int .i64 n]) (.agg #[.int .i64 k', .int .i64 a', .string s', .int .i64 n'])).run Tryd.prog w =
      .ok (.bool (!(k == k' && (a == a' && (s.toList == s'.toList && n == n'))))) w := by
  have hu := Tryd.underlying36
  have hp : Tryd.prog.stoodInHeld 36 = false := by kernel_rfl
  have hf : Tryd.prog.fieldsOf 36 = #[{ name := "Kind", type := 3, offset := 0, embedded := false, tag := "", pkgPath := "", byteOffset := 0 },
          { name := "At", type := 3, offset := 1, embedded := false, tag := "", pkgPath := "", byteOffset := 8 },
          { name := "Text", type := 9, offset := 2, embedded := false, tag := "", pkgPath := "", byteOffset := 16 },
          { name := "N", type := 2, offset := 3, embedded := false, tag := "", pkgPath := "", byteOffset := 32 }] := by simp [Program.fieldsOf, hu]
  have h := run_equalIn_agg (P := Tryd.prog) w 9999 36 #[.int .i64 k, .int .i64 a, .string s, .int .i64 n] #[.int .i64 k', .int .i64 a', .string s', .int .i64 n'] (by rw [hf]; exact hu) hp
  rw [run_neq_struct, show (10000 : Nat) = 9999 + 1 from rfl, h, hf]
  have e3 : ∀ d a b, (Op.equalIn (d + 1) 3 (.int .i64 a) (.int .i64 b)).run Tryd.prog w = .ok (a == b) w := fun d a b => run_equalIn_int w d 3 .i64 .i64 a b Tryd.underlying3
  have e2 : ∀ d a b, (Op.equalIn (d + 1) 2 (.int .i64 a) (.int .i64 b)).run Tryd.prog w = .ok (a == b) w := fun d a b => run_equalIn_int w d 2 .i64 .i64 a b Tryd.underlying2
  have e9 : ∀ d a b, (Op.equalIn (d + 1) 9 (.string a) (.string b)).run Tryd.prog w = .ok (a.toList == b.toList) w := fun d a b => run_equalIn_string w d 9 a b Tryd.underlying9
  have f3 := e3 9998
  have f2 := e2 9998
  have f9 := e9 9998
  simp [Op.eqFields, part, Tryd.isAgg3, Tryd.isAgg9, Tryd.isAgg2, f3, f2, f9]
  by_cases h1 : k = k' <;> by_cases h2 : a = a' <;> by_cases h3 : s.toList = s'.toList <;> by_cases h4 : n = n' <;> simp [h1, h2, h3, h4]

/-- A token as it lies in a row: kind, place, text, number. -/
abbrev T4 := Int × Int × Sp.Bs × Int
def c4 (x : T4) : List Value := [.int .i64 x.1, .int .i64 x.2.1, .string ⟨x.2.2.1.toArray⟩, .int .i64 x.2.2.2]
def abs4 (at_ : Int) (x : Nat × Sp.Tk) : T4 := (x.2.kind, wrap64 (at_ + (x.1 : Int)), x.2.text, x.2.num)
/-- Value v is a row of these tokens. -/
def Row4 (B : Nat) (v : Value) (l : List T4) (w : World) : Prop := w.ownsRow B 36 4 v l.length (l.flatMap c4)

theorem rowCells_abs (at_ : Int) (ts : List (Nat × Sp.Tk)) : rowCells at_ ts = (ts.map (abs4 at_)).flatMap c4 := by
  unfold rowCells
  rw [List.flatMap_map]
  rfl
theorem TokRow.row4 {B : Nat} {at_ : Int} {v : Value} {ts : List (Nat × Sp.Tk)} {w : World} (h : TokRow B at_ v ts w) : Row4 B v (ts.map (abs4 at_)) w := by
  unfold Row4
  rw [List.length_map, ← rowCells_abs]
  exact h
theorem Row4.below {B : Nat} {v : Value} {l : List T4} {w w' : World} (h : Row4 B v l w) (k : Below w.heap.size w w') : Row4 B v l w' := by
  refine ⟨h.1, ?_⟩
  rcases h.2 with hn | ⟨g, cap, cur, hv, hbg, hg, rest⟩
  · exact .inl hn
  · exact .inr ⟨g, cap, cur, hv, hbg, (k.block g (heap_of_some hg)).trans hg, rest⟩
theorem c4_at (l : List T4) (k j : Nat) (hj : j < 4) : (l.flatMap c4)[k * 4 + j]? = (l[k]?).bind fun x => (c4 x)[j]? := by
  induction l generalizing k with
  | nil => simp
  | cons x l ih =>
    rw [List.flatMap_cons]
    cases k with
    | zero =>
      rw [List.getElem?_append_left (by simp [c4]; omega)]
      simp
    | succ k =>
      rw [List.getElem?_append_right (by simp [c4]; omega)]
      have e : (k + 1) * 4 + j - (c4 x).length = k * 4 + j := by simp [c4]; omega
      rw [e, ih k]
      rfl
/-- What a row gives a walk. -/
theorem Row4.form {B : Nat} {v : Value} {l : List T4} {w : World} (h : Row4 B v l w) : ∃ pa cap, v = .slice pa l.length cap ∧ ∀ k x, l[k]? = some x → ∃ g, pa = some ⟨g, 0, none⟩ ∧ g < w.heap.size ∧ B ≤ g ∧
    w.cell? ⟨g, k * 4, none⟩ = some (.int .i64 x.1) ∧ w.cell? ⟨g, k * 4 + 1, none⟩ = some (.int .i64 x.2.1) ∧ w.cell? ⟨g, k * 4 + 2, none⟩ = some (.string ⟨x.2.2.1.toArray⟩) ∧ w.cell? ⟨g, k * 4 + 3, none⟩ = some (.int .i64 x.2.2.2) := by
  have hc := fun g hg j u hj => World.ownsRow.cells h (g := g) hg j u hj
  rcases h.2 with ⟨rfl, hn⟩ | ⟨g, cap, cur, rfl, hbg, hg, _⟩
  · refine ⟨none, 0, by rw [hn], fun k x hx => ?_⟩
    have : l = [] := List.eq_nil_of_length_eq_zero hn
    rw [this] at hx
    cases hx
  · refine ⟨some ⟨g, 0, none⟩, cap, rfl, fun k x hx => ⟨g, rfl, heap_of_some hg, hbg, ?_⟩⟩
    have at0 := fun j (hj : j < 4) u (hu : (c4 x)[j]? = some u) => hc g rfl (k * 4 + j) u (by rw [c4_at l k j hj, hx]; exact hu)
    have a0 := at0 0 (by omega) _ rfl
    have a1 := at0 1 (by omega) _ rfl
    have a2 := at0 2 (by omega) _ rfl
    have a3 := at0 3 (by omega) _ rfl
    simp only [Addr.add_lit, Nat.zero_add, Nat.add_zero] at a0 a1 a2 a3
    exact ⟨a0, a1, a2, a3⟩

theorem same_cmp (x y : T4) (w : World) : (binOp .neq 36 (.agg #[.int .i64 x.1, .int .i64 x.2.1, .string ⟨x.2.2.1.toArray⟩, .int .i64 x.2.2.2]) (.agg #[.int .i64 y.1, .int .i64 y.2.1, .string ⟨y.2.2.1.toArray⟩, .int .i64 y.2.2.2])).run Tryd.prog w =
      .ok (.bool (!(decide (x = y)))) w := by
  rw [neq_tok]
  obtain ⟨a, b, c, d⟩ := x
  obtain ⟨a', b', c', d'⟩ := y
  rw [Sp.toList_data, Sp.toList_data, mk_list, mk_list]
  congr 3
  rw [Bool.eq_iff_iff]
  simp

set_option maxHeartbeats 2000000 in
theorem same_any (B B' : Nat) (va vb : Value) (l m : List T4) (w : World) (ha : Row4 B va l w) (hb : Row4 B' vb m w) (hl : l.length ≤ 1000000) (hm : m.length ≤ 1000000) :
    Calls Tryd.prog 21 #[va, vb] w fun e w' => e = .returned (.bool (decide (l = m))) ∧ Below w.heap.size w w' := by
  obtain ⟨pa, ca, rfl, fa⟩ := ha.form
  obtain ⟨pb, cb, rfl, fb⟩ := hb.form
  by_cases hlen : l.length = m.length
  · have gl : ((l.length : Int) != (m.length : Int)) = false := by simp; omega
    have hlm : Hid (l.length = m.length) := hlen
    have hle : l.length ≤ m.length := by omega
    have FA := Lib.hid fa
    have FB := Lib.hid fb
    clear fa fb hlen ha hb
    go_enter Tryd.func21, Tryd.ntmps21
    go_wp2_with fail
    go_loopw [5] (fun i wr => ∃ k : Nat, i = .int .i64 k ∧ k ≤ l.length ∧ Hid (l.take k = m.take k) ∧ ∃ q, wr = w.drewN q) (fun i wr => l.length - (intOf i).toNat)
    case atStart => exact ⟨0, rfl, Nat.zero_le _, rfl, 0, rfl⟩
    case round =>
      obtain ⟨k, rfl, hk, HT, q, rfl⟩ := hrel
      by_cases hlt : k < l.length
      · have hkm : k < m.length := by omega
        obtain ⟨x, hx⟩ : ∃ x, l[k]? = some x := ⟨_, List.getElem?_eq_getElem hlt⟩
        obtain ⟨y, hy⟩ : ∃ y, m[k]? = some y := ⟨_, List.getElem?_eq_getElem hkm⟩
        obtain ⟨ga, rfl, hga, _, a0, a1, a2, a3⟩ := FA.out k x hx
        obtain ⟨gb, rfl, hgb, _, b0, b1, b2, b3⟩ := FB.out k y hy
        have hcmp := fun w => same_cmp x y w
        cases hxy : decide (x = y) with
        | true =>
          rw [hxy] at hcmp
          have HN : Hid (l.take (k + 1) = m.take (k + 1)) := by
            have e : x = y := by simpa using hxy
            show _ = _
            rw [List.take_add_one, List.take_add_one, HT.out, hx, hy, e]
          clear hxy hx hy FA FB HT hga hgb
          go_wp2_with fail
          go_quiet (fail)
          go_wp2_with fail
          refine ⟨⟨k + 1, by go_num, by omega, HN, _, rfl⟩, by simp [intOf]; omega⟩
        | false =>
          rw [hxy] at hcmp
          have HN : Hid (decide (l = m) = false) := by
            have e : x ≠ y := by simpa using hxy
            show _ = _
            simp
            intro h
            rw [h, hy] at hx
            exact e (Option.some.inj hx).symm
          clear hxy hx hy FA FB HT hga hgb
          go_wp2_with fail
          go_quiet (fail)
          go_wp2_with fail
          go_ret
          exact ⟨ret_bool HN.out.symm, below_drewN (below_drewN (Below.refl _ _) _) _⟩
      · have HN : Hid (decide (l = m) = true) := by
          show _ = _
          have h1 := HT.out
          rw [List.take_of_length_le (by omega), List.take_of_length_le (by have := hlm.out; omega)] at h1
          simp [h1]
        clear FA FB HT
        go_wp2_with fail
        go_ret
        exact ⟨ret_bool HN.out.symm, below_drewN (Below.refl _ _) _⟩
  · have gl : ((l.length : Int) != (m.length : Int)) = true := by simp; omega
    have hne : Hid (decide (l = m) = false) := by show _ = _; simp; intro h; exact hlen (by rw [h])
    rw [hne.out]
    clear hlen fa fb ha hb
    go_enter Tryd.func21, Tryd.ntmps21
    go_wp2_with fail
    go_ret
    exact ⟨rfl, Below.refl _ _⟩
end Go.Proofs.YtfomjdaihoaipaaDoor
