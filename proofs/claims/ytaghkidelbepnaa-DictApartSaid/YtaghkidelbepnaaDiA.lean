/-
  Values and pairs in memory; two values held against each other, at this program.
-/
import Derived.Test.YtaghkidelbepnaaProg
import Derived.Test.YtaghkidelbepnaaDiP
import Derived.WalkKit
import Derived.BigCall
import Derived.WalkSpells
import Derived.WalkLawsBesides
import Derived.Below
import Derived.Lib.Hide
import Derived.Lib.Strings
import Derived.IntWalk
import Derived.OwnWalk
import Derived.BigQuiet
import Derived.BigRegion
import Derived.Deep.DeepCutAuto
import Derived.Deep.OwnRows
import Derived.Deep.AppendLies
import Derived.Deep.RegionHeld3
import Derived.Deep.RegionLaw
import Derived.Maps.AppendAt
import Derived.Laws.OwnMore
import Derived.Laws.MakeOwn
import Derived.Laws.AppendOwn
import Derived.Laws.AppendOwnNone
import Derived.RangeFuncBox
import Derived.Shelf.Abstract
set_option linter.unusedVariables false
set_option linter.unusedSimpArgs false
namespace Go.Proofs.Ytaghkidelbepnaa
open Go.RowKit
open Di

theorem ret_bool {a b : Bool} (h : a = b) : Ending.returned (.bool a) = .returned (.bool b) := by rw [h]
theorem hid_ex {α : Type} (a : α) : ∃ b, Hid (a = b) := ⟨a, show a = a from rfl⟩
abbrev cV (x : V) : List Value := [.int .i64 x.1, .int .i64 x.2.1, .string x.2.2]
abbrev vV (x : V) : Value := .agg #[.int .i64 x.1, .int .i64 x.2.1, .string x.2.2]
abbrev cP (p : Pr) : List Value := [.int .i64 p.1.1, .int .i64 p.1.2.1, .string p.1.2.2, .int .i64 p.2.1, .int .i64 p.2.2.1, .string p.2.2.2]
abbrev vP (p : Pr) : Value := .agg #[.int .i64 p.1.1, .int .i64 p.1.2.1, .string p.1.2.2, .int .i64 p.2.1, .int .i64 p.2.2.1, .string p.2.2.2]
theorem bytes_ext {s t : ByteArray} (h : s.data.toList = t.data.toList) : s = t := by
  apply ByteArray.ext; apply Array.ext'; exact h
theorem veq (k n k' n' : Int) (s s' : ByteArray) : (k == k' && (n == n' && s.toList == s'.toList)) = decide (((k, n, s) : V) = (k', n', s')) := by
  rw [Bool.eq_iff_iff]
  simp only [Bool.and_eq_true, beq_iff_eq, decide_eq_true_eq, Prod.mk.injEq, Lib.toList_data]
  constructor
  · rintro ⟨h1, h2, h3⟩; exact ⟨h1, h2, bytes_ext h3⟩
  · rintro ⟨h1, h2, h3⟩; exact ⟨h1, h2, by rw [h3]⟩
theorem neq_V (w : World) (x y : V) : (binOp .neq 32 (.agg #[.int .i64 x.1, .int .i64 x.2.1, .string x.2.2]) (.agg #[.int .i64 y.1, .int .i64 y.2.1, .string y.2.2])).run Try.prog w = .ok (.bool (!(decide (x = y)))) w := by
  obtain ⟨k, n, s⟩ := x
  obtain ⟨k', n', s'⟩ := y
  rw [← veq]
  have hu := Try.underlying32
  have hp : Try.prog.stoodInHeld 32 = false := by kernel_rfl
  have hf : Try.prog.fieldsOf 32 = #[{ name := "Kind", type := 3, offset := 0, embedded := false, tag := "", pkgPath := "", byteOffset := 0 },
          { name := "N", type := 2, offset := 1, embedded := false, tag := "", pkgPath := "", byteOffset := 8 },
          { name := "S", type := 9, offset := 2, embedded := false, tag := "", pkgPath := "", byteOffset := 16 }] := by simp [Program.fieldsOf, hu]
  have h := run_equalIn_agg (P := Try.prog) w 9999 32 #[.int .i64 k, .int .i64 n, .string s] #[.int .i64 k', .int .i64 n', .string s'] (by rw [hf]; exact hu) hp
  rw [run_neq_struct, show (10000 : Nat) = 9999 + 1 from rfl, h, hf]
  have e3 : ∀ d a b, (Op.equalIn (d + 1) 3 (.int .i64 a) (.int .i64 b)).run Try.prog w = .ok (a == b) w := fun d a b => run_equalIn_int w d 3 .i64 .i64 a b Try.underlying3
  have e2 : ∀ d a b, (Op.equalIn (d + 1) 2 (.int .i64 a) (.int .i64 b)).run Try.prog w = .ok (a == b) w := fun d a b => run_equalIn_int w d 2 .i64 .i64 a b Try.underlying2
  have e9 : ∀ d a b, (Op.equalIn (d + 1) 9 (.string a) (.string b)).run Try.prog w = .ok (a.toList == b.toList) w := fun d a b => run_equalIn_string w d 9 a b Try.underlying9
  have f3 := e3 9998
  have f2 := e2 9998
  have f9 := e9 9998
  simp [Op.eqFields, part, Try.isAgg3, Try.isAgg9, Try.isAgg2, f3, f2, f9]
  by_cases h1 : k = k' <;> by_cases h2 : n = n' <;> by_cases h3 : s.toList = s'.toList <;> simp [h1, h2, h3]
theorem eql_V (w : World) (x y : V) : (binOp .eql 32 (.agg #[.int .i64 x.1, .int .i64 x.2.1, .string x.2.2]) (.agg #[.int .i64 y.1, .int .i64 y.2.1, .string y.2.2])).run Try.prog w = .ok (.bool (decide (x = y))) w := by
  have h1 := neq_V w x y
  rw [run_neq_struct] at h1
  rw [run_eql_struct]
  generalize (Op.equalIn 10000 32 (.agg #[.int .i64 x.1, .int .i64 x.2.1, .string x.2.2]) (.agg #[.int .i64 y.1, .int .i64 y.2.1, .string y.2.2])).run Try.prog w = r at h1
  cases r with
  | ok v w' =>
    simp only [Result.andThen_ok, Result.ok.injEq, Value.bool.injEq] at h1 ⊢
    exact ⟨by simpa using h1.1, h1.2⟩
  | halt x w' => simp [Result.andThen] at h1

section
variable {α : Type} {sz : Nat} {cs : α → List Value}
theorem fl_at (hcs : ∀ x, (cs x).length = sz) (l : List α) (k j : Nat) (hj : j < sz) : (l.flatMap cs)[k * sz + j]? = (l[k]?).bind fun x => (cs x)[j]? := by
  induction l generalizing k with
  | nil => simp
  | cons x l ih =>
    rw [List.flatMap_cons]
    cases k with
    | zero =>
      rw [List.getElem?_append_left (by rw [hcs]; omega)]
      simp
    | succ k =>
      rw [List.getElem?_append_right (by rw [hcs, Nat.succ_mul]; omega)]
      have e : (k + 1) * sz + j - (cs x).length = k * sz + j := by rw [hcs, Nat.succ_mul]; omega
      rw [e, ih k]
      rfl
theorem fl_len (hcs : ∀ x, (cs x).length = sz) (l : List α) : (l.flatMap cs).length = l.length * sz := by
  induction l with
  | nil => simp
  | cons x l ih => rw [List.flatMap_cons, List.length_append, ih, hcs, List.length_cons, Nat.succ_mul]; omega
theorem fl_take (hcs : ∀ x, (cs x).length = sz) : ∀ (l : List α) (m : Nat), (l.flatMap cs).take (m * sz) = (l.take m).flatMap cs
  | [], m => by simp
  | x :: l, 0 => by simp
  | x :: l, m + 1 => by
    rw [List.flatMap_cons, List.take_succ_cons, List.flatMap_cons, ← fl_take hcs l m, Nat.succ_mul, List.take_append, hcs]
    rw [List.take_of_length_le (by rw [hcs]; omega)]
    congr 2
    omega
theorem fl_drop (hcs : ∀ x, (cs x).length = sz) : ∀ (l : List α) (m : Nat), (l.flatMap cs).drop (m * sz) = (l.drop m).flatMap cs
  | [], m => by simp
  | x :: l, 0 => by simp
  | x :: l, m + 1 => by
    rw [List.flatMap_cons, List.drop_succ_cons, ← fl_drop hcs l m, Nat.succ_mul, List.drop_append, hcs]
    rw [List.drop_of_length_le (by rw [hcs]; omega)]
    rw [List.nil_append]
    congr 1
    omega
/-- What a row of the call's own gives a walk. -/
theorem own_form (hcs : ∀ x, (cs x).length = sz) {B : Nat} {T : TypeId} {v : Value} {l : List α} {w : World} (h : w.ownsRow B T sz v l.length (l.flatMap cs)) : ∃ pa cap, v = .slice pa l.length cap ∧ ∀ k x, l[k]? = some x → ∃ g, pa = some ⟨g, 0, none⟩ ∧ g < w.heap.size ∧ B ≤ g ∧
    ∀ j u, (cs x)[j]? = some u → w.cell? ⟨g, k * sz + j, none⟩ = some u := by
  have hc := fun g hg j u hj => World.ownsRow.cells h (g := g) hg j u hj
  rcases h.2 with ⟨rfl, hn⟩ | ⟨g, cap, cur, rfl, hbg, hg, _⟩
  · refine ⟨none, 0, by rw [hn], fun k x hx => ?_⟩
    have : l = [] := List.eq_nil_of_length_eq_zero hn
    rw [this] at hx
    cases hx
  · refine ⟨some ⟨g, 0, none⟩, cap, rfl, fun k x hx => ⟨g, rfl, (Array.getElem?_eq_some_iff.1 hg).1, hbg, fun j u hu => ?_⟩⟩
    have hj : j < sz := by rw [← hcs x]; exact (List.getElem?_eq_some_iff.1 hu).1
    have a0 := hc g rfl (k * sz + j) u (by rw [fl_at hcs l k j hj, hx]; exact hu)
    unfold Addr.add at a0
    split at a0
    · rename_i e; rw [e]; exact a0
    · simpa using a0
end
/-- Only the blocks are changed of which P speaks, among those that were there. -/
structure But (P : Nat → Prop) (w w' : World) : Prop where
  os : w'.os = w.os
  tape : w'.tape = w.tape
  output : w'.output = w.output
  size : w.heap.size ≤ w'.heap.size
  block : ∀ k, k < w.heap.size → ¬ P k → w'.heap[k]? = w.heap[k]?
theorem But.refl (P : Nat → Prop) (w : World) : But P w w := ⟨rfl, rfl, rfl, Nat.le_refl _, fun _ _ _ => rfl⟩
theorem But.of_below {P : Nat → Prop} {w w' : World} (h : Below w.heap.size w w') : But P w w' := ⟨h.os, h.tape, h.output, h.size, fun k hk _ => h.block k hk⟩
theorem But.trans {P : Nat → Prop} {a b c : World} (h : But P a b) (k : But P b c) : But P a c :=
  ⟨k.os.trans h.os, k.tape.trans h.tape, k.output.trans h.output, Nat.le_trans h.size k.size, fun i hi hn => (k.block i (Nat.lt_of_lt_of_le hi h.size) hn).trans (h.block i hi hn)⟩
theorem But.mono {P Q : Nat → Prop} {a b : World} (h : But P a b) (hp : ∀ k, k < a.heap.size → P k → Q k) : But Q a b := ⟨h.os, h.tape, h.output, h.size, fun i hi hn => h.block i hi (fun e => hn (hp i hi e))⟩
theorem But.below {P : Nat → Prop} {B : Nat} {a b : World} (h : But P a b) (hB : B ≤ a.heap.size) (hp : ∀ k, k < B → ¬ P k) : Below B a b := ⟨h.os, h.tape, h.output, h.size, fun k hk => h.block k (by omega) (hp k hk)⟩
theorem But.setCell {P : Nat → Prop} {a b : World} (h : But P a b) {p : Addr} (hp : p.block < a.heap.size → P p.block) (u : Value) : But P a (b.setCell p u) :=
  ⟨h.os, h.tape, h.output, by rw [World.size_setCell]; exact h.size, fun k hk hn => (Below.heap_setCell _ _ _ k (fun e => hn (by rw [e]; exact hp (by rw [← e]; exact hk)))).trans (h.block k hk hn)⟩
theorem But.grown {P : Nat → Prop} {a b c : World} (h : But P a b) {r : Option Nat} (hg : b.grownBy c r) (hr : ∀ k, r = some k → k < a.heap.size → P k) : But P a c :=
  ⟨hg.os.trans h.os, hg.tape.trans h.tape, hg.output.trans h.output, Nat.le_trans h.size hg.size, fun k hk hn => (hg.block k (Nat.lt_of_lt_of_le hk h.size) (fun e => hn (hr k e.symm hk))).trans (h.block k hk hn)⟩
theorem But.alloc {P : Nat → Prop} {a b : World} (h : But P a b) (o : Obj) : But P a (b.alloc o) := h.trans (.of_below ((Below.refl _ b).alloc (Nat.le_refl _) o))
/-- A value that a machine can bear. -/
structure Vok (x : V) : Prop where
  k : -9223372036854775808 ≤ x.1 ∧ x.1 ≤ 9223372036854775807
  n : -9223372036854775808 ≤ x.2.1 ∧ x.2.1 ≤ 9223372036854775807
  s : x.2.2.size ≤ 140737488355328
abbrev ptrV (a : Nat) : Value := .pointer (some ⟨a, 0, none⟩)
end Go.Proofs.Ytaghkidelbepnaa
