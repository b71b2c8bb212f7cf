/-
  A row of integers, or of truths, that came in: opened.
-/
import Derived.Test.YtbdjccmcdifjcaaDoorP
import Derived.Deep.Slices
import Derived.Carry
import Derived.Laws.Bits128
set_option linter.unusedVariables false
set_option linter.unusedSimpArgs false
namespace Go.Proofs.YtbdjccmcdifjcaaDoor
open Go.ChangeShapes Go.WideShapes Go.ChangeAt Go.WideMaps Go.WideElems Go.RowKit Go.Deep

namespace A2
theorem cell_block {w : World} {a : Addr} {v : Value} (h : w.cell? a = some v) : a.block < w.heap.size ∧ a.spot = none := by
  unfold World.cell? at h
  split at h
  · rename_i he
    refine ⟨heap_of_some he, ?_⟩
    split at h
    · cases h
    · rename_i hs; simpa using hs
  · cases h
theorem plain_addr {a : Addr} (h : a.spot = none) : a = ⟨a.block, a.off, none⟩ := by
  cases a
  simp at h
  subst h
  rfl

/-- The answer true, the arguments as they read before, no older cell turned: what a law's row asks, of arguments that lead to memory too. -/
theorem post_true_at {H : Type} {enc : TypeId × Value → H} {f : Func} {s : ChangeSpec} {W W' : World} {args : Array Value} {ds : List (DataW H)} {before : List MemPlace}
    (hW : DataW.Whole enc Tryd.prog f.params.toList s.vars false W args.toList ds [] before)
    (hrt : f.resultTypes = #[4]) (hres : (s.fn H (ds ++ [])).results = [.lit (.bool true)]) (hfa : (s.fn H (ds ++ [])).args = ds) (hfv : (s.fn H (ds ++ [])).vars = []) (hsv : s.vars = [])
    (hargs : DataW.TrodAll enc Tryd.prog W' 0 (fun b => decide (b < W.heap.size)) true f.params.toList args.toList ds before)
    (hb : Below W.heap.size W W') :
    s.post enc Tryd.prog f false true false false W args (.bool true) W' := by
  have hr : ∀ (b : Nat) (sp : Nat → Bool) (hd : Bool), DataW.TrodAll enc Tryd.prog W' b sp hd f.resultTypes.toList ((Value.bool true).resultList f.resultTypes.size) (s.fn H (ds ++ [])).results [] := by
    intro b sp hd
    rw [hrt, hres]
    exact trodAll_mk1 (shut_bool Tryd.underlying4 _)
  exact ⟨ds, [], before, [], before, [], hW, hr _ _ _, by rw [hfa]; exact hargs, by rw [hfv, hsv]; rfl, World.keptBut_mono (fun p hp => ⟨hp, Or.inr (Or.inl hp)⟩) (hb.frame (· ∈ before)), fun h => by cases h⟩
theorem laidOut : laidOutB Tryd.prog = true := by kernel_rfl
end A2
open A2
/-- A row of cells that came in, one cell each. -/
def Arg1 {α : Type} (f : α → Value) (v : Value) (l : List α) (w : World) : Prop := ∃ pa cap, v = .slice pa l.length cap ∧ ∀ k c, l[k]? = some c → ∃ g o, pa = some ⟨g, o, none⟩ ∧ g < w.heap.size ∧ w.cell? ⟨g, o + k, none⟩ = some (f c)
theorem Arg1.below {α : Type} {f : α → Value} {v : Value} {l : List α} {w w' : World} (h : Arg1 f v l w) (hb : Below w.heap.size w w') : Arg1 f v l w' := by
  obtain ⟨pa, cap, e, hc⟩ := h
  refine ⟨pa, cap, e, fun k c hk => ?_⟩
  obtain ⟨g, o, e2, hg, a0⟩ := hc k c hk
  exact ⟨g, o, e2, Nat.lt_of_lt_of_le hg hb.size, (hb.cell (p := ⟨g, _, none⟩) hg).trans a0⟩

theorem i64_and65535 (n : Int) : bits .and .i64 n 65535 = n % 65536 := by
  have h1 : (BitVec.ofInt 64 65535).toNat = 2 ^ 16 - 1 := by decide
  have key : (BitVec.ofInt 64 n &&& BitVec.ofInt 64 65535).toNat = (n % ((2 ^ 64 : Nat) : Int)).toNat % 2 ^ 16 := by
    rw [BitVec.toNat_and, BitVec.toNat_ofInt, h1, Nat.and_two_pow_sub_one_eq_mod]
  show IntKind.i64.wrap ((BitVec.ofInt 64 n &&& BitVec.ofInt 64 65535).toNat : Nat) = n % 65536
  rw [key, IntKind.wrap_i64]
  omega

theorem cell_row {α : Type} {f : α → Value} {W : World} {a0 : Option Addr} {len0 cap0 : Nat} (each : ∀ a, a0 = some a → ∀ i, i < len0 → ∃ c : α, W.cell? (a.add i) = some (f c)) (hn : a0 = none → len0 = 0) (d : α) : ∃ l : List α, Arg1 f (.slice a0 len0 cap0) l W ∧ l.length = len0 := by
  cases a0 with
  | none =>
    obtain rfl := hn rfl
    exact ⟨[], ⟨none, cap0, rfl, fun k x hx => by simp at hx⟩, rfl⟩
  | some a =>
    haveI : Inhabited α := ⟨d⟩
    obtain ⟨X, hX⟩ := choose_lt (α := α) (p := fun i c => W.cell? (a.add i) = some (f c)) (each a rfl)
    refine ⟨(List.range len0).map X, ⟨some a, cap0, by simp, ?_⟩, by simp⟩
    intro k c hk
    have hkl : k < len0 := by
      have := (List.getElem?_eq_some_iff.1 hk).1
      simpa using this
    rw [List.getElem?_map, List.getElem?_range hkl] at hk
    simp at hk
    subst hk
    have h0 := hX k hkl
    have hz := hX 0 (by omega)
    rw [Addr.add_zero'] at hz
    obtain ⟨hb, hsp⟩ := cell_block hz
    have ha := plain_addr hsp
    generalize a.block = g at ha hb
    generalize a.off = o at ha
    subst ha
    rw [add_plain] at h0
    exact ⟨g, o, rfl, hb, h0⟩

set_option maxRecDepth 100000 in
theorem ints_of {H : Type} {enc : TypeId × Value → H} {W : World} {r : Reach} {b0 : Nat} {v : Value} {d : DataW H} {ps : List MemPlace} (hval : Value.okWide Tryd.prog W r b0 22 v) (h : DataW.Trod enc Tryd.prog W 0 (fun _ => true) true 22 v d ps) :
    ∃ l : List Int, Arg1 (fun n => Value.int .i64 n) v l W ∧ l.length ≤ maxLen := by
  obtain ⟨a0, len0, cap0, rfl⟩ := okWide_slice Tryd.underlying22 hval
  obtain ⟨fuel, hf⟩ := h
  have e : (Value.slice a0 len0 cap0).cells.toList = [Value.slice a0 len0 cap0] := rfl
  rw [e] at hf
  have c5 : Tryd.prog.cellsOf 3 = 1 := by kernel_rfl
  rcases open_slice1 Tryd.underlying22 c5 hf with ⟨hcs, _⟩ | ⟨a, len, cap, m, n, V, D, Pl, hcs, _, hlc, hm, hmm, _, hx⟩
  · cases hcs
    exact ⟨[], ⟨none, 0, rfl, fun k x hx => by simp at hx⟩, Nat.zero_le _⟩
  · cases hcs
    rw [if_pos rfl] at hmm
    have each : ∀ i, i < len0 → ∃ c : Int, W.cell? (a.add i) = some (.int .i64 c) := by
      intro i hi
      obtain ⟨h1, h2⟩ := hx i (by omega)
      obtain ⟨n0, q0, _, hw⟩ := DataW.trod_int Tryd.underlying3 h2
      refine ⟨n0, ?_⟩
      rw [h1]
      have := (List.cons.inj q0).1
      rw [this]
    obtain ⟨l, hl, hle⟩ := cell_row (f := fun n => Value.int .i64 n) (cap0 := cap0) (a0 := some a) (fun a' ha' i hi => by cases ha'; exact each i hi) (fun h => by cases h) 0
    exact ⟨l, hl, by omega⟩
set_option maxRecDepth 100000 in
theorem bools_of {H : Type} {enc : TypeId × Value → H} {W : World} {r : Reach} {b0 : Nat} {v : Value} {d : DataW H} {ps : List MemPlace} (hval : Value.okWide Tryd.prog W r b0 23 v) (h : DataW.Trod enc Tryd.prog W 0 (fun _ => true) true 23 v d ps) :
    ∃ l : List Bool, Arg1 Value.bool v l W ∧ l.length ≤ maxLen := by
  obtain ⟨a0, len0, cap0, rfl⟩ := okWide_slice Tryd.underlying23 hval
  obtain ⟨fuel, hf⟩ := h
  have e : (Value.slice a0 len0 cap0).cells.toList = [Value.slice a0 len0 cap0] := rfl
  rw [e] at hf
  have c5 : Tryd.prog.cellsOf 4 = 1 := by kernel_rfl
  rcases open_slice1 Tryd.underlying23 c5 hf with ⟨hcs, _⟩ | ⟨a, len, cap, m, n, V, D, Pl, hcs, _, hlc, hm, hmm, _, hx⟩
  · cases hcs
    exact ⟨[], ⟨none, 0, rfl, fun k x hx => by simp at hx⟩, Nat.zero_le _⟩
  · cases hcs
    rw [if_pos rfl] at hmm
    have each : ∀ i, i < len0 → ∃ c : Bool, W.cell? (a.add i) = some (.bool c) := by
      intro i hi
      obtain ⟨h1, h2⟩ := hx i (by omega)
      obtain ⟨n0, q0, _⟩ := DataW.trod_bool Tryd.underlying4 h2
      refine ⟨n0, ?_⟩
      rw [h1]
      have := (List.cons.inj q0).1
      rw [this]
    obtain ⟨l, hl, hle⟩ := cell_row (f := Value.bool) (cap0 := cap0) (a0 := some a) (fun a' ha' i hi => by cases ha'; exact each i hi) (fun h => by cases h) false
    exact ⟨l, hl, by omega⟩
end Go.Proofs.YtbdjccmcdifjcaaDoor
