/-
  Each operator is one token, and of two next to each other the longest ones from the left: the walk of the statement ScanOps.
-/
import Derived.Test.YtbdjccmcdifjcaaGreatDoorQuotes
import Derived.Deep.DeepCutAuto
import Derived.IntWalk
set_option linter.unusedVariables false
set_option linter.unusedSimpArgs false
namespace Go.Proofs.YtbdjccmcdifjcaaGreatDoor
open Go.RowKit Go.Shelf

namespace Sp
/-- The operators, as the document's table has them. -/
def refL : List Bs := [[43], [45], [42], [47, 47], [37], [42, 42], [61, 61], [33, 61], [60], [60, 61], [62], [62, 61], [61], [43, 61], [45, 61], [42, 61], [47, 47, 61], [37, 61], [42, 42, 61], [40], [41], [91], [93], [123], [125], [44], [58], [46]]
/-- These tokens are operators next to each other from a place on, and say these bytes. -/
def chk : Nat → List (Nat × Tk) → Bs → Bool
  | _, [], rest => rest.isEmpty
  | pos, (p, t) :: ts, rest => decide (p = pos) && decide (t.kind = 4) && t.text.isPrefixOf rest && chk (pos + t.text.length) ts (rest.drop t.text.length)
theorem chk_said : ∀ (ts : List (Nat × Tk)) (pos : Nat) (rest : Bs), chk pos ts rest = true → (∀ (k : Nat) x, ts[k]? = some x → x.2.kind = 4 ∧ x.1 = pos + ((ts.take k).flatMap (·.2.text)).length) ∧ ts.flatMap (·.2.text) = rest := by
  intro ts
  induction ts with
  | nil => intro pos rest h; simp [chk] at h; exact ⟨fun k x hx => by simp at hx, by simp [h]⟩
  | cons y ts ih =>
    intro pos rest h
    obtain ⟨p, t⟩ := y
    simp only [chk, Bool.and_eq_true, decide_eq_true_eq] at h
    obtain ⟨⟨⟨h1, h2⟩, h3⟩, h4⟩ := h
    obtain ⟨i1, i2⟩ := ih _ _ h4
    obtain ⟨u, hu⟩ := List.isPrefixOf_iff_prefix.1 h3
    refine ⟨?_, ?_⟩
    · intro k x hx
      cases k with
      | zero => simp at hx; subst hx; exact ⟨h2, by simp [h1]⟩
      | succ k =>
        rw [List.getElem?_cons_succ] at hx
        obtain ⟨a, b⟩ := i1 k x hx
        refine ⟨a, ?_⟩
        rw [b, List.take_succ_cons, List.flatMap_cons, List.length_append]
        show pos + t.text.length + _ = pos + (t.text.length + _)
        omega
    · rw [List.flatMap_cons, i2, ← hu]
      simp
def pairOk (a b : Bs) : Bool := match lex (a ++ b) with
  | .error (_, e) => decide (e = 10)
  | .ok ts => chk 0 ts (a ++ b) && (match ts with
    | [] => false
    | (_, t) :: _ => decide (a.length ≤ t.text.length)) && decide (ts.length ≤ 10)
theorem ref_pairs : (refL.all fun a => refL.all fun b => pairOk a b) = true := by kernel_rfl
def oneTk (a : Bs) : List (Nat × Tk) := [(0, ⟨4, a, 0, a.length⟩)]
def twoTk (a b : Bs) : List (Nat × Tk) := [(0, ⟨4, a, 0, a.length⟩), (a.length + 1, ⟨4, b, 0, b.length⟩)]
def tkEq (x y : Nat × Tk) : Bool := decide (x.1 = y.1) && decide (x.2.kind = y.2.kind) && decide (x.2.text = y.2.text) && decide (x.2.num = y.2.num) && decide (x.2.size = y.2.size)
def tksEq : List (Nat × Tk) → List (Nat × Tk) → Bool
  | [], [] => true
  | x :: l, y :: m => tkEq x y && tksEq l m
  | _, _ => false
theorem tksEq_eq : ∀ l m, tksEq l m = true → l = m := by
  intro l
  induction l with
  | nil => intro m h; cases m with | nil => rfl | cons => cases h
  | cons x l ih =>
    intro m h
    cases m with
    | nil => cases h
    | cons y m =>
      simp only [tksEq, tkEq, Bool.and_eq_true, decide_eq_true_eq] at h
      obtain ⟨⟨⟨⟨⟨h1, h2⟩, h3⟩, h4⟩, h5⟩, h6⟩ := h
      rw [ih m h6]
      obtain ⟨p, ⟨k, t, n, z⟩⟩ := x
      obtain ⟨p', ⟨k', t', n', z'⟩⟩ := y
      simp only at h1 h2 h3 h4 h5
      subst h1 h2 h3 h4 h5
      rfl
def lexIs (l : Bs) (m : List (Nat × Tk)) : Bool := match lex l with
  | .error _ => false
  | .ok ts => tksEq ts m
theorem lexIs_eq {l : Bs} {m : List (Nat × Tk)} (h : lexIs l m = true) : lex l = .ok m := by
  unfold lexIs at h
  cases hx : lex l with
  | error y => rw [hx] at h; cases h
  | ok ts => rw [hx] at h; rw [tksEq_eq _ _ h]
theorem ref_ones : (refL.all fun a => lexIs a (oneTk a)) = true := by kernel_rfl
theorem ref_twos : (refL.all fun a => refL.all fun b => lexIs (a ++ (32 :: b)) (twoTk a b)) = true := by kernel_rfl
theorem ref_sizes : (refL.all fun a => decide (1 ≤ a.length) && decide (a.length ≤ 3)) = true := by kernel_rfl
end Sp

def refArr : Array Value := #[.string ⟨#[43]⟩, .string ⟨#[45]⟩, .string ⟨#[42]⟩, .string ⟨#[47, 47]⟩, .string ⟨#[37]⟩, .string ⟨#[42, 42]⟩, .string ⟨#[61, 61]⟩, .string ⟨#[33, 61]⟩, .string ⟨#[60]⟩, .string ⟨#[60, 61]⟩, .string ⟨#[62]⟩, .string ⟨#[62, 61]⟩, .string ⟨#[61]⟩, .string ⟨#[43, 61]⟩, .string ⟨#[45, 61]⟩, .string ⟨#[42, 61]⟩, .string ⟨#[47, 47, 61]⟩, .string ⟨#[37, 61]⟩, .string ⟨#[42, 42, 61]⟩, .string ⟨#[40]⟩, .string ⟨#[41]⟩, .string ⟨#[91]⟩, .string ⟨#[93]⟩, .string ⟨#[123]⟩, .string ⟨#[125]⟩, .string ⟨#[44]⟩, .string ⟨#[58]⟩, .string ⟨#[46]⟩]
theorem ops_ref (w : World) : Calls Tryz.prog 32 #[] w fun e w' => e = .returned (.slice (some ⟨w.heap.size, 0, none⟩) 28 28) ∧ w' = w.alloc (.cells refArr 9) := by
  go_enter Tryz.func32, Tryz.ntmps32
  go_wp2_with fail
  go_ret
  exact ⟨rfl, rfl⟩
theorem ref_list : refArr.toList = Sp.refL.map fun l => Value.string ⟨l.toArray⟩ := rfl
theorem ref_cell (w : World) (j : Nat) (h : j < 28) : ∃ ba : ByteArray, ba.data.toList ∈ Sp.refL ∧ (w.alloc (.cells refArr 9)).cell? ⟨w.heap.size, j, none⟩ = some (.string ba) := by
  have hl : j < Sp.refL.length := h
  refine ⟨⟨Sp.refL[j].toArray⟩, by rw [mk_list]; exact List.getElem_mem hl, ?_⟩
  have e : refArr[j]? = some (.string ⟨Sp.refL[j].toArray⟩) := by
    rw [← Array.getElem?_toList, ref_list, List.getElem?_map, List.getElem?_eq_getElem hl]
    rfl
  have e2 : (w.alloc (.cells refArr 9)).heap[w.heap.size]? = some (.cells refArr 9) := by unfold World.alloc; exact Array.getElem?_push_size
  unfold World.cell?
  rw [show (⟨w.heap.size, j, none⟩ : Addr).block = w.heap.size from rfl, e2]
  exact e
theorem ref_two {a b : Sp.Bs} (ha : a ∈ Sp.refL) (hb : b ∈ Sp.refL) {f : Sp.Bs → Sp.Bs → Bool} (h : (Sp.refL.all fun a => Sp.refL.all fun b => f a b) = true) : f a b = true :=
  List.all_eq_true.1 (List.all_eq_true.1 h a ha) b hb

theorem flat_ge {l : List (Nat × Sp.Tk)} {u : Nat × Sp.Tk} (h : u ∈ l) : u.2.text.length ≤ (l.flatMap (·.2.text)).length := by
  induction l with
  | nil => cases h
  | cons x l ih =>
    rw [List.flatMap_cons, List.length_append]
    rcases List.mem_cons.1 h with rfl | h
    · omega
    · have := ih h
      omega
namespace lawOps
end lawOps
end Go.Proofs.YtbdjccmcdifjcaaGreatDoor
