/-
  The document's example holds, at this program; and a text's first hundred bytes.
-/
import Derived.Test.YtfomjdaihoaipaaDoorS
set_option linter.unusedVariables false
set_option linter.unusedSimpArgs false
namespace Go.Proofs.YtfomjdaihoaipaaDoor
open Go.RowKit Go.Shelf

def exB : ByteArray := ⟨#[120, 42, 42, 61, 49, 48, 32, 35, 32, 121]⟩
theorem ex_lex : Sp.lex exB.data.toList = .ok [(0, ⟨1, [120], 0, 1⟩), (1, ⟨4, [42, 42, 61], 0, 3⟩), (4, ⟨2, [], 10, 2⟩)] := by
  kernel_rfl

theorem line_is {s : ByteArray} {x : Except (Nat × Int) (List (Nat × Sp.Tk))} (h : Hid (Sp.lex s.data.toList = x)) (hs : s.size ≤ 60000) (at_ : Int) (w : World) (hE : Env w) :
    Calls Tryd.prog 16 #[.string s, .int .i64 at_] w fun e w' => LineEnd w.heap.size at_ x e w' ∧ Below w.heap.size w w' := by
  rw [← h.out]; exact line_any s hs at_ w hE

theorem ret_str {a b : ByteArray} (h : a = b) : Ending.returned (.string a) = .returned (.string b) := by rw [h]
set_option maxHeartbeats 2000000 in
theorem few_any (s : ByteArray) (w : World) (hs : s.size ≤ maxLen) : Calls Tryd.prog 17 #[.string s] w fun e w' => e = .returned (.string (s.extract 0 (min s.size 100))) ∧ w = w' := by
  unfold maxLen at hs
  have e : Hid ((min (s.size : Int) 100).toNat = min s.size 100) := by show _ = _; omega
  go_enter Tryd.func17, Tryd.ntmps17
  go_wp2_with fail
  go_ret
  refine ⟨ret_str ?_, rfl⟩
  rw [e.out]

theorem same_is {b : Bool} {l m : List T4} (h : Hid (decide (l = m) = b)) (B B' : Nat) (va vb : Value) (w : World) (ha : Row4 B va l w) (hb : Row4 B' vb m w) (hl : l.length ≤ 1000000) (hm : m.length ≤ 1000000) :
    Calls Tryd.prog 21 #[va, vb] w fun e w' => e = .returned (.bool b) ∧ Below w.heap.size w w' := by
  rw [← h.out]; exact same_any B B' va vb l m w ha hb hl hm
def ex4 : List T4 := [(1, 5, [120], 0), (4, 6, [42, 42, 61], 0), (2, 9, [], 10)]
theorem ex_rows : ([(0, ⟨1, [120], 0, 1⟩), (1, ⟨4, [42, 42, 61], 0, 3⟩), (4, ⟨2, [], 10, 2⟩)] : List (Nat × Sp.Tk)).map (abs4 5) = ex4 := by kernel_rfl
theorem ex_quote : (Sp.quote [97, 39]).toArray = #[39, 97, 92, 39, 39] := by kernel_rfl
theorem row_lit (w : World) (l : List T4) (cs : Array Value) (h : cs.toList = l.flatMap c4) (hn : l.length ≤ 1000) : Row4 w.heap.size (.slice (some ⟨w.heap.size, 0, none⟩) l.length l.length) l (w.alloc (.cells cs 36)) := by
  have hlen : ∀ l : List T4, (l.flatMap c4).length = l.length * 4 := by
    intro l
    induction l with
    | nil => rfl
    | cons x l ih => rw [List.flatMap_cons, List.length_append, ih]; simp [c4]; omega
  have hsz : cs.size = l.length * 4 := by rw [← hlen l, ← h]; simp
  refine ⟨hlen l, Or.inr ⟨w.heap.size, l.length, cs, rfl, Nat.le_refl _, ?_, Nat.le_refl _, ?_, hsz, ?_⟩⟩
  · unfold World.alloc
    exact Array.getElem?_push_size
  · unfold maxLen; omega
  · rw [h, ← hlen l, List.take_length]

set_option maxHeartbeats 4000000 in
theorem shown_any (w : World) (hE : Env w) : Calls Tryd.prog 15 #[] w fun e w' => e = .returned (.bool true) ∧ Below w.heap.size w w' := by
  have hL := line_is (s := exB) (Lib.hid ex_lex) (by decide) 5 w hE
  have hQ := fun w => quote_any ⟨#[97, 39]⟩ w (by decide)
  have HL := Lib.hid hL
  have HQ := Lib.hid hQ
  clear hL hQ
  go_enter Tryd.func15, Tryd.ntmps15
  go_wp2_with fail
  refine HL.out.mono ?_
  clear HL
  rintro e w1 ⟨⟨v, rfl, hrow⟩, hb1⟩
  have hR := hrow.row4
  rw [ex_rows] at hR
  clear hrow
  have hS := same_is (b := true) (l := ex4) (m := ex4) (by show _ = _; simp) w.heap.size w1.heap.size v _ (w1.alloc (Obj.cells #[.int .i64 1, .int .i64 5, .string ⟨#[120]⟩, .int .i64 0, .int .i64 4, .int .i64 6, .string ⟨#[42, 42, 61]⟩, .int .i64 0, .int .i64 2, .int .i64 9, .string ⟨#[]⟩, .int .i64 10] 36))
    (hR.below ((Below.refl _ w1).alloc (Nat.le_refl _) _)) (row_lit w1 ex4 _ rfl (by decide)) (by decide) (by decide)
  have HS := Lib.hid hS
  have hbel : Below w.heap.size w (w1.alloc (Obj.cells #[.int .i64 1, .int .i64 5, .string ⟨#[120]⟩, .int .i64 0, .int .i64 4, .int .i64 6, .string ⟨#[42, 42, 61]⟩, .int .i64 0, .int .i64 2, .int .i64 9, .string ⟨#[]⟩, .int .i64 10] 36)) := hb1.alloc hb1.size _
  clear hS hR hb1
  go_wp2_with fail
  refine HS.out.mono ?_
  clear HS
  rintro e w2 ⟨rfl, hb2⟩
  have hbel2 := hbel.trans (hb2.mono hbel.size)
  clear hb2 hbel
  go_wp2_with fail
  refine (HQ.out w2).mono ?_
  rintro e w3 ⟨rfl, hb3⟩
  have hbel3 := hbel2.trans (hb3.mono hbel2.size)
  clear hb3 hbel2 HQ
  rw [ex_quote]
  go_wp2_with fail
  go_ret
  exact ⟨rfl, hbel3⟩
end Go.Proofs.YtfomjdaihoaipaaDoor
