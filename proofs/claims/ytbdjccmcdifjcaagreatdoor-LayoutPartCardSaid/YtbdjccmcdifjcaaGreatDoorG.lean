/-
  The document's example holds, at this program; and a text's first hundred bytes.
-/
import Derived.Test.YtbdjccmcdifjcaaGreatDoorS
set_option linter.unusedVariables false
set_option linter.unusedSimpArgs false
namespace Go.Proofs.YtbdjccmcdifjcaaGreatDoor
open Go.RowKit Go.Shelf

def exB : ByteArray := ⟨#[120, 42, 42, 61, 49, 48, 32, 35, 32, 121]⟩
theorem ex_lex : Sp.lex exB.data.toList = .ok [(0, ⟨1, [120], 0, 1⟩), (1, ⟨4, [42, 42, 61], 0, 3⟩), (4, ⟨2, [], 10, 2⟩)] := by
  kernel_rfl

theorem line_is {s : ByteArray} {x : Except (Nat × Int) (List (Nat × Sp.Tk))} (h : Hid (Sp.lex s.data.toList = x)) (hs : s.size ≤ 60000) (at_ : Int) (w : World) (hE : Env w) :
    Calls Tryz.prog 39 #[.string s, .int .i64 at_] w fun e w' => LineEnd w.heap.size at_ x e w' ∧ Below w.heap.size w w' := by
  rw [← h.out]; exact line_any s hs at_ w hE

theorem ret_str {a b : ByteArray} (h : a = b) : Ending.returned (.string a) = .returned (.string b) := by rw [h]
def ex4 : List T4 := [(1, 5, [120], 0), (4, 6, [42, 42, 61], 0), (2, 9, [], 10)]
theorem ex_rows : ([(0, ⟨1, [120], 0, 1⟩), (1, ⟨4, [42, 42, 61], 0, 3⟩), (4, ⟨2, [], 10, 2⟩)] : List (Nat × Sp.Tk)).map (abs4 5) = ex4 := by kernel_rfl
theorem ex_quote : (Sp.quote [97, 39]).toArray = #[39, 97, 92, 39, 39] := by kernel_rfl
theorem row_lit (w : World) (l : List T4) (cs : Array Value) (h : cs.toList = l.flatMap c4) (hn : l.length ≤ 1000) : Row4 w.heap.size (.slice (some ⟨w.heap.size, 0, none⟩) l.length l.length) l (w.alloc (.cells cs 37)) := by
  have hlen : ∀ l : List T4, (l.flatMap c4).length = l.length * 4 := by
    intro l
    induction l with
    | nil => rfl
    | cons x l ih => rw [List.flatMap_cons, List.length_append, ih]; simp [c4]; omega
  have hsz : cs.size = l.length * 4 := by rw [← hlen l, ← h]; simp
  refine ⟨hlen l, Or.inr ⟨w.heap.size, l.length, cs, rfl, Nat.le_refl _, ?_, Nat.le_refl _, ?_, hsz, ?_⟩⟩
  · unfold World.alloc
    exact Array.getElem?_push_size
  · unfold maxLen; omega
  · rw [h, ← hlen l, List.take_length]

end Go.Proofs.YtbdjccmcdifjcaaGreatDoor
