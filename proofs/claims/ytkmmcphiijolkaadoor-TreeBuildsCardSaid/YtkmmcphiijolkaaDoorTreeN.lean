/-
  The chapter's example; a number's rest, at this program.
-/
import Derived.Test.YtkmmcphiijolkaaDoorTreeL
import Derived.Test.YtkmmcphiijolkaaDoorTreeE
import Derived.Test.YtkmmcphiijolkaaDoorTreeZ
set_option linter.unusedVariables false
set_option linter.unusedSimpArgs false
namespace Go.Proofs.YtkmmcphiijolkaaDoor
open Go.RowKit Go.Shelf
open Tr

/-- Whether a tree is right, of whatever tree that may be looked at. -/
def RightOk : Prop := ∀ (v : Value) (t : List NodeD) (w : World), ArgT v t w → t.length ≤ 1000000 → (∀ x ∈ t, x.2.2.1.length ≤ 1000000 ∧ x.2.2.2.2.length ≤ maxLen) → (∀ x ∈ t, (Lit.int .i64 x.1).wf = true) →
    Calls Tryd.prog 12 #[v] w fun e w' => e = .returned (.bool (rightT sNames t)) ∧ Below w.heap.size w w'

theorem awake_right : rightT sNames awakeT = true := right_awake sNames
theorem awake_depth : depthT awakeT 2 = 2 := by decide
theorem awake_size : (belowT awakeT 4).length = 5 := by decide

set_option maxHeartbeats 8000000 in
set_option maxRecDepth 100000 in
theorem awake_of (HR : RightOk) (w : World) : Calls Tryd.prog 6 #[] w fun e w' => e = .returned (.bool true) ∧ Below w.heap.size w w' := by
  obtain ⟨W0, hW0⟩ : ∃ W0, W0 = ((w.alloc (.cells #[.int .i64 0, .int .i64 1] 3)).alloc (.cells #[.int .i64 2] 3)).alloc (.cells #[.int .i64 3] 3) := ⟨_, rfl⟩
  have hs0 : W0.heap.size = w.heap.size + 3 := by rw [hW0]; simp
  have hb0 : Below w.heap.size w W0 := by rw [hW0]; exact (((Below.refl _ w).alloc (Nat.le_refl _) _).alloc (by simp) _).alloc (by simp; omega) _
  have k1 : KRow (.slice (some ⟨w.heap.size, 0, none⟩) 2 2) [0, 1] W0 := by
    rw [hW0]
    exact ((KRow.lit w #[.int .i64 0, .int .i64 1] [0, 1] rfl).below ((Below.refl _ _).alloc (Nat.le_refl _) _)).below ((Below.refl _ _).alloc (Nat.le_refl _) _)
  have k2 : KRow (.slice (some ⟨w.heap.size + 1, 0, none⟩) 1 1) [2] W0 := by
    rw [hW0]
    have := (KRow.lit (w.alloc (.cells #[.int .i64 0, .int .i64 1] 3)) #[.int .i64 2] [2] rfl).below ((Below.refl _ _).alloc (Nat.le_refl _) (.cells #[.int .i64 3] 3))
    simpa using this
  have k3 : KRow (.slice (some ⟨w.heap.size + 1 + 1, 0, none⟩) 1 1) [3] W0 := by
    rw [hW0]
    have := (KRow.lit ((w.alloc (.cells #[.int .i64 0, .int .i64 1] 3)).alloc (.cells #[.int .i64 2] 3)) #[.int .i64 3] [3] rfl)
    simpa using this
  have hT := TRow.lit w.heap.size [((6, 0, [97], 0, []), .slice none 0 0), ((4, 0, [], 2, []), .slice none 0 0), ((12, 0, [43], 0, [0, 1]), .slice (some ⟨w.heap.size, 0, none⟩) 2 2), ((42, 0, [], 0, [2]), .slice (some ⟨w.heap.size + 1, 0, none⟩) 1 1), ((40, 0, [], 0, [3]), .slice (some ⟨w.heap.size + 1 + 1, 0, none⟩) 1 1)] W0
    #[.int .i64 6, .int .i64 0, .string ⟨#[97]⟩, .int .i64 0, .slice none 0 0, .int .i64 4, .int .i64 0, .string ⟨#[]⟩, .int .i64 2, .slice none 0 0, .int .i64 12, .int .i64 0, .string ⟨#[43]⟩, .int .i64 0, .slice (some ⟨w.heap.size, 0, none⟩) 2 2, .int .i64 42, .int .i64 0, .string ⟨#[]⟩, .int .i64 0, .slice (some ⟨w.heap.size + 1, 0, none⟩) 1 1, .int .i64 40, .int .i64 0, .string ⟨#[]⟩, .int .i64 0, .slice (some ⟨w.heap.size + 1 + 1, 0, none⟩) 1 1]
    rfl (by omega) (by unfold maxLen; simp) (by
      intro p hp
      simp only [List.mem_cons, List.not_mem_nil, or_false] at hp
      rcases hp with rfl | rfl | rfl | rfl | rfl
      · exact KRow.nil_ _
      · exact KRow.nil_ _
      · exact k1
      · exact k2
      · exact k3)
  have hA := hT.argT
  rw [hs0] at hA
  obtain ⟨W1, hW1⟩ : ∃ W1, W1 = W0.alloc (.cells #[.int .i64 6, .int .i64 0, .string ⟨#[97]⟩, .int .i64 0, .slice none 0 0, .int .i64 4, .int .i64 0, .string ⟨#[]⟩, .int .i64 2, .slice none 0 0, .int .i64 12, .int .i64 0, .string ⟨#[43]⟩, .int .i64 0, .slice (some ⟨w.heap.size, 0, none⟩) 2 2, .int .i64 42, .int .i64 0, .string ⟨#[]⟩, .int .i64 0, .slice (some ⟨w.heap.size + 1, 0, none⟩) 1 1, .int .i64 40, .int .i64 0, .string ⟨#[]⟩, .int .i64 0, .slice (some ⟨w.heap.size + 1 + 1, 0, none⟩) 1 1] 37) := ⟨_, rfl⟩
  rw [← hW1] at hA
  have hb1 : Below w.heap.size w W1 := by rw [hW1]; exact hb0.alloc (by omega) _
  have hA1 : ArgT (.slice (some ⟨w.heap.size + 3, 0, none⟩) 5 5) awakeT W1 := hA
  have hin : ∀ x ∈ awakeT, x.2.2.1.length ≤ 1000000 ∧ x.2.2.2.2.length ≤ maxLen := by
    intro x hx
    simp only [awakeT, List.mem_cons, List.not_mem_nil, or_false] at hx
    unfold maxLen
    rcases hx with rfl | rfl | rfl | rfl | rfl <;> simp
  have hwf : ∀ x ∈ awakeT, (Lit.int .i64 x.1).wf = true := by decide
  have c1 := fun W (h : Below W1.heap.size W1 W) => HR (.slice (some ⟨w.heap.size + 3, 0, none⟩) 5 5) awakeT W (hA1.below h) (by decide) hin hwf
  have c2 := fun W (h : Below W1.heap.size W1 W) => Depth_any W (.slice (some ⟨w.heap.size + 3, 0, none⟩) 5 5) awakeT (hA1.below h) (by decide) (fun x hx => (hin x hx).2) 2 (by decide)
  have c3 := fun W (h : Below W1.heap.size W1 W) => Size_any W (.slice (some ⟨w.heap.size + 3, 0, none⟩) 5 5) awakeT (hA1.below h) (by decide) (fun x hx => (hin x hx).2) 4
  rw [awake_right] at c1
  rw [awake_depth] at c2
  rw [awake_size] at c3
  have hc1 := c1 W1 (Below.refl _ _)
  rw [hW1, hW0] at hc1
  have HW : Hid (W1 = W1) := rfl
  have C2 := Lib.hid c2
  have C3 := Lib.hid c3
  have HB1 := Lib.hid hb1
  have hpost : ∀ W, Below W1.heap.size W1 W → Below w.heap.size w W := fun W h => hb1.trans (h.mono hb1.size)
  have HP := Lib.hid hpost
  rw [hW1, hW0] at C2 C3 HP
  clear c1 c2 c3 hin hwf hA1 hA hT k1 k2 k3 hb0 hb1 hpost hW0 hW1 hs0 HW HB1
  go_enter Tryd.func6, Tryd.ntmps6
  go_wp2_with (first | (go_at_call 12; refine hc1.mono ?_; clear hc1; rintro e w1 ⟨rfl, hb1⟩) | (go_at_call 13; refine (C2.out _ hb1).mono ?_; rintro e w2 ⟨rfl, hb2⟩) | (go_at_call 10; refine (C3.out _ (hb1.trans (hb2.mono hb1.size))).mono ?_; rintro e w3 ⟨rfl, hb3⟩))
  go_ret
  exact ⟨rfl, HP.out _ ((hb1.trans (hb2.mono hb1.size)).trans (hb3.mono (Nat.le_trans hb1.size hb2.size)))⟩

theorem rest_tmod (x n : Int) : (x.tmod n + n) % n = x % n := by
  rw [Int.add_emod_right]
  have h := Int.tmod_add_mul_tdiv x n
  conv => rhs; rw [← h]
  rw [Int.add_mul_emod_self_left]
set_option maxHeartbeats 2000000 in
theorem rest_any (x n : Int) (w : World) (hn : 0 < n) (hn2 : n ≤ 1000000) (hx : (Lit.int .i64 x).wf = true) : Calls Tryd.prog 9 #[.int .i64 x, .int .i64 n] w fun e w' => e = .returned (.int .i64 (x % n)) ∧ w = w' := by
  have h1 := Int.lt_tmod_of_pos x hn
  have h2 := Int.tmod_lt_of_pos x hn
  have hr := rest_tmod x n
  have HR := Lib.hid hr
  have hn0 : (n == 0) = false := by simp; omega
  clear hr
  go_enter Tryd.func9, Tryd.ntmps9
  go_wp2
  go_ret
  exact ⟨congrArg (fun z => Ending.returned (.int .i64 z)) HR.out, rfl⟩
end Go.Proofs.YtkmmcphiijolkaaDoor
