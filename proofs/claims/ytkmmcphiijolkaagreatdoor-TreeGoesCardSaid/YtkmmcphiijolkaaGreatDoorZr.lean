/-
  Texts of the tree package put behind one another: MkW, MkU, MkFl.
-/
import Derived.Test.YtkmmcphiijolkaaGreatDoorZn
import Derived.Test.YtkmmcphiijolkaaGreatDoorZo
import Derived.Test.YtkmmcphiijolkaaGreatDoorMkSa
import Derived.Test.YtkmmcphiijolkaaGreatDoorMkSb
import Derived.Test.YtkmmcphiijolkaaGreatDoorMkSc
import Derived.Test.YtkmmcphiijolkaaGreatDoorMkSd
import Derived.Test.YtkmmcphiijolkaaGreatDoorMkSe
import Derived.Test.YtkmmcphiijolkaaGreatDoorMkSf
import Derived.Test.YtkmmcphiijolkaaGreatDoorZp
import Derived.Test.YtkmmcphiijolkaaGreatDoorZq
import Derived.Test.YtkmmcphiijolkaaGreatDoorMkSj
import Derived.Test.YtkmmcphiijolkaaGreatDoorMkSk
import Derived.Test.YtkmmcphiijolkaaGreatDoorZb
import Derived.Test.YtkmmcphiijolkaaGreatDoorZd
import Derived.Test.YtkmmcphiijolkaaGreatDoorZs
set_option linter.unusedVariables false
set_option linter.unusedSimpArgs false
namespace Go.Proofs.YtkmmcphiijolkaaGreatDoor
open Go.RowKit Go.Shelf
open Tr

set_option maxRecDepth 100000 in
theorem stmt_all (base M : Nat) (vs : Value) (s : List Int) : ∀ d, d ≤ 5 → StmtC base M vs s (SOk 0) d
  | 0, _ => fun σ w f l c hS hP => by
    unfold placeV
    have hE1 := expr_all base M vs s 1 (by omega)
    have hE2 := expr_all base M vs s 2 (by omega)
    have hE3 := expr_all base M vs s 3 (by omega)
    have hS' := hS.below ((Below.refl _ _).alloc (Nat.le_refl _) (.cells #[.bool f, .bool l, .bool c] 57))
    have hn := next_nx base M vs s σ _ hS' 40 (by omega) (by omega)
    obtain ⟨r, hrr⟩ : ∃ r, r = nx s σ.at_ 40 := ⟨_, rfl⟩
    rw [← hrr] at hn
    clear hrr
    have hc : (r % 14 = 0 ∨ r % 14 = 1 ∨ r % 14 = 2 ∨ r % 14 = 3 ∨ r % 14 = 4 ∨ r % 14 = 5 ∨ r % 14 = 6 ∨ r % 14 = 7 ∨ r % 14 = 9 ∨ r % 14 = 10 ∨ r % 14 = 11 ∨ r % 14 = 12 ∨ r % 14 = 13) ∨ r % 14 = 8 := by omega
    rcases hc with h | h
    · exact stmtZ_of hE1 hE2 hE3 σ w f l c hS hP (hn.mono (by rintro e w' ⟨_, σ', rfl, rfl, HT⟩; exact ⟨_, σ', rfl, h, HT⟩))
    · exact stmtZ8_of hE1 hE2 hE3 σ w f l c hS hP (hn.mono (by rintro e w' ⟨_, σ', rfl, rfl, HT⟩; exact ⟨_, σ', rfl, h, HT⟩))
  | d + 1, hd => fun σ w f l c hS hP => by
    unfold placeV
    rw [show ((d + 1 : Nat) : Int) = (d : Int) + 1 from rfl]
    have hB := stmt_all base M vs s d (by omega)
    have hE1 := expr_all base M vs s 1 (by omega)
    have hE2 := expr_all base M vs s 2 (by omega)
    have hE3 := expr_all base M vs s 3 (by omega)
    have hS' := hS.below ((Below.refl _ _).alloc (Nat.le_refl _) (.cells #[.bool f, .bool l, .bool c] 57))
    have hr := nx_lt s σ.at_ 40 (by omega)
    have hn := next_nx base M vs s σ _ hS' 40 (by omega) (by omega)
    obtain ⟨r, hrr⟩ : ∃ r, r = nx s σ.at_ 40 := ⟨_, rfl⟩
    rw [← hrr] at hn hr
    clear hrr
    have hd4 : d ≤ 4 := by omega
    by_cases hlf : 160 ≤ σ.P.length
    · have hc : (r % 14 = 0 ∨ r % 14 = 1 ∨ r % 14 = 2 ∨ r % 14 = 3 ∨ r % 14 = 4 ∨ r % 14 = 5 ∨ r % 14 = 6 ∨ r % 14 = 7 ∨ r % 14 = 9 ∨ r % 14 = 10 ∨ r % 14 = 11 ∨ r % 14 = 12 ∨ r % 14 = 13) ∨ r % 14 = 8 := by omega
      rcases hc with h | h
      · exact stmtL_of hE1 hE2 hE3 hd4 σ w f l c hS hP hlf (hn.mono (by rintro e w' ⟨_, σ', rfl, rfl, HT⟩; exact ⟨_, σ', rfl, h, HT⟩))
      · exact stmtL8_of hE1 hE2 hE3 hd4 σ w f l c hS hP hlf (hn.mono (by rintro e w' ⟨_, σ', rfl, rfl, HT⟩; exact ⟨_, σ', rfl, h, HT⟩))
    · have hl' : σ.P.length < 160 := by omega
      have hc : (r = 0 ∨ r = 1 ∨ r = 2 ∨ r = 3 ∨ r = 4 ∨ r = 5 ∨ r = 6 ∨ r = 7 ∨ r = 9 ∨ r = 10 ∨ r = 11 ∨ r = 12 ∨ r = 13) ∨ r = 8 ∨ (r = 14 ∨ r = 15 ∨ r = 16 ∨ r = 17 ∨ r = 18 ∨ r = 19 ∨ r = 20 ∨ r = 21) ∨ (r = 22 ∨ r = 23 ∨ r = 24 ∨ r = 25 ∨ r = 26 ∨ r = 27 ∨ r = 28) ∨ (r = 29 ∨ r = 30 ∨ r = 31 ∨ r = 32) ∨ (r = 33 ∨ r = 34 ∨ r = 35 ∨ r = 36 ∨ r = 37 ∨ r = 38 ∨ r = 39) := by omega
      rcases hc with h | h | h | h | h | h
      · exact stmtA_of hE1 hE2 hE3 hB hd4 σ w f l c hS hP hl' (hn.mono (by rintro e w' ⟨_, σ', rfl, rfl, HT⟩; exact ⟨_, σ', rfl, h, HT⟩))
      · exact stmtF8_of hE1 hE2 hE3 hB hd4 σ w f l c hS hP hl' (hn.mono (by rintro e w' ⟨_, σ', rfl, rfl, HT⟩; exact ⟨_, σ', rfl, h, HT⟩))
      · exact stmtB_of hE1 hE2 hE3 hB hd4 σ w f l c hS hP hl' (hn.mono (by rintro e w' ⟨_, σ', rfl, rfl, HT⟩; exact ⟨_, σ', rfl, h, HT⟩))
      · exact stmtC_of hE1 hE2 hE3 hB hd4 σ w f l c hS hP hl' (hn.mono (by rintro e w' ⟨_, σ', rfl, rfl, HT⟩; exact ⟨_, σ', rfl, h, HT⟩))
      · exact stmtE_of hE1 hE2 hE3 hB hd4 σ w f l c hS hP hl' (hn.mono (by rintro e w' ⟨_, σ', rfl, rfl, HT⟩; exact ⟨_, σ', rfl, h, HT⟩))
      · exact stmtD_of hE1 hE2 hE3 hB hd4 σ w f l c hS hP hl' (hn.mono (by rintro e w' ⟨_, σ', rfl, rfl, HT⟩; exact ⟨_, σ', rfl, h, HT⟩))

/-- A tree made of numbers: the nodes of one tree by itself, whose statements are as the maker makes them. -/
theorem made_any (vs : Value) (s : List Int) (w : World) (hk : KRow vs s w) (hwf : ∀ x ∈ s, (Lit.int .i64 x).wf = true) (hsl : s.length ≤ maxLen) :
    Calls Tryz.prog 10 #[vs] w fun e w' => ∃ (al : List Ast) (vt : Value) (P : List (NodeD × Value)), e = .returned vt ∧ Hid (TRow w.heap.size vt P w') ∧ P.map (·.1) = (Ast.mk 40 [] 0 al).flat 0 ∧ 1 < al.length ∧ (∀ a ∈ al, SOk 0 4 a) ∧ P.length ≤ 100000 ∧ Below w.heap.size w w' :=
  made_of (fun base M vs s => stmt_all base M vs s 4 (by omega)) vs s w hk hwf hsl
end Go.Proofs.YtkmmcphiijolkaaGreatDoor

set_option linter.unusedVariables false
set_option linter.unusedSimpArgs false
namespace Go.Proofs.YtkmmcphiijolkaaGreatDoor
open Go.RowKit Go.Shelf
open Tr

namespace Tr
theorem kidsOf_mem (i : Nat) : ∀ (l : List Int) (k : Nat), (k : Int) ∈ l → k < i → k ∈ kidsOf i l
  | [], k, h, _ => by simp at h
  | x :: l, k, h, hk => by
    simp only [kidsOf]
    rcases List.mem_cons.1 h with rfl | h
    · rw [if_pos ⟨by omega, by omega⟩]
      simp
    · have := kidsOf_mem i l k h hk
      split
      · exact List.mem_cons_of_mem _ this
      · exact this
mutual
theorem Ast.all_below (t : List NodeD) (S : Nat → Prop) (hS : ∀ y, S y → ∀ k ∈ kidN t y, S k) : ∀ (a : Ast) (i : Nat), (∀ j x, (a.flat i)[j]? = some x → t[i + j]? = some x) → S (i + a.size - 1) → ∀ k, i ≤ k → k < i + a.size → S k
  | .mk op s n ks, i, h, hr, k, h1, h2 => by
    rw [Ast.size] at hr h2
    by_cases hk : k = i + sizes ks
    · rw [hk]; exact hr
    · refine alls_below t S hS ks i (fun j x hj => h j x ?_) (fun r hr2 => ?_) k h1 (by omega)
      · rw [Ast.flat, List.getElem?_append_left (List.getElem?_eq_some_iff.1 hj).1]
        exact hj
      · have hlt := rootsA_lt i ks r hr2
        have hroot : t[i + sizes ks]? = some (op, 0, s, n, rootsA i ks) := h (sizes ks) _ (by
          rw [Ast.flat, List.getElem?_append_right (by rw [flats_length]; exact Nat.le_refl _), flats_length]
          simp)
        refine hS (i + sizes ks) hr r.toNat ?_
        unfold kidN nodeAt
        rw [Int.toNat_natCast, hroot]
        simp only [Option.getD_some]
        refine kidsOf_mem _ _ _ ?_ (by omega)
        rw [Int.toNat_of_nonneg (by omega)]
        exact hr2
theorem alls_below (t : List NodeD) (S : Nat → Prop) (hS : ∀ y, S y → ∀ k ∈ kidN t y, S k) : ∀ (l : List Ast) (i : Nat), (∀ j x, (flats i l)[j]? = some x → t[i + j]? = some x) → (∀ r ∈ rootsA i l, S r.toNat) → ∀ k, i ≤ k → k < i + sizes l → S k
  | [], i, h, hr, k, h1, h2 => by simp only [sizes] at h2; omega
  | a :: l, i, h, hr, k, h1, h2 => by
    simp only [sizes] at h2
    by_cases hk : k < i + a.size
    · refine Ast.all_below t S hS a i (fun j x hj => h j x ?_) ?_ k h1 hk
      · rw [flats, List.getElem?_append_left (List.getElem?_eq_some_iff.1 hj).1]
        exact hj
      · have := hr ((i + a.size - 1 : Nat) : Int) (by simp [rootsA])
        rwa [Int.toNat_natCast] at this
    · refine alls_below t S hS l (i + a.size) (fun j x hj => ?_) (fun r hr2 => hr r (by simp [rootsA, hr2])) k (by omega) (by omega)
      have := h (a.size + j) x (by
        rw [flats, List.getElem?_append_right (by rw [Ast.flat_length]; omega), Ast.flat_length, Nat.add_sub_cancel_left]
        exact hj)
      rwa [← Nat.add_assoc] at this
end
/-- Every node is below the root. -/
theorem flat_below (a : Ast) : ∀ k, k < a.size → k ∈ belowT (a.flat 0) ((a.size : Int) - 1) := by
  intro k hk
  have hp := a.size_pos
  have hl := Ast.flat_length 0 a
  have hself := below_self (a.flat 0) ((a.size : Int) - 1) ⟨by omega, by rw [hl]; omega⟩
  refine Ast.all_below (a.flat 0) (fun y => y ∈ belowT (a.flat 0) ((a.size : Int) - 1)) (below_closed _ _) a 0 (fun j x hj => by rw [Nat.zero_add]; exact hj) ?_ k (Nat.zero_le _) (by omega)
  have e : ((a.size : Int) - 1).toNat = 0 + a.size - 1 := by omega
  rw [← e]
  exact hself
theorem all_length : ∀ (n : Nat) (l : List Nat), (∀ y, y < n → y ∈ l) → n ≤ l.length
  | 0, l, _ => Nat.zero_le _
  | n + 1, l, h => by
    have hn := h n (by omega)
    have h1 := all_length n (l.erase n) (fun y hy => (List.mem_erase_of_ne (by omega)).2 (h y (by omega)))
    have h2 := List.length_erase_of_mem hn
    have h3 := List.length_pos_of_mem hn
    omega
theorem flat_below_length (a : Ast) : (belowT (a.flat 0) ((a.size : Int) - 1)).length = a.size := by
  have h1 := few_length (below_few (a.flat 0) ((a.size : Int) - 1))
  rw [Ast.flat_length] at h1
  have h2 := all_length a.size _ (flat_below a)
  omega
end Tr
end Go.Proofs.YtkmmcphiijolkaaGreatDoor

set_option linter.unusedVariables false
set_option linter.unusedSimpArgs false
namespace Go.Proofs.YtkmmcphiijolkaaGreatDoor
open Go.RowKit Go.Shelf
open Tr

namespace Tr
theorem sizes_len : ∀ al : List Ast, al.length ≤ sizes al
  | [] => Nat.le_refl _
  | a :: al => by have := a.size_pos; have := sizes_len al; simp only [sizes, List.length_cons]; omega
mutual
theorem Ast.flat_kids : ∀ (i : Nat) (a : Ast), ∀ x ∈ a.flat i, x.2.2.2.2.length ≤ a.size
  | i, .mk op s n ks, x, hx => by
    rw [Ast.flat] at hx
    rcases List.mem_append.1 hx with hx | hx
    · have := flats_kids i ks x hx
      rw [Ast.size]; omega
    · simp only [List.mem_cons, List.not_mem_nil, or_false] at hx
      subst hx
      have := sizes_len ks
      rw [Ast.size]
      simp only [rootsA_length]
      omega
theorem flats_kids : ∀ (i : Nat) (l : List Ast), ∀ x ∈ flats i l, x.2.2.2.2.length ≤ sizes l
  | i, [], x, hx => by simp [flats] at hx
  | i, a :: al, x, hx => by
    rw [flats] at hx
    simp only [sizes]
    rcases List.mem_append.1 hx with hx | hx
    · have := Ast.flat_kids i a x hx; omega
    · have := flats_kids (i + a.size) al x hx; omega
end
end Tr

/-- A tree made of numbers: what may be asked of it. -/
structure MadeT (v : Value) (a : Ast) (w : World) : Prop where
  arg : ArgT v (a.flat 0) w
  ok : ∃ al, a = .mk 40 [] 0 al ∧ 1 < al.length ∧ ∀ b ∈ al, SOk 0 4 b
  le : a.size ≤ 100000
  lo : 3 ≤ a.size
theorem MadeT.kids {v : Value} {a : Ast} {w : World} (h : MadeT v a w) : ∀ x ∈ a.flat 0, x.2.2.2.2.length ≤ maxLen := fun x hx => by
  have := Ast.flat_kids 0 a x hx
  have := h.le
  unfold maxLen
  omega
theorem MadeT.below {v : Value} {a : Ast} {w w' : World} (h : MadeT v a w) (hb : Below w.heap.size w w') : MadeT v a w' := ⟨h.arg.below hb, h.ok, h.le, h.lo⟩
theorem Made_any (vs : Value) (s : List Int) (w : World) (hk : KRow vs s w) (hwf : ∀ x ∈ s, (Lit.int .i64 x).wf = true) (hsl : s.length ≤ maxLen) :
    Calls Tryz.prog 10 #[vs] w fun e w' => ∃ (a : Ast) (pt : Option Addr) (m ct : Nat), e = .returned (.slice pt m ct) ∧ m = a.size ∧ 3 ≤ m ∧ m ≤ 100000 ∧ Hid (MadeT (.slice pt m ct) a w') ∧ Below w.heap.size w w' :=
  (made_any vs s w hk hwf hsl).mono (by
    rintro e w' ⟨al, vt, P, rfl, HT, hP, hl, hal, hn, hb⟩
    have ha : ArgT vt (P.map (·.1)) w' := HT.out.argT
    rw [hP] at ha
    have hs : P.length = (Ast.mk 40 [] 0 al).size := by
      have := congrArg List.length hP
      rwa [List.length_map, Ast.flat_length] at this
    have hs2 := sizes_len al
    have hs3 : (Ast.mk 40 [] 0 al).size = sizes al + 1 := size_mk _ _ _ _
    obtain ⟨pt, ct, e, f⟩ := ha
    rw [Ast.flat_length] at e
    refine ⟨.mk 40 [] 0 al, pt, _, ct, by rw [e], rfl, by omega, by omega, ?_, hb⟩
    show MadeT _ _ _
    exact ⟨⟨pt, ct, by rw [Ast.flat_length], f⟩, ⟨al, rfl, hl, hal⟩, by omega, by omega⟩)
end Go.Proofs.YtkmmcphiijolkaaGreatDoor
