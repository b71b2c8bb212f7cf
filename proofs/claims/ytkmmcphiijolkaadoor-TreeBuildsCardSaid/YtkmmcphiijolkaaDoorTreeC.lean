/-
  What a node must be, each by itself, at this program.
-/
import Derived.Test.YtkmmcphiijolkaaDoorTreeP
set_option linter.unusedVariables false
set_option linter.unusedSimpArgs false
namespace Go.Proofs.YtkmmcphiijolkaaDoor
open Go.RowKit Go.Shelf
open Tr

/-- A node that is handed over. -/
def NodeV (nv : Value) (x : NodeD) (w : World) : Prop := ∃ vk, nv = .agg #[.int .i64 x.1, .int .i64 x.2.1, .string ⟨x.2.2.1.toArray⟩, .int .i64 x.2.2.2.1, vk] ∧ KRow vk x.2.2.2.2 w
theorem box5 {w wr : World} {a b c d e : Value} {T : TypeId} {N : Nat} {fr : Nat × Nat} (h : wr.heap[N]? = some (.cells #[a, b, c, d, e] T fr)) : wr.cell? ⟨N, 0, none⟩ = some a ∧ wr.cell? ⟨N, 1, none⟩ = some b ∧ wr.cell? ⟨N, 2, none⟩ = some c ∧ wr.cell? ⟨N, 3, none⟩ = some d ∧ wr.cell? ⟨N, 4, none⟩ = some e := by
  simp [World.cell?, h]

theorem NodeV.below {nv : Value} {x : NodeD} {w w' : World} (h : NodeV nv x w) (hb : Below w.heap.size w w') : NodeV nv x w' := by
  obtain ⟨vk, e, h⟩ := h
  exact ⟨vk, e, h.below hb⟩

set_option maxHeartbeats 4000000 in
theorem expr_any (tv nv : Value) (x : NodeD) (w : World) (hn : NodeV nv x w) : Calls Tryd.prog 44 #[tv, nv] w fun e w' => e = .returned (.bool (isExpr x.1)) ∧ Below w.heap.size w w' := by
  obtain ⟨vk, rfl, pk, ck, rfl, fk⟩ := hn
  clear fk
  obtain ⟨x0, x1, x2, x3, ks⟩ := x
  simp only
  obtain ⟨m, hm⟩ : ∃ m, m = ks.length := ⟨_, rfl⟩
  rw [← hm]
  have HM := Lib.hid hm
  clear hm
  by_cases h0 : 1 ≤ x0
  · skip
    by_cases h1 : x0 ≤ 21
    · skip
      have HR : Hid (isExpr x0 = true) := by show _ = _; simp [isExpr, h0, h1]
      rw [HR.out]
      clear HR
      go_enter Tryd.func44, Tryd.ntmps44
      go_wp2_with fail
      go_ret
      exact ⟨ret_bool (by first | rfl | simp [*] | (simp; omega)), (Below.refl _ _).alloc (Nat.le_refl _) _⟩
    · skip
      have HR : Hid (isExpr x0 = false) := by show _ = _; simp [isExpr, h0, h1]
      rw [HR.out]
      clear HR
      go_enter Tryd.func44, Tryd.ntmps44
      go_wp2_with fail
      go_ret
      exact ⟨ret_bool (by first | rfl | simp [*] | (simp; omega)), (Below.refl _ _).alloc (Nat.le_refl _) _⟩
  · skip
    have HR : Hid (isExpr x0 = false) := by show _ = _; simp [isExpr, h0]
    rw [HR.out]
    clear HR
    go_enter Tryd.func44, Tryd.ntmps44
    go_wp2_with fail
    go_ret
    exact ⟨ret_bool (by first | rfl | simp [*] | (simp; omega)), (Below.refl _ _).alloc (Nat.le_refl _) _⟩

set_option maxHeartbeats 4000000 in
theorem target_any (tv nv : Value) (x : NodeD) (w : World) (hn : NodeV nv x w) : Calls Tryd.prog 58 #[tv, nv] w fun e w' => e = .returned (.bool (isTarget x.1)) ∧ Below w.heap.size w w' := by
  obtain ⟨vk, rfl, pk, ck, rfl, fk⟩ := hn
  clear fk
  obtain ⟨x0, x1, x2, x3, ks⟩ := x
  simp only
  obtain ⟨m, hm⟩ : ∃ m, m = ks.length := ⟨_, rfl⟩
  rw [← hm]
  have HM := Lib.hid hm
  clear hm
  by_cases h0 : x0 = 6
  · skip
    have HR : Hid (isTarget x0 = true) := by show _ = _; simp [isTarget, h0]
    rw [HR.out]
    clear HR
    go_enter Tryd.func58, Tryd.ntmps58
    go_wp2_with fail
    go_ret
    exact ⟨ret_bool (by first | rfl | simp [*] | (simp; omega)), (Below.refl _ _).alloc (Nat.le_refl _) _⟩
  · skip
    by_cases h1 : x0 = 18
    · skip
      have HR : Hid (isTarget x0 = true) := by show _ = _; simp [isTarget, h0, h1]
      rw [HR.out]
      clear HR
      go_enter Tryd.func58, Tryd.ntmps58
      go_wp2_with fail
      go_ret
      exact ⟨ret_bool (by first | rfl | simp [*] | (simp; omega)), (Below.refl _ _).alloc (Nat.le_refl _) _⟩
    · skip
      by_cases h2 : x0 = 19
      · skip
        have HR : Hid (isTarget x0 = true) := by show _ = _; simp [isTarget, h0, h1, h2]
        rw [HR.out]
        clear HR
        go_enter Tryd.func58, Tryd.ntmps58
        go_wp2_with fail
        go_ret
        exact ⟨ret_bool (by first | rfl | simp [*] | (simp; omega)), (Below.refl _ _).alloc (Nat.le_refl _) _⟩
      · skip
        have HR : Hid (isTarget x0 = false) := by show _ = _; simp [isTarget, h0, h1, h2]
        rw [HR.out]
        clear HR
        go_enter Tryd.func58, Tryd.ntmps58
        go_wp2_with fail
        go_ret
        exact ⟨ret_bool (by first | rfl | simp [*] | (simp; omega)), (Below.refl _ _).alloc (Nat.le_refl _) _⟩

set_option maxHeartbeats 4000000 in
theorem statement_any (tv nv : Value) (x : NodeD) (w : World) (hn : NodeV nv x w) : Calls Tryd.prog 56 #[tv, nv] w fun e w' => e = .returned (.bool (isStmt x.1)) ∧ Below w.heap.size w w' := by
  obtain ⟨vk, rfl, pk, ck, rfl, fk⟩ := hn
  clear fk
  obtain ⟨x0, x1, x2, x3, ks⟩ := x
  simp only
  obtain ⟨m, hm⟩ : ∃ m, m = ks.length := ⟨_, rfl⟩
  rw [← hm]
  have HM := Lib.hid hm
  clear hm
  by_cases h0 : 42 ≤ x0
  · by_cases h1 : x0 ≤ 55
    · skip
      have HR : Hid (isStmt x0 = true) := by show _ = _; simp [isStmt, h0, h1]
      rw [HR.out]
      clear HR
      go_enter Tryd.func56, Tryd.ntmps56
      go_wp2_with fail
      go_ret
      exact ⟨ret_bool (by first | rfl | simp [*] | (simp; omega)), (Below.refl _ _).alloc (Nat.le_refl _) _⟩
    · by_cases h2 : 58 ≤ x0
      · by_cases h3 : x0 ≤ 62
        · skip
          have HR : Hid (isStmt x0 = true) := by show _ = _; simp [isStmt, h0, h1, h2, h3]
          rw [HR.out]
          clear HR
          go_enter Tryd.func56, Tryd.ntmps56
          go_wp2_with fail
          go_ret
          exact ⟨ret_bool (by first | rfl | simp [*] | (simp; omega)), (Below.refl _ _).alloc (Nat.le_refl _) _⟩
        · skip
          have HR : Hid (isStmt x0 = false) := by show _ = _; simp [isStmt, h0, h1, h2, h3]
          rw [HR.out]
          clear HR
          go_enter Tryd.func56, Tryd.ntmps56
          go_wp2_with fail
          go_ret
          exact ⟨ret_bool (by first | rfl | simp [*] | (simp; omega)), (Below.refl _ _).alloc (Nat.le_refl _) _⟩
      · skip
        have HR : Hid (isStmt x0 = false) := by show _ = _; simp [isStmt, h0, h1, h2]
        rw [HR.out]
        clear HR
        go_enter Tryd.func56, Tryd.ntmps56
        go_wp2_with fail
        go_ret
        exact ⟨ret_bool (by first | rfl | simp [*] | (simp; omega)), (Below.refl _ _).alloc (Nat.le_refl _) _⟩
  · have h2 : ¬ 58 ≤ x0 := by omega
    have HR : Hid (isStmt x0 = false) := by show _ = _; simp [isStmt, h0, h2]
    rw [HR.out]
    clear HR
    go_enter Tryd.func56, Tryd.ntmps56
    go_wp2_with fail
    go_ret
    exact ⟨ret_bool (by first | rfl | simp [*] | (simp; omega)), (Below.refl _ _).alloc (Nat.le_refl _) _⟩

set_option maxHeartbeats 4000000 in
theorem even_any (tv nv : Value) (x : NodeD) (w : World) (hn : NodeV nv x w) : Calls Tryd.prog 51 #[tv, nv] w fun e w' => e = .returned (.bool (tEven [] x)) ∧ Below w.heap.size w w' := by
  obtain ⟨vk, rfl, pk, ck, rfl, fk⟩ := hn
  clear fk
  obtain ⟨x0, x1, x2, x3, ks⟩ := x
  simp only
  obtain ⟨m, hm⟩ : ∃ m, m = ks.length := ⟨_, rfl⟩
  rw [← hm]
  have HM := Lib.hid hm
  clear hm
  by_cases h0 : m % 2 = 0
  · have h1 : (m : Int).tmod 2 = 0 := by rw [show (m : Int).tmod 2 = ((m % 2 : Nat) : Int) from rfl, h0]; rfl
    have HR : Hid (tEven [] (x0, x1, x2, x3, ks) = true) := by show _ = _; simp [tEven, ← HM.out, h0]
    rw [HR.out]
    clear HR
    go_enter Tryd.func51, Tryd.ntmps51
    go_wp2_with fail
    go_ret
    exact ⟨ret_bool (by first | rfl | simp [*] | (simp; omega)), (Below.refl _ _).alloc (Nat.le_refl _) _⟩
  · have h1 : (m : Int).tmod 2 = 1 := by rw [show (m : Int).tmod 2 = ((m % 2 : Nat) : Int) from rfl, show m % 2 = 1 by omega]; rfl
    have HR : Hid (tEven [] (x0, x1, x2, x3, ks) = false) := by show _ = _; simp [tEven, ← HM.out, h0]
    rw [HR.out]
    clear HR
    go_enter Tryd.func51, Tryd.ntmps51
    go_wp2_with fail
    go_ret
    exact ⟨ret_bool (by first | rfl | simp [*] | (simp; omega)), (Below.refl _ _).alloc (Nat.le_refl _) _⟩

theorem strEmpty (l : Sp.Bs) : (⟨l.toArray⟩ : ByteArray).toList = l := by rw [Sp.toList_data]

set_option maxHeartbeats 4000000 in
theorem number_any (tv nv : Value) (x : NodeD) (w : World) (hn : NodeV nv x w) : Calls Tryd.prog 47 #[tv, nv] w fun e w' => e = .returned (.bool (tNumber [] x)) ∧ Below w.heap.size w w' := by
  obtain ⟨vk, rfl, pk, ck, rfl, fk⟩ := hn
  clear fk
  obtain ⟨x0, x1, x2, x3, ks⟩ := x
  simp only
  obtain ⟨m, hm⟩ : ∃ m, m = ks.length := ⟨_, rfl⟩
  rw [← hm]
  have HM := Lib.hid hm
  clear hm
  obtain ⟨s, hs⟩ : ∃ s : ByteArray, s = ⟨x2.toArray⟩ := ⟨_, rfl⟩
  have hl : s.toList = x2 := by rw [hs]; exact strEmpty x2
  rw [← hs]
  clear hs
  have HL := Lib.hid hl
  clear hl
  by_cases h0 : x2 = []
  · have e0 : s.toList.isEmpty = true := by rw [HL.out, h0]; rfl
    have H0 := Lib.hid h0
    clear h0
    by_cases h1 : 0 ≤ x3
    · by_cases h2 : m = 0
      · subst h2
        have HR : Hid (tNumber [] (x0, x1, x2, x3, ks) = true) := by show _ = _; simp [tNumber, ← HM.out, H0.out, h1]
        rw [HR.out]
        clear HR
        go_enter Tryd.func47, Tryd.ntmps47
        go_wp2_with fail
        go_ret
        exact ⟨ret_bool (by first | rfl | simp [*] | (simp; omega)), (Below.refl _ _).alloc (Nat.le_refl _) _⟩
      · skip
        have HR : Hid (tNumber [] (x0, x1, x2, x3, ks) = false) := by show _ = _; simp [tNumber, ← HM.out, h2]
        rw [HR.out]
        clear HR
        go_enter Tryd.func47, Tryd.ntmps47
        go_wp2_with fail
        go_ret
        exact ⟨ret_bool (by first | rfl | simp [*] | (simp; omega)), (Below.refl _ _).alloc (Nat.le_refl _) _⟩
    · skip
      have HR : Hid (tNumber [] (x0, x1, x2, x3, ks) = false) := by show _ = _; simp [tNumber, h1]
      rw [HR.out]
      clear HR
      go_enter Tryd.func47, Tryd.ntmps47
      go_wp2_with fail
      go_ret
      exact ⟨ret_bool (by first | rfl | simp [*] | (simp; omega)), (Below.refl _ _).alloc (Nat.le_refl _) _⟩
  · have e0 : s.toList.isEmpty = false := by rw [HL.out]; cases x2; exact absurd rfl h0; rfl
    have H0 := Lib.hid h0
    clear h0
    have HR : Hid (tNumber [] (x0, x1, x2, x3, ks) = false) := by show _ = _; simp [tNumber, H0.out]
    rw [HR.out]
    clear HR
    go_enter Tryd.func47, Tryd.ntmps47
    go_wp2_with fail
    go_ret
    exact ⟨ret_bool (by first | rfl | simp [*] | (simp; omega)), (Below.refl _ _).alloc (Nat.le_refl _) _⟩

set_option maxHeartbeats 4000000 in
theorem empty_any (s : ByteArray) (w : World) (hs : s.size ≤ 1000000) : Calls Tryd.prog 42 #[.string s] w fun e w' => e = .returned (.bool (sEmpty s.data.toList)) ∧ Below w.heap.size w w' := by
  have hl := Sp.toList_data s
  by_cases h0 : s.data.toList = []
  · have e0 : s.toList.isEmpty = true := by rw [hl, h0]; rfl
    have HR : Hid (sEmpty s.data.toList = true) := by show _ = _; simp [sEmpty, h0]
    rw [HR.out]
    clear HR hl h0
    go_enter Tryd.func42, Tryd.ntmps42
    go_wp2_with fail
    go_ret
    exact ⟨ret_bool (by first | rfl | simp [*] | (simp; omega)), Below.refl _ _⟩
  · have e0 : s.toList.isEmpty = false := by rw [hl]; cases h : s.data.toList; exact absurd h h0; rfl
    have HR : Hid (sEmpty s.data.toList = false) := by show _ = _; simp [sEmpty, h0]
    rw [HR.out]
    clear HR hl h0
    go_enter Tryd.func42, Tryd.ntmps42
    go_wp2_with fail
    go_ret
    exact ⟨ret_bool (by first | rfl | simp [*] | (simp; omega)), Below.refl _ _⟩

set_option maxHeartbeats 4000000 in
theorem short_any (s : ByteArray) (w : World) (hs : s.size ≤ 1000000) : Calls Tryd.prog 48 #[.string s] w fun e w' => e = .returned (.bool (sShort s.data.toList)) ∧ Below w.heap.size w w' := by
  have hl := size_list s
  by_cases h0 : s.size ≤ 65536
  · skip
    have HR : Hid (sShort s.data.toList = true) := by show _ = _; unfold sShort; rw [hl]; simp [h0]
    rw [HR.out]
    clear HR hl
    go_enter Tryd.func48, Tryd.ntmps48
    go_wp2_with fail
    go_ret
    exact ⟨ret_bool (by simp; omega), Below.refl _ _⟩
  · skip
    have HR : Hid (sShort s.data.toList = false) := by show _ = _; unfold sShort; rw [hl]; simp [h0]
    rw [HR.out]
    clear HR hl
    go_enter Tryd.func48, Tryd.ntmps48
    go_wp2_with fail
    go_ret
    exact ⟨ret_bool (by simp; omega), Below.refl _ _⟩

set_option maxHeartbeats 4000000 in
theorem nameOrEmpty_any (s : ByteArray) (w : World) (hs : s.size ≤ 1000000) : Calls Tryd.prog 61 #[.string s] w fun e w' => e = .returned (.bool (sNameE s.data.toList)) ∧ Below w.heap.size w w' := by
  have hl := Sp.toList_data s
  by_cases h0 : s.data.toList = []
  · have e0 : s.toList.isEmpty = true := by rw [hl, h0]; rfl
    have HR : Hid (sNameE s.data.toList = true) := by show _ = _; simp [sNameE, h0]
    rw [HR.out]
    clear HR hl h0
    go_enter Tryd.func61, Tryd.ntmps61
    go_wp2_with fail
    go_ret
    exact ⟨ret_bool (by first | rfl | simp [*] | (simp; omega)), Below.refl _ _⟩
  · have e0 : s.toList.isEmpty = false := by rw [hl]; cases h : s.data.toList; exact absurd h h0; rfl
    have HR : Hid (sNameE s.data.toList = Sp.nm s.data.toList) := by show _ = _; simp [sNameE, h0]
    rw [HR.out]
    clear HR hl h0
    obtain ⟨b, HB⟩ := hid_ex (Sp.nm s.data.toList)
    have hc : ∀ w : World, Calls Tryd.prog 49 #[.string s] w fun e w' => e = .returned (.bool b) ∧ Below w.heap.size w w' := fun w => by rw [← HB.out]; exact name_any s w hs
    rw [HB.out]
    clear HB
    go_enter Tryd.func61, Tryd.ntmps61
    go_wp2_with (go_at_call 49; refine (hc _).mono ?_; rintro e w' ⟨rfl, hb⟩)
    go_ret
    exact ⟨rfl, hb⟩

set_option maxHeartbeats 4000000 in
theorem arithmetic_any (s : ByteArray) (w : World) (hs : s.size ≤ 1000000) : Calls Tryd.prog 52 #[.string s] w fun e w' => e = .returned (.bool (sArith s.data.toList)) ∧ Below w.heap.size w w' := by
  have hl := Sp.toList_data s
  by_cases h0 : s.data.toList = [43]
  · have e0 : (s.toList == [43]) = true := by rw [hl, h0]; rfl
    have HR : Hid (sArith s.data.toList = true) := by show _ = _; rw [h0]; rfl
    rw [HR.out]
    clear HR hl h0
    go_enter Tryd.func52, Tryd.ntmps52
    go_wp2_with fail
    go_ret
    exact ⟨ret_bool (by first | rfl | simp [*] | (simp; omega)), Below.refl _ _⟩
  have e0 : (s.toList == [43]) = false := by rw [hl]; exact beq_eq_false_iff_ne.2 h0
  by_cases h1 : s.data.toList = [45]
  · have e1 : (s.toList == [45]) = true := by rw [hl, h1]; rfl
    have HR : Hid (sArith s.data.toList = true) := by show _ = _; rw [h1]; rfl
    rw [HR.out]
    clear HR hl h0 h1
    go_enter Tryd.func52, Tryd.ntmps52
    go_wp2_with fail
    go_ret
    exact ⟨ret_bool (by first | rfl | simp [*] | (simp; omega)), Below.refl _ _⟩
  have e1 : (s.toList == [45]) = false := by rw [hl]; exact beq_eq_false_iff_ne.2 h1
  by_cases h2 : s.data.toList = [42]
  · have e2 : (s.toList == [42]) = true := by rw [hl, h2]; rfl
    have HR : Hid (sArith s.data.toList = true) := by show _ = _; rw [h2]; rfl
    rw [HR.out]
    clear HR hl h0 h1 h2
    go_enter Tryd.func52, Tryd.ntmps52
    go_wp2_with fail
    go_ret
    exact ⟨ret_bool (by first | rfl | simp [*] | (simp; omega)), Below.refl _ _⟩
  have e2 : (s.toList == [42]) = false := by rw [hl]; exact beq_eq_false_iff_ne.2 h2
  by_cases h3 : s.data.toList = [47, 47]
  · have e3 : (s.toList == [47, 47]) = true := by rw [hl, h3]; rfl
    have HR : Hid (sArith s.data.toList = true) := by show _ = _; rw [h3]; rfl
    rw [HR.out]
    clear HR hl h0 h1 h2 h3
    go_enter Tryd.func52, Tryd.ntmps52
    go_wp2_with fail
    go_ret
    exact ⟨ret_bool (by first | rfl | simp [*] | (simp; omega)), Below.refl _ _⟩
  have e3 : (s.toList == [47, 47]) = false := by rw [hl]; exact beq_eq_false_iff_ne.2 h3
  by_cases h4 : s.data.toList = [37]
  · have e4 : (s.toList == [37]) = true := by rw [hl, h4]; rfl
    have HR : Hid (sArith s.data.toList = true) := by show _ = _; rw [h4]; rfl
    rw [HR.out]
    clear HR hl h0 h1 h2 h3 h4
    go_enter Tryd.func52, Tryd.ntmps52
    go_wp2_with fail
    go_ret
    exact ⟨ret_bool (by first | rfl | simp [*] | (simp; omega)), Below.refl _ _⟩
  have e4 : (s.toList == [37]) = false := by rw [hl]; exact beq_eq_false_iff_ne.2 h4
  by_cases h5 : s.data.toList = [42, 42]
  · have e5 : (s.toList == [42, 42]) = true := by rw [hl, h5]; rfl
    have HR : Hid (sArith s.data.toList = true) := by show _ = _; rw [h5]; rfl
    rw [HR.out]
    clear HR hl h0 h1 h2 h3 h4 h5
    go_enter Tryd.func52, Tryd.ntmps52
    go_wp2_with fail
    go_ret
    exact ⟨ret_bool (by first | rfl | simp [*] | (simp; omega)), Below.refl _ _⟩
  have e5 : (s.toList == [42, 42]) = false := by rw [hl]; exact beq_eq_false_iff_ne.2 h5
  have HR : Hid (sArith s.data.toList = false) := by show _ = _; simp only [sArith, h0, h1, h2, h3, h4, h5, decide_false, Bool.or_self]
  rw [HR.out]
  clear HR hl h0 h1 h2 h3 h4 h5
  go_enter Tryd.func52, Tryd.ntmps52
  go_wp2_with fail
  go_ret
  exact ⟨ret_bool (by first | rfl | simp [*] | (simp; omega)), Below.refl _ _⟩

set_option maxHeartbeats 4000000 in
theorem comparison_any (s : ByteArray) (w : World) (hs : s.size ≤ 1000000) : Calls Tryd.prog 53 #[.string s] w fun e w' => e = .returned (.bool (sComp s.data.toList)) ∧ Below w.heap.size w w' := by
  have hl := Sp.toList_data s
  by_cases h0 : s.data.toList = [61, 61]
  · have e0 : (s.toList == [61, 61]) = true := by rw [hl, h0]; rfl
    have HR : Hid (sComp s.data.toList = true) := by show _ = _; rw [h0]; rfl
    rw [HR.out]
    clear HR hl h0
    go_enter Tryd.func53, Tryd.ntmps53
    go_wp2_with fail
    go_ret
    exact ⟨ret_bool (by first | rfl | simp [*] | (simp; omega)), Below.refl _ _⟩
  have e0 : (s.toList == [61, 61]) = false := by rw [hl]; exact beq_eq_false_iff_ne.2 h0
  by_cases h1 : s.data.toList = [33, 61]
  · have e1 : (s.toList == [33, 61]) = true := by rw [hl, h1]; rfl
    have HR : Hid (sComp s.data.toList = true) := by show _ = _; rw [h1]; rfl
    rw [HR.out]
    clear HR hl h0 h1
    go_enter Tryd.func53, Tryd.ntmps53
    go_wp2_with fail
    go_ret
    exact ⟨ret_bool (by first | rfl | simp [*] | (simp; omega)), Below.refl _ _⟩
  have e1 : (s.toList == [33, 61]) = false := by rw [hl]; exact beq_eq_false_iff_ne.2 h1
  by_cases h2 : s.data.toList = [60]
  · have e2 : (s.toList == [60]) = true := by rw [hl, h2]; rfl
    have HR : Hid (sComp s.data.toList = true) := by show _ = _; rw [h2]; rfl
    rw [HR.out]
    clear HR hl h0 h1 h2
    go_enter Tryd.func53, Tryd.ntmps53
    go_wp2_with fail
    go_ret
    exact ⟨ret_bool (by first | rfl | simp [*] | (simp; omega)), Below.refl _ _⟩
  have e2 : (s.toList == [60]) = false := by rw [hl]; exact beq_eq_false_iff_ne.2 h2
  by_cases h3 : s.data.toList = [60, 61]
  · have e3 : (s.toList == [60, 61]) = true := by rw [hl, h3]; rfl
    have HR : Hid (sComp s.data.toList = true) := by show _ = _; rw [h3]; rfl
    rw [HR.out]
    clear HR hl h0 h1 h2 h3
    go_enter Tryd.func53, Tryd.ntmps53
    go_wp2_with fail
    go_ret
    exact ⟨ret_bool (by first | rfl | simp [*] | (simp; omega)), Below.refl _ _⟩
  have e3 : (s.toList == [60, 61]) = false := by rw [hl]; exact beq_eq_false_iff_ne.2 h3
  by_cases h4 : s.data.toList = [62]
  · have e4 : (s.toList == [62]) = true := by rw [hl, h4]; rfl
    have HR : Hid (sComp s.data.toList = true) := by show _ = _; rw [h4]; rfl
    rw [HR.out]
    clear HR hl h0 h1 h2 h3 h4
    go_enter Tryd.func53, Tryd.ntmps53
    go_wp2_with fail
    go_ret
    exact ⟨ret_bool (by first | rfl | simp [*] | (simp; omega)), Below.refl _ _⟩
  have e4 : (s.toList == [62]) = false := by rw [hl]; exact beq_eq_false_iff_ne.2 h4
  by_cases h5 : s.data.toList = [62, 61]
  · have e5 : (s.toList == [62, 61]) = true := by rw [hl, h5]; rfl
    have HR : Hid (sComp s.data.toList = true) := by show _ = _; rw [h5]; rfl
    rw [HR.out]
    clear HR hl h0 h1 h2 h3 h4 h5
    go_enter Tryd.func53, Tryd.ntmps53
    go_wp2_with fail
    go_ret
    exact ⟨ret_bool (by first | rfl | simp [*] | (simp; omega)), Below.refl _ _⟩
  have e5 : (s.toList == [62, 61]) = false := by rw [hl]; exact beq_eq_false_iff_ne.2 h5
  by_cases h6 : s.data.toList = [105, 110]
  · have e6 : (s.toList == [105, 110]) = true := by rw [hl, h6]; rfl
    have HR : Hid (sComp s.data.toList = true) := by show _ = _; rw [h6]; rfl
    rw [HR.out]
    clear HR hl h0 h1 h2 h3 h4 h5 h6
    go_enter Tryd.func53, Tryd.ntmps53
    go_wp2_with fail
    go_ret
    exact ⟨ret_bool (by first | rfl | simp [*] | (simp; omega)), Below.refl _ _⟩
  have e6 : (s.toList == [105, 110]) = false := by rw [hl]; exact beq_eq_false_iff_ne.2 h6
  by_cases h7 : s.data.toList = [110, 111, 116, 32, 105, 110]
  · have e7 : (s.toList == [110, 111, 116, 32, 105, 110]) = true := by rw [hl, h7]; rfl
    have HR : Hid (sComp s.data.toList = true) := by show _ = _; rw [h7]; rfl
    rw [HR.out]
    clear HR hl h0 h1 h2 h3 h4 h5 h6 h7
    go_enter Tryd.func53, Tryd.ntmps53
    go_wp2_with fail
    go_ret
    exact ⟨ret_bool (by first | rfl | simp [*] | (simp; omega)), Below.refl _ _⟩
  have e7 : (s.toList == [110, 111, 116, 32, 105, 110]) = false := by rw [hl]; exact beq_eq_false_iff_ne.2 h7
  by_cases h8 : s.data.toList = [105, 115]
  · have e8 : (s.toList == [105, 115]) = true := by rw [hl, h8]; rfl
    have HR : Hid (sComp s.data.toList = true) := by show _ = _; rw [h8]; rfl
    rw [HR.out]
    clear HR hl h0 h1 h2 h3 h4 h5 h6 h7 h8
    go_enter Tryd.func53, Tryd.ntmps53
    go_wp2_with fail
    go_ret
    exact ⟨ret_bool (by first | rfl | simp [*] | (simp; omega)), Below.refl _ _⟩
  have e8 : (s.toList == [105, 115]) = false := by rw [hl]; exact beq_eq_false_iff_ne.2 h8
  by_cases h9 : s.data.toList = [105, 115, 32, 110, 111, 116]
  · have e9 : (s.toList == [105, 115, 32, 110, 111, 116]) = true := by rw [hl, h9]; rfl
    have HR : Hid (sComp s.data.toList = true) := by show _ = _; rw [h9]; rfl
    rw [HR.out]
    clear HR hl h0 h1 h2 h3 h4 h5 h6 h7 h8 h9
    go_enter Tryd.func53, Tryd.ntmps53
    go_wp2_with fail
    go_ret
    exact ⟨ret_bool (by first | rfl | simp [*] | (simp; omega)), Below.refl _ _⟩
  have e9 : (s.toList == [105, 115, 32, 110, 111, 116]) = false := by rw [hl]; exact beq_eq_false_iff_ne.2 h9
  have HR : Hid (sComp s.data.toList = false) := by show _ = _; simp only [sComp, h0, h1, h2, h3, h4, h5, h6, h7, h8, h9, decide_false, Bool.or_self]
  rw [HR.out]
  clear HR hl h0 h1 h2 h3 h4 h5 h6 h7 h8 h9
  go_enter Tryd.func53, Tryd.ntmps53
  go_wp2_with fail
  go_ret
  exact ⟨ret_bool (by first | rfl | simp [*] | (simp; omega)), Below.refl _ _⟩

theorem exprV_any (tv : Value) (x0 x1 : Int) (x2 : Sp.Bs) (x3 : Int) (pk : Option Addr) (m ck : Nat) (w : World) : Calls Tryd.prog 44 #[tv, .agg #[.int .i64 x0, .int .i64 x1, .string ⟨x2.toArray⟩, .int .i64 x3, .slice pk m ck]] w fun e w' => e = .returned (.bool (isExpr x0)) ∧ Below w.heap.size w w' := by
  by_cases h0 : 1 ≤ x0
  · skip
    by_cases h1 : x0 ≤ 21
    · skip
      have HR : Hid (isExpr x0 = true) := by show _ = _; simp [isExpr, h0, h1]
      rw [HR.out]
      clear HR
      go_enter Tryd.func44, Tryd.ntmps44
      go_wp2_with fail
      go_ret
      exact ⟨ret_bool (by first | rfl | simp [*] | (simp; omega)), (Below.refl _ _).alloc (Nat.le_refl _) _⟩
    · skip
      have HR : Hid (isExpr x0 = false) := by show _ = _; simp [isExpr, h0, h1]
      rw [HR.out]
      clear HR
      go_enter Tryd.func44, Tryd.ntmps44
      go_wp2_with fail
      go_ret
      exact ⟨ret_bool (by first | rfl | simp [*] | (simp; omega)), (Below.refl _ _).alloc (Nat.le_refl _) _⟩
  · skip
    have HR : Hid (isExpr x0 = false) := by show _ = _; simp [isExpr, h0]
    rw [HR.out]
    clear HR
    go_enter Tryd.func44, Tryd.ntmps44
    go_wp2_with fail
    go_ret
    exact ⟨ret_bool (by first | rfl | simp [*] | (simp; omega)), (Below.refl _ _).alloc (Nat.le_refl _) _⟩

end Go.Proofs.YtkmmcphiijolkaaDoor
