/-
  The reference's Key, Fit; one, yes, at this program.
-/
import Derived.Test.YtaghkidelbepnaaDiA
set_option linter.unusedVariables false
set_option linter.unusedSimpArgs false
namespace Go.Proofs.Ytaghkidelbepnaa
open Go.RowKit
open Di

theorem emp_is (s : ByteArray) : s.toList.isEmpty = decide (s = Di.mt) := by
  rw [Bool.eq_iff_iff, Lib.toList_data, List.isEmpty_iff, decide_eq_true_eq]
  exact ⟨fun h => bytes_ext h, fun h => by rw [h]; rfl⟩
theorem keyOk_is (k n : Int) (s : ByteArray) : keyOk (k, n, s) = if k = 0 then (n == 0) && s.toList.isEmpty else if k = 1 then ((n == 0) || (n == 1)) && s.toList.isEmpty else if k = 2 then s.toList.isEmpty else if k = 3 then (n == 0) else false := by
  unfold keyOk
  rw [emp_is]
  rfl
set_option maxHeartbeats 2000000 in
theorem rKey_is {v : V} {r : Bool} (hr : Hid (keyOk v = r)) (w : World) : Calls Try.prog 18 #[vV v] w fun e w' => e = .returned (.bool r) ∧ Below w.heap.size w w' := by
  obtain ⟨k, n, s⟩ := v
  have HK : Hid (keyOk (k, n, s) = r) := hr
  show Calls Try.prog 18 #[.agg #[.int .i64 k, .int .i64 n, .string s]] w _
  rw [keyOk_is] at HK
  obtain ⟨e, he⟩ : ∃ e, s.toList.isEmpty = e := ⟨_, rfl⟩
  obtain ⟨z, hz⟩ : ∃ z, (n == 0) = z := ⟨_, rfl⟩
  obtain ⟨o, ho⟩ : ∃ o, (n == 1) = o := ⟨_, rfl⟩
  rw [he, hz, ho] at HK
  have HB : Hid (Below w.heap.size w (w.alloc (.cells #[.int .i64 k, .int .i64 n, .string s] 32))) := (Below.refl _ _).alloc (Nat.le_refl _) _
  clear hr
  by_cases h0 : k = 0
  · subst h0
    have HR : Hid (r = (z && e)) := (show _ = _ by rw [← HK.out]; rfl)
    rw [HR.out]
    clear HK
    cases z
    all_goals
      go_enter Try.func18, Try.ntmps18
      go_wp2_with fail
      go_ret
      exact ⟨rfl, HB.out⟩
  by_cases h1 : k = 1
  · subst h1
    have HR : Hid (r = ((z || o) && e)) := (show _ = _ by rw [← HK.out]; rfl)
    rw [HR.out]
    clear HK
    cases z <;> cases o
    all_goals
      go_enter Try.func18, Try.ntmps18
      go_wp2_with fail
      go_ret
      exact ⟨rfl, HB.out⟩
  by_cases h2 : k = 2
  · subst h2
    have HR : Hid (r = e) := (show _ = _ by rw [← HK.out]; rfl)
    rw [HR.out]
    clear HK
    go_enter Try.func18, Try.ntmps18
    go_wp2_with fail
    go_ret
    exact ⟨rfl, HB.out⟩
  by_cases h3 : k = 3
  · subst h3
    have HR : Hid (r = z) := (show _ = _ by rw [← HK.out]; rfl)
    rw [HR.out]
    clear HK
    go_enter Try.func18, Try.ntmps18
    go_wp2_with fail
    go_ret
    exact ⟨rfl, HB.out⟩
  · have HR : Hid (r = false) := (show _ = _ by rw [← HK.out, if_neg h0, if_neg h1, if_neg h2, if_neg h3])
    rw [HR.out]
    have g0 : (k == 0) = false := by simp; exact h0
    have g1 : (k == 1) = false := by simp; exact h1
    have g2 : (k == 2) = false := by simp; exact h2
    have g3 : (k == 3) = false := by simp; exact h3
    clear HK
    go_enter Try.func18, Try.ntmps18
    go_wp2_with fail
    go_ret
    exact ⟨rfl, HB.out⟩
/-- What is told of a value in a variable of the call's own. -/
theorem ret_V {R : Ending → World → Prop} {fn : Func} {k : Nat} (hf : fn.results = #[.cell k 32]) (tmps : Array Value) (w : World) (b : Nat) (x : V) (fr : Nat × Nat) (hp : tmps[k]? = some (.pointer (some ⟨b, 0, none⟩))) (hb : w.heap[b]? = some (.cells #[.int .i64 x.1, .int .i64 x.2.1, .string x.2.2] 32 fr)) (h : R (.returned (vV x)) w) :
    bodyPost Try.prog fn R Exit.ret { tmps := tmps, defers := [] } w := by
  have h0 : w.cell? ⟨b, 0, none⟩ = some (.int .i64 x.1) := by simp [World.cell?, hb]
  have h1 : w.cell? ⟨b, 1, none⟩ = some (.int .i64 x.2.1) := by simp [World.cell?, hb]
  have h2 : w.cell? ⟨b, 2, none⟩ = some (.string x.2.2) := by simp [World.cell?, hb]
  refine ⟨rfl, vV x, ?_, h⟩
  simp [results, hf, hp, go_sem, h0, h1, h2]
theorem i64_and3 (n : Int) : bits .and .i64 n 3 = n % 4 := by
  have h1 : (BitVec.ofInt 64 3).toNat = 2 ^ 2 - 1 := by decide
  have key : (BitVec.ofInt 64 n &&& BitVec.ofInt 64 3).toNat = (n % ((2 ^ 64 : Nat) : Int)).toNat % 2 ^ 2 := by
    rw [BitVec.toNat_and, BitVec.toNat_ofInt, h1, Nat.and_two_pow_sub_one_eq_mod]
  show IntKind.i64.wrap ((BitVec.ofInt 64 n &&& BitVec.ofInt 64 3).toNat : Nat) = n % 4
  rw [key, IntKind.wrap_i64]
  omega
theorem i64_and1 (n : Int) : bits .and .i64 n 1 = n % 2 := by
  have h1 : (BitVec.ofInt 64 1).toNat = 2 ^ 1 - 1 := by decide
  have key : (BitVec.ofInt 64 n &&& BitVec.ofInt 64 1).toNat = (n % ((2 ^ 64 : Nat) : Int)).toNat % 2 ^ 1 := by
    rw [BitVec.toNat_and, BitVec.toNat_ofInt, h1, Nat.and_two_pow_sub_one_eq_mod]
  show IntKind.i64.wrap ((BitVec.ofInt 64 n &&& BitVec.ofInt 64 1).toNat : Nat) = n % 2
  rw [key, IntKind.wrap_i64]
  omega
theorem one_is (n : Int) (w : World) : Calls Try.prog 32 #[.int .i64 n] w fun e w' => e = .returned (.agg #[.int .i64 2, .int .i64 n, .string ⟨#[]⟩]) ∧ Below w.heap.size w w' := by
  have HB : Hid (Below w.heap.size w (w.alloc (.cells #[.int .i64 2, .int .i64 n, .string ⟨#[]⟩] 32))) := (Below.refl _ _).alloc (Nat.le_refl _) _
  go_enter Try.func32, Try.ntmps32
  go_wp2_with fail
  refine ret_V rfl _ _ w.heap.size (2, n, Di.mt) _ rfl (show (w.heap.push _)[_]? = _ by rw [Array.getElem?_push, if_pos rfl]; rfl) ⟨rfl, HB.out⟩
theorem yes_is (w : World) : Calls Try.prog 33 #[] w fun e w' => e = .returned (.agg #[.int .i64 1, .int .i64 1, .string ⟨#[]⟩]) ∧ Below w.heap.size w w' := by
  have HB : Hid (Below w.heap.size w (w.alloc (.cells #[.int .i64 1, .int .i64 1, .string ⟨#[]⟩] 32))) := (Below.refl _ _).alloc (Nat.le_refl _) _
  go_enter Try.func33, Try.ntmps33
  go_wp2_with fail
  refine ret_V rfl _ _ w.heap.size (1, 1, Di.mt) _ rfl (show (w.heap.push _)[_]? = _ by rw [Array.getElem?_push, if_pos rfl]; rfl) ⟨rfl, HB.out⟩
theorem two_heap (w : World) (o1 o2 : Obj) : ((w.alloc o1).alloc o2).heap[w.heap.size + 1]? = some o2 := by
  show ((w.heap.push _).push _)[_]? = _
  rw [Array.getElem?_push, if_pos (by simp)]
theorem two_below (w : World) (o1 o2 : Obj) : Below w.heap.size w ((w.alloc o1).alloc o2) := ((Below.refl _ w).alloc (Nat.le_refl _) _).alloc (by simp) _
set_option maxHeartbeats 2000000 in
theorem rFit_is {v r : V} (hr : Hid (fitK v = r)) (w : World) : Calls Try.prog 24 #[vV v] w fun e w' => e = .returned (.agg #[.int .i64 r.1, .int .i64 r.2.1, .string r.2.2]) ∧ Below w.heap.size w w' := by
  obtain ⟨k, n, s⟩ := v
  have HK : Hid (fitK (k, n, s) = r) := hr
  show Calls Try.prog 24 #[.agg #[.int .i64 k, .int .i64 n, .string s]] w _
  obtain ⟨q, hq⟩ : ∃ q, k % 4 = q := ⟨_, rfl⟩
  have hb := i64_and3 k
  have hb1 := i64_and1 n
  rw [hq] at hb
  obtain ⟨m, hm⟩ : ∃ m, n % 2 = m := ⟨_, rfl⟩
  rw [hm] at hb1
  have hqq : q = 0 ∨ q = 1 ∨ q = 2 ∨ q = 3 := by omega
  have HK2 : Hid ((if q = 0 then zeroV else if q = 1 then (1, m, Di.mt) else if q = 2 then (2, n, Di.mt) else (3, 0, s)) = r) := (show _ = _ by rw [← HK.out]; unfold fitK; simp only [hq, hm])
  clear hr HK hq hm
  rcases hqq with rfl | rfl | rfl | rfl
  · have HR : Hid (r = zeroV) := (show _ = _ by rw [← HK2.out]; rfl)
    rw [HR.out]
    clear HK2
    go_enter Try.func24, Try.ntmps24
    go_wp2_with fail
    exact ret_V rfl _ _ (w.heap.size + 1) zeroV _ rfl (two_heap _ _ _) ⟨rfl, two_below _ _ _⟩
  · have HR : Hid (r = (1, m, Di.mt)) := (show _ = _ by rw [← HK2.out]; rfl)
    rw [HR.out]
    clear HK2
    go_enter Try.func24, Try.ntmps24
    go_wp2_with fail
    exact ret_V rfl _ _ (w.heap.size + 1) (1, m, Di.mt) _ rfl (two_heap _ _ _) ⟨rfl, two_below _ _ _⟩
  · have HR : Hid (r = (2, n, Di.mt)) := (show _ = _ by rw [← HK2.out]; rfl)
    rw [HR.out]
    clear HK2
    go_enter Try.func24, Try.ntmps24
    go_wp2_with fail
    exact ret_V rfl _ _ (w.heap.size + 1) (2, n, Di.mt) _ rfl (two_heap _ _ _) ⟨rfl, two_below _ _ _⟩
  · have HR : Hid (r = (3, 0, s)) := (show _ = _ by rw [← HK2.out]; rfl)
    rw [HR.out]
    clear HK2
    go_enter Try.func24, Try.ntmps24
    go_wp2_with fail
    exact ret_V rfl _ _ (w.heap.size + 1) (3, 0, s) _ rfl (two_heap _ _ _) ⟨rfl, two_below _ _ _⟩
end Go.Proofs.Ytaghkidelbepnaa
