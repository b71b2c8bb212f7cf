/-
  The reference's Same, at this program.
-/
import Derived.Test.YtcpjogjkjbillaaTxF
set_option linter.unusedVariables false
set_option linter.unusedSimpArgs false
namespace Go.Proofs.Ytcpjogjkjbillaa
open Go.RowKit

set_option maxHeartbeats 8000000 in
set_option maxRecDepth 20000 in
theorem rSame_is {l m : List Tx.Bs} {u v : Value} {r : Bool} (h : Hid ((l == m) = r)) (hl : l.length ≤ 1000000) (hm : m.length ≤ 1000000) (w : World) (hu : Hid (SRow u l w)) (hv : Hid (SRow v m w)) :
    Calls Try.prog 28 #[u, v] w fun e' w' => e' = .returned (.bool r) ∧ Below w.heap.size w w' := by
  obtain ⟨pa, ca, rfl⟩ := hu.out.form
  obtain ⟨pb, cb, rfl⟩ := hv.out.form
  obtain ⟨n, hn⟩ : ∃ n, n = l.length := ⟨_, rfl⟩
  obtain ⟨k, hk⟩ : ∃ k, k = m.length := ⟨_, rfl⟩
  rw [← hn] at hu hl ⊢
  rw [← hk] at hv hm ⊢
  have HN := Lib.hid hn
  have HK := Lib.hid hk
  by_cases hne : n = k
  · subst hne
    clear hn hk
    go_enter Try.func28, Try.ntmps28
    go_wp2_with fail
    go_loopw [5] (fun v5 wr => ∃ i : Nat, v5 = .int .i64 (i : Int) ∧ i ≤ n ∧ Hid (l.take i = m.take i) ∧ Hid (Below w.heap.size w wr)) (fun v5 _ => n - (intOf v5).toNat)
    case atStart => exact ⟨0, rfl, Nat.zero_le _, (show _ = _ from rfl), (show Below _ _ _ from Below.refl _ _)⟩
    case round =>
      obtain ⟨i, rfl, hi, HT, HB⟩ := hrel
      by_cases hlt : i < n
      · obtain ⟨x, hx⟩ : ∃ x, l[i]? = some x := ⟨_, List.getElem?_eq_getElem (by have := HN.out; omega)⟩
        obtain ⟨y, hy⟩ : ∃ y, m[i]? = some y := ⟨_, List.getElem?_eq_getElem (by have := HK.out; omega)⟩
        obtain ⟨ga, oa, rfl, a0⟩ := (hu.out.below HB.out).cell hx
        obtain ⟨gb, ob, rfl, b0⟩ := (hv.out.below HB.out).cell hy
        have hl1 := List.take_add_one (l := l) (i := i)
        have hm1 := List.take_add_one (l := m) (i := i)
        rw [hx] at hl1
        rw [hy] at hm1
        cases hxy : x == y with
        | true =>
          have e1 : x = y := by simpa using hxy
          subst e1
          have HT2 : Hid (l.take (i + 1) = m.take (i + 1)) := (show _ = _ by rw [hl1, hm1, HT.out])
          clear hl1 hm1 HT hx hy h
          go_wp2_with fail
          go_region
          go_wp2_with fail
          go_roundw
          case rel => exact ⟨i + 1, by go_num, by omega, HT2, (show Below _ _ _ from HB.out.drew)⟩
          case measure => simp [intOf]; omega
        | false =>
          have hr : r = false := by
            rw [← h.out]
            rw [Bool.eq_false_iff]
            intro g
            have g := eq_of_beq g
            rw [g, hy] at hx
            injection hx with hx
            rw [hx] at hxy
            simp at hxy
          subst hr
          clear hl1 hm1 HT hx hy h
          go_wp2_with fail
          go_region
          go_wp2_with fail
          go_ret
          exact ⟨rfl, HB.out.drew⟩
      · obtain rfl : i = n := by omega
        have hr : r = true := by
          rw [← h.out]
          have := HT.out
          rw [List.take_of_length_le (by rw [← HN.out]; exact Nat.le_refl _), List.take_of_length_le (by rw [← HK.out]; exact Nat.le_refl _)] at this
          rw [this]
          simp
        subst hr
        clear HT h
        go_wp2_with fail
        go_ret
        exact ⟨rfl, HB.out⟩
  · have hr : r = false := by
      rw [← h.out, Bool.eq_false_iff]
      intro g
      have g := eq_of_beq g
      rw [g] at hn
      omega
    subst hr
    clear hn hk h
    have g0 : ((n : Int) == (k : Int)) = false := beq_eq_false_iff_ne.2 (by omega)
    go_enter Try.func28, Try.ntmps28
    go_wp2_with fail
    go_ret
    exact ⟨rfl, Below.refl _ _⟩
end Go.Proofs.Ytcpjogjkjbillaa
