/-
  The reference's Find and Compare, at this program.
-/
import Derived.Test.YtcpjogjkjbillaaTxB
set_option linter.unusedVariables false
set_option linter.unusedSimpArgs false
namespace Go.Proofs.Ytcpjogjkjbillaa
open Go.RowKit

set_option maxHeartbeats 8000000 in
set_option maxRecDepth 20000 in
theorem rFind_is {s t : ByteArray} {r : Int} (h : Hid (Tx.findI s.data.toList t.data.toList = r)) (hs : s.size ≤ 140737488351232) (ht : t.size ≤ 140737488351232) (w : World) :
    Calls Try.prog 30 #[.string s, .string t] w fun e' w' => e' = .returned (.int .i64 r) ∧ Below w.heap.size w w' := by
  go_enter Try.func30, Try.ntmps30
  go_wp2_with fail
  go_loopw [5] (fun v5 wr => ∃ k : Nat, v5 = .int .i64 (k : Int) ∧ k ≤ s.size + 1 ∧ Hid (∀ j, j < k → Tx.pre t.data.toList (s.data.toList.drop j) = false) ∧ Hid (Below w.heap.size w wr)) (fun v5 _ => s.size + 1 - (intOf v5).toNat)
  case atStart => exact ⟨0, rfl, Nat.zero_le _, (show ∀ _, _ from fun j hj => absurd hj (Nat.not_lt_zero j)), (show Below _ _ _ from Below.refl _ _)⟩
  case round =>
    obtain ⟨k, rfl, hk, HK, HB⟩ := hrel
    by_cases hlt : k ≤ s.size
    · obtain ⟨v, hv⟩ : ∃ v, Tx.pre t.data.toList (s.data.toList.drop k) = v := ⟨_, rfl⟩
      have HV := Lib.hid hv
      have hc := Lib.hid (rat_is HV hs ht hlt wr)
      clear hv
      cases v with
      | true =>
        have HR : Hid (r = (k : Int)) := (show _ = _ by
          rw [← h.out]
          unfold Tx.findI
          rw [Tx.find_at HV.out HK.out])
        clear h HK HV
        go_wp2_with (go_at_call 39; refine hc.out.mono ?_; clear hc; rintro e w' ⟨rfl, rfl⟩)
        go_ret
        exact ⟨ret_int HR.out.symm, HB.out⟩
      | false =>
        have HN : Hid (∀ j, j < k + 1 → Tx.pre t.data.toList (s.data.toList.drop j) = false) := (show ∀ _, _ from fun j hj => by
          rcases Nat.lt_or_ge j k with g | g
          · exact HK.out j g
          · rw [show j = k by omega]; exact HV.out)
        clear h HK HV
        go_wp2_with (go_at_call 39; refine hc.out.mono ?_; clear hc; rintro e w' ⟨rfl, rfl⟩)
        go_roundw
        case rel => exact ⟨k + 1, by go_num, by omega, HN, HB⟩
        case measure => simp [intOf]; omega
    · have HR : Hid (r = -1) := (show _ = _ by
        rw [← h.out]
        unfold Tx.findI
        rw [Tx.find_none_of (fun j hj => HK.out j (by rw [size_list] at hj; omega))])
      clear h HK
      go_wp2_with fail
      go_ret
      exact ⟨ret_int HR.out.symm, HB.out⟩
theorem cmp_step {a b : ByteArray} {i : Nat} (h1 : i < a.size) (h2 : i < b.size) : Tx.cmp (a.data.toList.drop i) (b.data.toList.drop i) = if a[i].toNat < b[i].toNat then -1 else if b[i].toNat < a[i].toNat then 1 else Tx.cmp (a.data.toList.drop (i + 1)) (b.data.toList.drop (i + 1)) := by
  rw [List.drop_eq_getElem_cons (l := a.data.toList) (by simpa using h1), List.drop_eq_getElem_cons (l := b.data.toList) (by simpa using h2)]
  rfl
theorem cmp_end : ∀ (x y : Tx.Bs), x = [] ∨ y = [] → Tx.cmp x y = if x.length < y.length then -1 else if y.length < x.length then 1 else 0
  | [], [], _ => rfl
  | [], _ :: _, _ => rfl
  | _ :: _, [], _ => rfl
  | _ :: _, _ :: _, h => by rcases h with h | h <;> cases h
set_option maxHeartbeats 8000000 in
set_option maxRecDepth 20000 in
theorem rCompare_is {a b : ByteArray} {r : Int} (h : Hid (Tx.cmp a.data.toList b.data.toList = r)) (ha : a.size ≤ 140737488351232) (hb : b.size ≤ 140737488351232) (w : World) :
    Calls Try.prog 32 #[.string a, .string b] w fun e' w' => e' = .returned (.int .i64 r) ∧ Below w.heap.size w w' := by
  go_enter Try.func32, Try.ntmps32
  go_wp2_with fail
  go_loopw [5] (fun v5 wr => ∃ k : Nat, v5 = .int .i64 (k : Int) ∧ k ≤ a.size ∧ k ≤ b.size ∧ Hid (Tx.cmp (a.data.toList.drop k) (b.data.toList.drop k) = r) ∧ Hid (Below w.heap.size w wr)) (fun v5 _ => a.size - (intOf v5).toNat)
  case atStart => exact ⟨0, rfl, Nat.zero_le _, Nat.zero_le _, h, (show Below _ _ _ from Below.refl _ _)⟩
  case round =>
    clear h
    obtain ⟨k, rfl, hka, hkb, HK, HB⟩ := hrel
    by_cases h1 : k < a.size
    · by_cases h2 : k < b.size
      · have hst := HK.out
        rw [cmp_step h1 h2] at hst
        by_cases g1 : a[k].toNat < b[k].toNat
        · rw [if_pos g1] at hst
          subst hst
          have g1' : (a[k].toNat : Int) < (b[k].toNat : Int) := by omega
          clear HK g1
          go_wp2_with fail
          go_region
          go_wp2_with fail
          go_ret
          exact ⟨rfl, HB.out.drew⟩
        · by_cases g2 : b[k].toNat < a[k].toNat
          · rw [if_neg g1, if_pos g2] at hst
            subst hst
            have g1' : ¬ (a[k].toNat : Int) < (b[k].toNat : Int) := by omega
            have g2' : (b[k].toNat : Int) < (a[k].toNat : Int) := by omega
            clear HK g1 g2
            go_wp2_with fail
            go_region
            go_wp2_with fail
            go_region
            go_wp2_with fail
            go_ret
            exact ⟨rfl, HB.out.drew.drew⟩
          · rw [if_neg g1, if_neg g2] at hst
            have HN := Lib.hid hst
            have g1' : ¬ (a[k].toNat : Int) < (b[k].toNat : Int) := by omega
            have g2' : ¬ (b[k].toNat : Int) < (a[k].toNat : Int) := by omega
            clear HK g1 g2 hst
            go_wp2_with fail
            go_region
            go_wp2_with fail
            go_region
            go_wp2_with fail
            go_roundw
            case rel => exact ⟨k + 1, by go_num, by omega, by omega, HN, (show Below _ _ _ from HB.out.drew.drew)⟩
            case measure => simp [intOf]; omega
      · have hst := HK.out
        rw [cmp_end _ _ (Or.inr (List.drop_eq_nil_of_le (by rw [size_list]; omega)))] at hst
        rw [List.length_drop, List.length_drop, size_list, size_list, if_neg (by omega), if_pos (by omega)] at hst
        subst hst
        have g1 : ¬ (a.size : Int) < (b.size : Int) := by omega
        have g2 : (b.size : Int) < (a.size : Int) := by omega
        clear HK
        go_wp2_with fail
        go_ret
        exact ⟨rfl, HB.out⟩
    · have hst := HK.out
      rw [cmp_end _ _ (Or.inl (List.drop_eq_nil_of_le (by rw [size_list]; omega)))] at hst
      rw [List.length_drop, List.length_drop, size_list, size_list] at hst
      clear HK
      by_cases h2 : a.size < b.size
      · rw [if_pos (by omega)] at hst
        subst hst
        go_wp2_with fail
        go_ret
        exact ⟨rfl, HB.out⟩
      · rw [if_neg (by omega), if_neg (by omega)] at hst
        subst hst
        go_wp2_with fail
        go_ret
        exact ⟨rfl, HB.out⟩
end Go.Proofs.Ytcpjogjkjbillaa
