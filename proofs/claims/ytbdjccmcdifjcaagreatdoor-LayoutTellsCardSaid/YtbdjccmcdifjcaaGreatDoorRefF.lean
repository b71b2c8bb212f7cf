/-
  The reference's answer for operators, at this program.
-/
import Derived.Test.YtbdjccmcdifjcaaGreatDoorRefE
set_option linter.unusedVariables false
set_option linter.unusedSimpArgs false
namespace Go.Proofs.YtbdjccmcdifjcaaGreatDoor
open Go.RowKit Go.Shelf

namespace Sp
/-- The longest one of these with which s begins, if it is longer than b. -/
def best (s : Bs) : List Bs → Bs → Bs
  | [], b => b
  | o :: r, b => best s r (if b.length < o.length ∧ o.isPrefixOf s then o else b)
theorem best_mem (s : Bs) : ∀ (L : List Bs) (b : Bs), (best s L b = b ∨ (best s L b ∈ L ∧ (best s L b).isPrefixOf s = true)) ∧ b.length ≤ (best s L b).length ∧ ∀ o ∈ L, o.isPrefixOf s = true → o.length ≤ (best s L b).length := by
  intro L
  induction L with
  | nil => intro b; exact ⟨Or.inl rfl, Nat.le_refl _, fun o ho => by cases ho⟩
  | cons o r ih =>
    intro b
    rw [best]
    by_cases h : b.length < o.length ∧ o.isPrefixOf s = true
    · rw [if_pos h]
      obtain ⟨h1, h2, h3⟩ := ih o
      refine ⟨Or.inr ?_, by omega, ?_⟩
      · rcases h1 with h1 | ⟨h1, h4⟩
        · rw [h1]; exact ⟨by simp, h.2⟩
        · exact ⟨List.mem_cons_of_mem _ h1, h4⟩
      · intro x hx hp
        rcases List.mem_cons.1 hx with rfl | hx
        · exact h2
        · exact h3 x hx hp
    · rw [if_neg h]
      obtain ⟨h1, h2, h3⟩ := ih b
      refine ⟨?_, h2, ?_⟩
      · rcases h1 with h1 | ⟨h1, h4⟩
        · exact Or.inl h1
        · exact Or.inr ⟨List.mem_cons_of_mem _ h1, h4⟩
      · intro x hx hp
        rcases List.mem_cons.1 hx with rfl | hx
        · have : ¬ b.length < x.length := fun y => h ⟨y, hp⟩
          omega
        · exact h3 x hx hp
def opV (s : Bs) : Bs := (opsL.find? (·.isPrefixOf s)).getD []
theorem ref_in_ops : ∀ o ∈ refL, o ∈ opsL := by decide
theorem ops_in_ref : ∀ o ∈ opsL, o ∈ refL := by decide
theorem ops_down : opsL.Pairwise (fun a b => b.length ≤ a.length) := by decide
theorem ops_long : ∀ o ∈ opsL, 1 ≤ o.length := by decide
theorem best_ops (s : Bs) : best s refL [] = opV s := by
  obtain ⟨h1, _, h3⟩ := best_mem s refL []
  unfold opV
  cases hf : opsL.find? (·.isPrefixOf s) with
  | none =>
    rcases h1 with h1 | ⟨h1, h4⟩
    · exact h1
    · have := List.find?_eq_none.1 hf _ (ref_in_ops _ h1)
      exact absurd h4 this
  | some o =>
    have hm : o ∈ opsL := List.mem_of_find?_eq_some hf
    have hp0 := List.find?_some hf
    have hp : o.isPrefixOf s = true := hp0
    have hl := h3 o (ops_in_ref o hm) hp
    have h1l := ops_long o hm
    rcases h1 with h1 | ⟨h1, h4⟩
    · rw [h1] at hl
      simp at hl
      rw [hl] at h1l
      simp at h1l
    · obtain ⟨_, l1, l2, he, hno⟩ := List.find?_eq_some_iff_append.1 hf
      have hin := ref_in_ops _ h1
      have hdn := ops_down
      rw [he] at hin hdn
      have hle : (best s refL []).length ≤ o.length := by
        rcases List.mem_append.1 hin with hin | hin
        · have := hno _ hin
          rw [h4] at this
          simp at this
        · rcases List.mem_cons.1 hin with hin | hin
          · rw [hin]; exact Nat.le_refl _
          · exact (List.pairwise_cons.1 (List.pairwise_append.1 hdn).2.1).1 _ hin
      show best s refL [] = o
      have p1 := List.isPrefixOf_iff_prefix.1 h4
      have p2 := List.isPrefixOf_iff_prefix.1 hp
      exact (List.prefix_of_prefix_length_le p1 p2 hle).eq_of_length (by omega)
theorem tokOp_opV (s : Bs) : tokOp s = if opV s = [] then .error 10 else .ok ⟨4, opV s, 0, (opV s).length⟩ := by
  unfold tokOp opsFrom opV
  rw [List.drop_zero]
  cases hf : opsL.find? (·.isPrefixOf s) with
  | none => rfl
  | some o =>
    have h1l := ops_long o (List.mem_of_find?_eq_some hf)
    have : ¬ o = [] := by intro e; rw [e] at h1l; simp at h1l
    show _ = if o = [] then _ else _
    rw [if_neg this]
    rfl
/-- That a text begins with another, by its first bytes. -/
theorem prefix_take (o s : Bs) : o.isPrefixOf s = (decide (o.length ≤ s.length) && decide (s.take o.length = o)) := by
  rw [Bool.eq_iff_iff]
  simp only [Bool.and_eq_true, decide_eq_true_eq]
  rw [List.isPrefixOf_iff_prefix]
  constructor
  · intro h
    exact ⟨h.length_le, (List.prefix_iff_eq_take.1 h).symm⟩
  · rintro ⟨_, h⟩
    rw [← h]
    exact List.take_prefix _ _
end Sp

set_option maxHeartbeats 8000000 in
set_option maxRecDepth 100000 in
theorem rop_any (s : ByteArray) (hs : s.size ≤ 1000000) (w : World) : Calls Tryz.prog 49 #[.string s] w fun e w' => e = .returned (.string ⟨(Sp.opV s.data.toList).toArray⟩) ∧ Below w.heap.size w w' := by
  go_enter Tryz.func49, Tryz.ntmps49
  go_wp2_with fail
  refine (ops_ref w).mono ?_
  rintro e w1 ⟨rfl, hw1⟩
  have hb1 : Below w.heap.size w w1 := by rw [hw1]; exact (Below.refl _ w).alloc (Nat.le_refl _) _
  have HC : Hid (∀ j l, Sp.refL[j]? = some l → ∀ q, (w1.drewN q).cell? ⟨w.heap.size, j, none⟩ = some (.string ⟨l.toArray⟩)) := by
    intro j l h q
    rw [hw1]
    exact text_cell w _ _ ref_list j l h
  clear hw1
  go_wp2_with fail
  go_loopw [3, 5] (fun v3 v5 wr => ∃ (k : Nat) (b : ByteArray), v3 = .string b ∧ v5 = .int .i64 k ∧ k ≤ 28 ∧ Hid (Sp.best s.data.toList (Sp.refL.drop k) b.data.toList = Sp.opV s.data.toList) ∧ b.size ≤ 3 ∧ ∃ q, wr = w1.drewN q) (fun _ v5 _ => 28 - (intOf v5).toNat)
  case atStart => exact ⟨0, ⟨#[]⟩, rfl, rfl, by omega, by show _ = _; exact Sp.best_ops _, by decide, 0, rfl⟩
  case round =>
    obtain ⟨k, b, rfl, rfl, hk, HW, hb3, q, rfl⟩ := hrel
    by_cases hlt : k < 28
    · have hl : k < Sp.refL.length := hlt
      obtain ⟨l, hll⟩ : ∃ l, Sp.refL[k]? = some l := ⟨_, List.getElem?_eq_getElem hl⟩
      have hc := HC.out k l hll
      have hd : Sp.refL.drop k = l :: Sp.refL.drop (k + 1) := by
        have e := List.drop_eq_getElem_cons hl
        rw [e]
        congr 1
        rw [List.getElem?_eq_getElem hl] at hll
        exact Option.some.inj hll
      have hsz := List.all_eq_true.1 Sp.ref_sizes l (List.mem_of_getElem? hll)
      simp only [Bool.and_eq_true, decide_eq_true_eq] at hsz
      obtain ⟨tb, htb⟩ : ∃ tb : ByteArray, tb = ⟨l.toArray⟩ := ⟨_, rfl⟩
      have htl : tb.data.toList = l := by rw [htb]
      rw [← htb] at hc
      have hts : tb.size = l.length := by rw [← htl, size_list]
      rw [← hts] at hsz
      obtain ⟨hsz1, hsz3⟩ := hsz
      have HST : Hid (Sp.best s.data.toList (Sp.refL.drop (k + 1)) (if b.size < tb.size ∧ tb.data.toList.isPrefixOf s.data.toList then tb.data.toList else b.data.toList) = Sp.opV s.data.toList) := by
        show _ = _
        rw [← HW.out, hd, Sp.best, htl, hts, size_list]
      have hcq := hc q
      have hc0 := hc 0
      have hcw : w1.cell? ⟨w.heap.size, k, none⟩ = some (.string tb) := hc0
      have HPT := Sp.prefix_take tb.data.toList s.data.toList
      rw [size_list, size_list] at HPT
      have hex : (s.extract 0 tb.size).data.toList = s.data.toList.take tb.size := by rw [extract_list]; simp
      rw [← hex, ← Sp.toList_data (s.extract 0 tb.size), ← Sp.toList_data tb] at HPT
      have HPT' := Lib.hid HPT
      clear hll hd htb htl hts HW HPT hex hc hc0
      by_cases g1 : b.size < tb.size
      · by_cases g2 : tb.size ≤ s.size
        · cases g3 : ((s.extract 0 tb.size).toList == tb.toList) with
          | true =>
            have HN : Hid (Sp.best s.data.toList (Sp.refL.drop (k + 1)) tb.data.toList = Sp.opV s.data.toList) := by
              show _ = _
              rw [← HST.out, if_pos ⟨g1, by rw [← Sp.toList_data tb, HPT'.out]; simp [g2]; simpa using g3⟩]
            clear HST HPT' HC
            go_wp2_with fail
            go_quiet (fail)
            go_wp2_with fail
            go_roundw
            case rel => exact ⟨k + 1, tb, rfl, by go_num, by omega, HN, hsz3, _, rfl⟩
            case measure => simp [intOf]; omega
          | false =>
            have HN : Hid (Sp.best s.data.toList (Sp.refL.drop (k + 1)) b.data.toList = Sp.opV s.data.toList) := by
              show _ = _
              rw [← HST.out, if_neg ?_]
              rintro ⟨_, h⟩
              rw [← Sp.toList_data tb, HPT'.out] at h
              simp at h g3
              exact g3 h.2
            clear HST HPT' HC
            go_wp2_with fail
            go_quiet (fail)
            go_wp2_with fail
            go_roundw
            case rel => exact ⟨k + 1, b, rfl, by go_num, by omega, HN, hb3, _, rfl⟩
            case measure => simp [intOf]; omega
        · have HN : Hid (Sp.best s.data.toList (Sp.refL.drop (k + 1)) b.data.toList = Sp.opV s.data.toList) := by
            show _ = _
            rw [← HST.out, if_neg ?_]
            rintro ⟨_, h⟩
            rw [← Sp.toList_data tb, HPT'.out] at h
            simp at h
            exact g2 h.1
          clear HST HPT' HC
          go_wp2_with fail
          go_quiet (fail)
          go_wp2_with fail
          go_roundw
          case rel => exact ⟨k + 1, b, rfl, by go_num, by omega, HN, hb3, _, rfl⟩
          case measure => simp [intOf]; omega
      · have HN : Hid (Sp.best s.data.toList (Sp.refL.drop (k + 1)) b.data.toList = Sp.opV s.data.toList) := by
          show _ = _
          rw [← HST.out, if_neg (fun h => g1 h.1)]
        clear HST HPT' HC
        go_wp2_with fail
        go_quiet (fail)
        go_wp2_with fail
        go_roundw
        case rel => exact ⟨k + 1, b, rfl, by go_num, by omega, HN, hb3, _, rfl⟩
        case measure => simp [intOf]; omega
    · have HN : Hid ((⟨(Sp.opV s.data.toList).toArray⟩ : ByteArray) = b) := by
        show _ = _
        rw [← HW.out, List.drop_of_length_le (by show 28 ≤ k; omega)]
        show (⟨b.data.toList.toArray⟩ : ByteArray) = b
        exact toArray_data b
      clear HW HC
      go_wp2_with fail
      go_ret
      exact ⟨ret_str HN.out.symm, below_drewN hb1 q⟩
theorem rop_is {s b : ByteArray} (h : Hid ((⟨(Sp.opV s.data.toList).toArray⟩ : ByteArray) = b)) (hs : s.size ≤ 1000000) (w : World) : Calls Tryz.prog 49 #[.string s] w fun e w' => e = .returned (.string b) ∧ Below w.heap.size w w' := by
  rw [← h.out]; exact rop_any s hs w
end Go.Proofs.YtbdjccmcdifjcaaGreatDoor
