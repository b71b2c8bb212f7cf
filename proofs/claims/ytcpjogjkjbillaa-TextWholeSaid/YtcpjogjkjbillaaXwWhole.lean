/-
  TextWhole of layer 9: the walk, at this program (made by wip/tools/genLaw9.py).
-/
import Derived.Test.YtcpjogjkjbillaaTxV
set_option linter.unusedVariables false
set_option linter.unusedSimpArgs false
namespace Go.Proofs.Ytcpjogjkjbillaa
namespace lawTextWhole
open Go.RowKit

theorem ba_inj {a b : ByteArray} (h : a.data.toList = b.data.toList) : a = b := by
  cases a with
  | mk a =>
    cases b with
    | mk b => exact congrArg ByteArray.mk (Array.toList_inj.1 h)
theorem place_zero {n : Int} (h : 0 ≤ n) : Tx.place n 0 = 0 := by unfold Tx.place; simp only; rw [if_neg (by omega), if_neg (by omega), if_neg (by omega)]
theorem place_top {n : Int} (h : 0 ≤ n) : Tx.place n n = n := by unfold Tx.place; simp only; rw [if_neg (by omega), if_neg (by omega), if_neg (by omega)]
theorem slice_front (S : Tx.Bs) (i : Int) : Tx.slice S 0 i = S.take (Tx.place S.length i).toNat := by
  have h0 : ¬ ((S.length : Int) < 0) := by omega
  have h1 := Tx.place_range (n := S.length) (i := i) (by omega)
  unfold Tx.slice Tx.bounds
  simp only
  rw [if_neg h0, place_zero (by omega), if_neg (by omega)]
  simp
theorem slice_back (S : Tx.Bs) (i : Int) : Tx.slice S i S.length = S.drop (Tx.place S.length i).toNat := by
  have h0 : ¬ ((S.length : Int) < 0) := by omega
  have h1 := Tx.place_range (n := S.length) (i := i) (by omega)
  unfold Tx.slice Tx.bounds
  simp only
  rw [if_neg h0, place_top (by omega), if_neg (by omega), List.take_of_length_le (by rw [List.length_drop]; omega)]
set_option maxHeartbeats 16000000 in
set_option maxRecDepth 100000 in
theorem walk (x : ByteArray) (i : Int) (w : World) (hx : x.size ≤ 140737488351232) (hi : -9223372036854775808 ≤ i ∧ i ≤ 9223372036854775807) : Calls Try.prog 9 #[.string x, .int .i64 i] w fun e w' => e = .returned (.bool true) ∧ Below w.heap.size w w' := by
  obtain ⟨S, hS⟩ : ∃ S, x.data.toList = S := ⟨_, rfl⟩
  have hlen : S.length = x.size := by rw [← hS, size_list]
  obtain ⟨A, hA⟩ : ∃ p, Tx.slice x.data.toList 0 i = p := ⟨_, rfl⟩
  obtain ⟨B, hB⟩ : ∃ p, Tx.slice x.data.toList i (x.size : Int) = p := ⟨_, rfl⟩
  have HA := Lib.hid hA
  have HB := Lib.hid hB
  rw [hS, slice_front, hlen] at hA
  rw [hS, ← hlen, slice_back, hlen] at hB
  have hw : IntKind.i64.wrap (-(x.size : Int)) = -(x.size : Int) := IntWalk.i64_in _ (by omega)
  have hsn : (x.size : Int) ≤ 9223372036854775807 := by omega
  have hxl : x.toList = S := by rw [ByteArray.toList_eq, hS]
  by_cases hz : i = 0 ∨ (i < 0 ∧ i ≤ -(x.size : Int))
  · have hp : Tx.place x.size i = 0 := by
      unfold Tx.place
      simp only
      rcases hz with g | ⟨g1, g2⟩
      · rw [if_neg (by omega), if_neg (by omega), if_neg (by omega)]; exact g
      · rw [if_pos g1]
        by_cases g3 : i + (x.size : Int) < 0
        · rw [if_pos g3]
        · rw [if_neg g3, if_neg (by omega)]; omega
    rw [hp] at hA hB
    have ha : A = [] := by rw [← hA]; rfl
    have hb : B = S := by rw [← hB]; rfl
    subst ha
    subst hb
    have HE : (B == x.toList) = true := by rw [hxl]; simp
    clear hA hB hS hlen hp hxl
    have hz2 : (i == 0) = true ∨ ((i == 0) = false ∧ decide (i < 0) = true ∧ decide (i ≤ -(x.size : Int)) = true) := by
      by_cases g : i = 0
      · exact Or.inl (beq_iff_eq.2 g)
      · right
        rcases hz with h | ⟨h1, h2⟩
        · exact absurd h g
        · exact ⟨beq_eq_false_iff_ne.2 g, decide_eq_true h1, decide_eq_true h2⟩
    clear hz
    have HI := Lib.hid hi
    clear hi
    rcases hz2 with z1 | ⟨z1, z2, z3⟩
    all_goals
      go_enter Try.func9, Try.ntmps9
      go_wp2_with (first
        | (go_at_call 22; with_reducible (show Calls _ _ #[_, Value.int _ i, _] _ _); refine (tSlice_is HB hx HI.out ⟨by omega, hsn⟩ _).mono ?_; rintro e w2 ⟨rfl, b2⟩)
        | (go_at_call 22; with_reducible (show Calls _ _ #[_, Value.int _ 0, Value.int _ i] _ _); refine (tSlice_is HA hx ⟨by decide, by decide⟩ HI.out _).mono ?_; rintro e w1 ⟨rfl, b1⟩)
        | (go_at_call 17; refine (said9 _).mono ?_; rintro e w0 ⟨rfl, b0⟩))
      go_ret
      exact ⟨ret_bool (by first | rfl | exact HE | (simp; done) | (simpa using HE)), bseq (bseq b1 b2) b0⟩
  · have hab : A ++ B = S := by rw [← hA, ← hB, List.take_append_drop]
    have HE : Hid ((⟨A.toArray⟩ ++ ⟨B.toArray⟩ : ByteArray) = x) := (show _ = _ by
      have e : (⟨A.toArray⟩ ++ ⟨B.toArray⟩ : ByteArray).data.toList = x.data.toList := by rw [ByteArray.data_append, Array.toList_append, hS]; exact hab
      exact ba_inj e)
    have hbnd : A.length + B.length ≤ 140737488351232 := by rw [← List.length_append, hab, hlen]; exact hx
    clear hA hB hS hlen hab hxl
    have hz2 : (i == 0) = false ∧ (decide (i < 0) = false ∨ (decide (i < 0) = true ∧ decide (i ≤ -(x.size : Int)) = false)) := by
      refine ⟨beq_eq_false_iff_ne.2 fun g => hz (Or.inl g), ?_⟩
      by_cases g : i < 0
      · exact Or.inr ⟨decide_eq_true g, decide_eq_false fun g2 => hz (Or.inr ⟨g, g2⟩)⟩
      · exact Or.inl (decide_eq_false g)
    clear hz
    have HI := Lib.hid hi
    clear hi
    obtain ⟨z1, hz3⟩ := hz2
    rcases hz3 with z2 | ⟨z2, z3⟩
    all_goals
      go_enter Try.func9, Try.ntmps9
      go_wp2_with (first
        | (go_at_call 22; with_reducible (show Calls _ _ #[_, Value.int _ i, _] _ _); refine (tSlice_is HB hx HI.out ⟨by omega, hsn⟩ _).mono ?_; rintro e w2 ⟨rfl, b2⟩)
        | (go_at_call 22; with_reducible (show Calls _ _ #[_, Value.int _ 0, Value.int _ i] _ _); refine (tSlice_is HA hx ⟨by decide, by decide⟩ HI.out _).mono ?_; rintro e w1 ⟨rfl, b1⟩)
        | (go_at_call 17; refine (said9 _).mono ?_; rintro e w0 ⟨rfl, b0⟩))
      go_ret
      exact ⟨ret_bool (by rw [HE.out]; first | rfl | (simp; done)), bseq (bseq b1 b2) b0⟩
end lawTextWhole
end Go.Proofs.Ytcpjogjkjbillaa
