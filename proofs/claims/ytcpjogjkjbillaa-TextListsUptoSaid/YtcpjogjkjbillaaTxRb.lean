/-
  Compare and Join of the program's package text, at this program.
-/
import Derived.Test.YtcpjogjkjbillaaTxRa
import Derived.Lib.ConvBytes
set_option linter.unusedVariables false
set_option linter.unusedSimpArgs false
namespace Go.Proofs.Ytcpjogjkjbillaa
open Go.RowKit

/-- The bytes of a text as a row of their own. -/
theorem bytes_conv (s : ByteArray) (w : World) : ∃ cap W, (convert 9 45 (.string s)).run Try.prog w = .ok (.slice (some ⟨w.heap.size, 0, none⟩) s.size cap) W ∧ Below w.heap.size w W ∧ W.heap.size = w.heap.size + 1 ∧
    ∀ j (h : j < s.size), W.cell? ⟨w.heap.size, j, none⟩ = some (.int .u8 (s[j].toNat : Int)) := by
  have h := Lib.run_convert_string_bytes (P := Try.prog) w 9 45 5 s (u := .string) Try.underlying9 Try.underlying45 Try.underlying5
  refine ⟨_, _, h, ⟨rfl, rfl, rfl, ?_, fun k hk => Lib.bytesWorld_at_old _ _ _ _ hk⟩, Lib.bytesWorld_size _ _ _, fun j hj => ?_⟩
  · rw [Lib.bytesWorld_size]; omega
  · rw [Lib.bytesWorld_cell _ _ _ _ hj]
    congr 3
    rw [List.getD_eq_getElem?_getD, List.getElem?_eq_getElem (by rw [size_list]; exact hj)]
    rfl
set_option maxHeartbeats 8000000 in
set_option maxRecDepth 20000 in
theorem tCompare_is {a b : ByteArray} {r : Int} (h : Hid (Tx.cmp a.data.toList b.data.toList = r)) (ha : a.size ≤ 140737488351232) (hb : b.size ≤ 140737488351232) (w : World) :
    Calls Try.prog 31 #[.string a, .string b] w fun e' w' => e' = .returned (.int .i64 r) ∧ Below w.heap.size w w' := by
  obtain ⟨cap, W, hcv, hbW, hsW, hcW⟩ := bytes_conv a w
  have HBW := Lib.hid hbW
  have HSW := Lib.hid hsW
  have HCW := Lib.hid hcW
  clear hbW hsW hcW
  go_enter Try.func31, Try.ntmps31
  go_wp2_with fail
  go_loopw [10] (fun v10 wr => ∃ k : Nat, v10 = .int .i64 (k : Int) ∧ k ≤ a.size ∧ k ≤ b.size ∧ Hid (Tx.cmp (a.data.toList.drop k) (b.data.toList.drop k) = r) ∧ wr = W) (fun v10 _ => a.size - (intOf v10).toNat)
  case atStart => exact ⟨0, rfl, Nat.zero_le _, Nat.zero_le _, h, rfl⟩
  case round =>
    clear h
    obtain ⟨k, rfl, hka, hkb, HK, rfl⟩ := hrel
    by_cases h1 : k < a.size
    · have c1 := HCW.out k h1
      by_cases h2 : k < b.size
      · have hst := HK.out
        rw [cmp_step h1 h2] at hst
        have hne : ((k : Int) == (b.size : Int)) = false := beq_eq_false_iff_ne.2 (by omega)
        by_cases g1 : a[k].toNat < b[k].toNat
        · rw [if_pos g1] at hst
          subst hst
          have g1' : (a[k].toNat : Int) < (b[k].toNat : Int) := by omega
          have g2' : ¬ (b[k].toNat : Int) < (a[k].toNat : Int) := by omega
          clear HK g1
          go_wp2_with fail
          go_ret
          exact ⟨rfl, HBW.out⟩
        · by_cases g2 : b[k].toNat < a[k].toNat
          · rw [if_neg g1, if_pos g2] at hst
            subst hst
            have g1' : ¬ (a[k].toNat : Int) < (b[k].toNat : Int) := by omega
            have g2' : (b[k].toNat : Int) < (a[k].toNat : Int) := by omega
            clear HK g1 g2
            go_wp2_with fail
            go_ret
            exact ⟨rfl, HBW.out⟩
          · rw [if_neg g1, if_neg g2] at hst
            have HN := Lib.hid hst
            have g1' : ¬ (a[k].toNat : Int) < (b[k].toNat : Int) := by omega
            have g2' : ¬ (b[k].toNat : Int) < (a[k].toNat : Int) := by omega
            clear HK g1 g2 hst
            go_wp2_with fail
            go_roundw
            case rel => exact ⟨k + 1, by go_num, by omega, by omega, HN, trivial⟩
            case measure => simp [intOf]; omega
      · obtain rfl : k = b.size := by omega
        have hst := HK.out
        rw [cmp_end _ _ (Or.inr (List.drop_eq_nil_of_le (by rw [size_list]; exact Nat.le_refl _)))] at hst
        rw [List.length_drop, List.length_drop, size_list, size_list, if_neg (by omega), if_pos (by omega)] at hst
        subst hst
        clear HK
        go_wp2_with fail
        go_ret
        exact ⟨rfl, HBW.out⟩
    · obtain rfl : k = a.size := by omega
      have hst := HK.out
      rw [cmp_end _ _ (Or.inl (List.drop_eq_nil_of_le (by rw [size_list]; exact Nat.le_refl _)))] at hst
      rw [List.length_drop, List.length_drop, size_list, size_list] at hst
      clear HK
      by_cases h2 : a.size < b.size
      · rw [if_pos (by omega)] at hst
        subst hst
        go_wp2_with fail
        go_ret
        exact ⟨rfl, HBW.out⟩
      · rw [if_neg (by omega), if_neg (by omega)] at hst
        subst hst
        go_wp2_with fail
        go_ret
        exact ⟨rfl, HBW.out⟩
theorem joinW_lib (sep : Tx.Bs) : ∀ l : List Tx.Bs, Lib.join l sep = Tx.joinW sep l
  | [] => rfl
  | [a] => Lib.join_one a sep
  | a :: b :: r => by
    rw [Tx.joinW_cons sep a (by simp), ← joinW_lib sep (b :: r), Lib.join_cons, Lib.join_cons]
    simp [Lib.joinTail]
/-- strings.Join over a row of texts. -/
theorem join_row {sep : ByteArray} {l : List Tx.Bs} {v : Value} {r : Tx.Bs} (h : Hid (Tx.joinW sep.data.toList l = r)) (hr : r.length ≤ 65536) (hl : l.length ≤ 1000000) (w : World) (hv : SRow v l w) :
    Calls Try.prog 37 #[v, .string sep] w fun e' w' => e' = .returned (.string ⟨r.toArray⟩) ∧ Below w.heap.size w w' := by
  rcases hv with ⟨⟨pa, rfl⟩, rfl⟩ | ⟨g, o, cap, rfl, hn, hg, hc⟩
  · refine (Try.strings_Join_none pa 0 sep w).mono ?_
    rintro e w' ⟨rfl, rfl⟩
    rw [← h.out]
    exact ⟨rfl, Below.refl _ _⟩
  · have e1 : ((l.map fun x => (⟨x.toArray⟩ : ByteArray)).map fun x => x.data.toList) = l := by
      rw [List.map_map]
      conv => rhs; rw [← List.map_id l]
      exact List.map_congr_left fun x _ => rfl
    have e2 : Lib.join ((l.map fun x => (⟨x.toArray⟩ : ByteArray)).map fun x => x.data.toList) sep.data.toList = r := by rw [e1, joinW_lib, h.out]
    have hj := Try.strings_Join g o cap (l.map fun x => (⟨x.toArray⟩ : ByteArray)) sep w (fun j x hx => by
      rw [List.getElem?_map] at hx
      cases hy : l[j]? with
      | none => rw [hy] at hx; cases hx
      | some y =>
        rw [hy] at hx
        injection hx with hx
        rw [← hx]
        exact hc j y hy) hg (by rw [List.length_map]; omega) (by rw [List.length_map]; exact hn) (by rw [e2]; omega)
    rw [List.length_map, e2] at hj
    exact hj
set_option maxHeartbeats 8000000 in
set_option maxRecDepth 20000 in
theorem tJoin_is {sep : ByteArray} {l : List Tx.Bs} {v : Value} {r e : Tx.Bs} (h : Hid (Tx.join sep.data.toList l = (r, e))) (hsep : sep.size ≤ 1048576) (hl : l.length ≤ 1000000) (hls : ∀ x ∈ l, x.length ≤ 1048576) (w : World) (hv : Hid (SRow v l w)) :
    Calls Try.prog 24 #[.string sep, v] w fun e' w' => e' = .returned (.tuple #[.string ⟨r.toArray⟩, .string ⟨e.toArray⟩]) ∧ Below w.heap.size w w' := by
  obtain ⟨pa, cap, rfl⟩ := hv.out.form
  have HLS := Lib.hid hls
  obtain ⟨n, hn⟩ : ∃ n, n = l.length := ⟨_, rfl⟩
  have HJ : Hid (∀ r', Tx.joinW sep.data.toList l = r' → r'.length ≤ 65536 → Calls Try.prog 37 #[.slice pa l.length cap, .string sep] w fun e' w' => e' = .returned (.string ⟨r'.toArray⟩) ∧ Below w.heap.size w w') :=
    (show ∀ _, _ from fun r' h1 h2 => join_row (Lib.hid h1) h2 hl w hv.out)
  rw [← hn] at hv HJ hl ⊢
  have HN := Lib.hid hn
  clear hls hn
  go_enter Try.func24, Try.ntmps24
  go_wp2_with fail
  go_loopw [6, 11] (fun v6 v11 wr => ∃ (k m : Nat), v11 = .int .i64 (k : Int) ∧ k ≤ n ∧ v6 = .int .i64 (m : Int) ∧ m ≤ 65536 ∧ Hid ((Tx.joinW sep.data.toList (l.take k)).length = m) ∧ wr = w) (fun _ v11 _ => n - (intOf v11).toNat)
  case atStart => exact ⟨0, 0, rfl, Nat.zero_le _, rfl, Nat.zero_le _, rfl, rfl⟩
  case round =>
    obtain ⟨k, m, rfl, hk, rfl, hm, HM, rfl⟩ := hrel
    by_cases hlt : k < n
    · obtain ⟨x, hx⟩ : ∃ x, l[k]? = some x := ⟨_, List.getElem?_eq_getElem (by have := HN.out; omega)⟩
      have hxl : x.length ≤ 1048576 := HLS.out x (List.mem_of_getElem? hx)
      obtain ⟨ga, oa, rfl, a0⟩ := hv.out.cell hx
      obtain ⟨X, hX⟩ : ∃ X : ByteArray, X = ⟨x.toArray⟩ := ⟨_, rfl⟩
      have hXs : X.size = x.length := by rw [hX]; simp [ByteArray.size]
      rw [← hX] at a0
      obtain ⟨t, ht⟩ : ∃ t, (Tx.joinW sep.data.toList (l.take (k + 1))).length = t := ⟨_, rfl⟩
      have hsum : t = m + (if k = 0 then 0 else sep.size) + X.size := by
        rw [← ht, Tx.joinW_take (by have := HN.out; omega), List.length_append, List.length_append, HM.out, hXs]
        have : l[k]'(by have := HN.out; omega) = x := by
          have h1 := hx
          rw [List.getElem?_eq_getElem (by have := HN.out; omega)] at h1
          injection h1
        rw [this]
        by_cases h0 : k = 0
        · rw [if_pos h0, if_pos h0]; rfl
        · rw [if_neg h0, if_neg h0, size_list]
      have HT := Lib.hid ht
      clear hx hX ht
      have hbigr : 65536 < t → r = [] ∧ e = Tx.tMem := fun hb => by
        have h1 := h.out
        have h2 := Tx.joinW_le (sep := sep.data.toList) l (k + 1)
        rw [HT.out] at h2
        unfold Tx.join at h1
        rw [if_pos (by omega)] at h1
        injection h1 with h1 h2
        exact ⟨h1.symm, h2.symm⟩
      have HBIG := Lib.hid hbigr
      clear hbigr
      by_cases h0 : k = 0
      · rw [if_pos h0] at hsum
        subst h0
        rw [Nat.add_zero] at a0
        have hw2 : IntKind.i64.wrap ((m : Int) + (X.size : Int)) = (t : Int) := by rw [IntWalk.i64_in _ (by omega)]; omega
        clear hXs
        by_cases hb : 65536 < t
        · obtain ⟨rfl, rfl⟩ := HBIG.out hb
          have hb' : (65536 : Int) < (t : Int) := by omega
          clear h HBIG HM HT hsum
          go_wp2_with fail
          refine bodyPost_ret (results_tmp2 rfl _ _ _) rfl ?_
          exact ⟨rfl, Below.refl _ _⟩
        · have hb' : ¬ (65536 : Int) < (t : Int) := by omega
          clear h HBIG HM hsum
          go_wp2_with fail
          go_roundw
          case rel => exact ⟨1, t, by go_num, by omega, rfl, by omega, HT, trivial⟩
          case measure => simp [intOf]; omega
      · rw [if_neg h0] at hsum
        have h0' : (0 : Int) < (k : Int) := by omega
        obtain ⟨u, hu⟩ : ∃ u, m + sep.size = u := ⟨_, rfl⟩
        have hw1 : IntKind.i64.wrap ((m : Int) + (sep.size : Int)) = (u : Int) := by rw [IntWalk.i64_in _ (by omega)]; omega
        have hw2 : IntKind.i64.wrap ((u : Int) + (X.size : Int)) = (t : Int) := by rw [IntWalk.i64_in _ (by omega)]; omega
        clear hXs
        by_cases hb : 65536 < t
        · obtain ⟨rfl, rfl⟩ := HBIG.out hb
          have hb' : (65536 : Int) < (t : Int) := by omega
          clear h HBIG HM HT hsum hu
          go_wp2_with fail
          refine bodyPost_ret (results_tmp2 rfl _ _ _) rfl ?_
          exact ⟨rfl, Below.refl _ _⟩
        · have hb' : ¬ (65536 : Int) < (t : Int) := by omega
          clear h HBIG HM hsum hu
          go_wp2_with fail
          go_roundw
          case rel => exact ⟨k + 1, t, by go_num, by omega, rfl, by omega, HT, trivial⟩
          case measure => simp [intOf]; omega
    · obtain rfl : k = n := by omega
      have hr : Tx.joinW sep.data.toList l = r ∧ e = [] ∧ r.length ≤ 65536 := by
        have h1 := h.out
        have ho := HM.out
        rw [List.take_of_length_le (by have := HN.out; omega)] at ho
        unfold Tx.join at h1
        rw [ho, if_neg (by omega)] at h1
        injection h1 with h1 h2
        exact ⟨h1, h2.symm, by rw [← h1, ho]; exact hm⟩
      obtain ⟨hr1, rfl, hr2⟩ := hr
      have hc := Lib.hid (HJ.out r hr1 hr2)
      clear h HM HJ hr1 hr2
      go_wp2_with (go_at_call 37; refine hc.out.mono ?_; clear hc; rintro e w2 ⟨rfl, HB⟩)
      refine bodyPost_ret (results_tmp2 rfl _ _ _) rfl ?_
      exact ⟨rfl, HB⟩
end Go.Proofs.Ytcpjogjkjbillaa
