/-
  TextBack of layer 9: the walk, at this program (made by wip/tools/genLaw9.py).
-/
import Derived.Test.YtcpjogjkjbillaaTxV
set_option linter.unusedVariables false
set_option linter.unusedSimpArgs false
namespace Go.Proofs.Ytcpjogjkjbillaa
namespace lawTextBack
open Go.RowKit

theorem joinW_mem (sep y : Tx.Bs) (l : List Tx.Bs) (h : y ∈ l) : y.length ≤ (Tx.joinW sep l).length := by
  obtain ⟨a, b, rfl⟩ := List.append_of_mem h
  have h1 := Tx.joinW_more sep (a ++ [y]) b
  rw [List.append_assoc, List.singleton_append, Tx.joinW_snoc, List.length_append, List.length_append] at h1
  omega
theorem free_find {sep s y : Tx.Bs} (hs : sep ≠ []) (h : y ∈ Tx.pcs sep [] s) : Tx.findI y sep = -1 := by
  have h1 := Tx.pieces_free sep hs s.length [] s (Nat.le_refl _) (fun j hj => absurd hj (Nat.not_lt_zero j)) y h
  unfold Tx.findI
  rw [Tx.find_none_of (fun j _ => h1 j)]
set_option maxHeartbeats 16000000 in
set_option maxRecDepth 100000 in
theorem walk (x : ByteArray) (y : ByteArray)  (w : World) (hx : x.size ≤ 140737488351232) (hy : y.size ≤ 140737488351232)  : Calls Try.prog 8 #[.string x, .string y] w fun e w' => e = .returned (.bool true) ∧ Below w.heap.size w w' := by
  by_cases h1 : 20000 < x.size
  · have g0 : (20000 : Int) < (x.size : Int) := by omega
    go_enter Try.func8, Try.ntmps8
    go_wp2_with fail
    go_ret
    exact ⟨rfl, Below.refl _ _⟩
  by_cases h2 : 200 < y.size
  · have g0 : ¬ (20000 : Int) < (x.size : Int) := by omega
    have g1 : (200 : Int) < (y.size : Int) := by omega
    go_enter Try.func8, Try.ntmps8
    go_wp2_with fail
    go_ret
    exact ⟨rfl, Below.refl _ _⟩
  have g0 : ¬ (20000 : Int) < (x.size : Int) := by omega
  have g1 : ¬ (200 : Int) < (y.size : Int) := by omega
  have hx0 : x.size ≤ 1000000 := by omega
  have hy0 : y.size ≤ 1000000 := by omega
  by_cases hU : y.data.toList = []
  · have HS : Hid (Tx.split x.data.toList y.data.toList = ([], Tx.tVal)) := (show _ = _ by unfold Tx.split; rw [if_pos hU])
    have gU : (y.toList == []) = true := by rw [ByteArray.toList_eq, hU]; rfl
    clear hU h1 h2
    go_enter Try.func8, Try.ntmps8
    go_wp2_with (first
      | (go_at_call 26; refine (tSplit_is HS hx0 hy0 _).mono ?_; rintro e w1 ⟨v1, rfl, HR1, b1⟩; have b1 := b1.out; obtain ⟨pa, ca, rfl⟩ := HR1.out.form)
      | (go_at_call 17; refine (said9 _).mono ?_; rintro e w0 ⟨rfl, b0⟩))
    go_ret
    exact ⟨ret_bool (by first | rfl | (simp; done) | decide), bseq b1 b0⟩
  have gU : (y.toList == []) = false := by rw [ByteArray.toList_eq]; simpa using hU
  by_cases hbig : 4096 < (Tx.pcs y.data.toList [] x.data.toList).length
  · have HS : Hid (Tx.split x.data.toList y.data.toList = ([], Tx.tMem)) := (show _ = _ by unfold Tx.split; rw [if_neg hU]; exact if_pos hbig)
    clear hU h1 h2 hbig
    go_enter Try.func8, Try.ntmps8
    go_wp2_with (first
      | (go_at_call 26; refine (tSplit_is HS hx0 hy0 _).mono ?_; rintro e w1 ⟨v1, rfl, HR1, b1⟩; have b1 := b1.out; obtain ⟨pa, ca, rfl⟩ := HR1.out.form)
      | (go_at_call 17; refine (said9 _).mono ?_; rintro e w0 ⟨rfl, b0⟩))
    go_ret
    exact ⟨ret_bool (by first | rfl | (simp; done) | decide), bseq b1 b0⟩
  have HS0 : Tx.split x.data.toList y.data.toList = (Tx.pcs y.data.toList [] x.data.toList, []) := by unfold Tx.split; rw [if_neg hU]; exact if_neg hbig
  have hjoin := Tx.join_split (s := x.data.toList) hU
  have hpos := Tx.pcs_len y.data.toList [] x.data.toList
  obtain ⟨P, hP⟩ : ∃ P, P = Tx.pcs y.data.toList [] x.data.toList := ⟨_, rfl⟩
  rw [← hP] at HS0 hjoin hpos hbig
  have HS := Lib.hid HS0
  have HFR : Hid (∀ z ∈ P, Tx.findI z y.data.toList = -1) := (show ∀ _, _ from fun z hz => free_find hU (by rw [← hP]; exact hz))
  have HLS : Hid (∀ z ∈ P, z.length ≤ 1048576) := (show ∀ _, _ from fun z hz => by
    have := joinW_mem y.data.toList z P hz
    rw [hjoin, size_list] at this
    omega)
  have hPl : P.length ≤ 1000000 := by omega
  obtain ⟨S, hSx⟩ : ∃ S, x.data.toList = S := ⟨_, rfl⟩
  have HJ : Hid (Tx.join y.data.toList P = (S, [])) := (show _ = _ by
    unfold Tx.join
    rw [hjoin, size_list, if_neg (by omega), hSx])
  have HE : (S == x.toList) = true := by rw [ByteArray.toList_eq, hSx]; simp
  obtain ⟨n, hn⟩ : ∃ n, P.length = n := ⟨_, rfl⟩
  rw [hn] at hpos hbig
  have HN := Lib.hid hn
  have HPL := Lib.hid hPl
  clear HS0 hjoin hP hU hSx h1 h2 hPl hn
  have hn1 : ¬ (n : Int) < 1 := by omega
  go_enter Try.func8, Try.ntmps8
  go_wp2_with (first
    | (go_at_call 24; refine (tJoin_is HJ (up9j hy0) HPL.out HLS.out _ HR1).mono ?_; rintro e w2 ⟨rfl, b2⟩)
    | (go_at_call 26; refine (tSplit_is HS hx0 hy0 _).mono ?_; rintro e w1 ⟨v1, rfl, HR1, b1⟩; have b1 := b1.out; obtain ⟨pa, ca, rfl⟩ := HR1.out.form; rw [HN.out] at HR1 ⊢)
    | (go_at_call 17; refine (said9 _).mono ?_; rintro e w0 ⟨rfl, b0⟩))
  have HB2 := Lib.hid (bseq b1 b2)
  have HR2 := Lib.hid (HR1.out.below b2)
  go_loopw [9] (fun v9 wr => ∃ k : Nat, v9 = .int .i64 (k : Int) ∧ k ≤ n ∧ Hid (Below w2.heap.size w2 wr)) (fun v9 _ => n - (intOf v9).toNat)
  case atStart => exact ⟨0, rfl, Nat.zero_le _, (show Below _ _ _ from Below.refl _ _)⟩
  case round =>
    obtain ⟨k, rfl, hk, HB⟩ := hrel
    by_cases hlt : k < n
    · obtain ⟨z, hz⟩ : ∃ z, P[k]? = some z := ⟨_, List.getElem?_eq_getElem (by have := HN.out; omega)⟩
      have hzm := List.mem_of_getElem? hz
      obtain ⟨ga, oa, rfl, a0⟩ := (HR2.out.below HB.out).cell hz
      have HF : Hid (Tx.findI (⟨z.toArray⟩ : ByteArray).data.toList y.data.toList = -1) := (show _ = _ from HFR.out z hzm)
      have sz : (⟨z.toArray⟩ : ByteArray).size ≤ 1048576 := by
        show z.toArray.size ≤ _
        rw [List.size_toArray]
        exact HLS.out z hzm
      have SZ := Lib.hid sz
      clear hz hzm sz
      go_wp2_with (go_at_call 29; refine (tFind_is HF SZ.out (up9j hy0) _).mono ?_; rintro e w3 ⟨rfl, b3⟩)
      go_roundw
      case rel => exact ⟨k + 1, by go_num, by omega, (show Below _ _ _ from bseq HB.out b3)⟩
      case measure => simp [intOf]; omega
    · obtain rfl : k = n := by omega
      go_wp2_with (go_at_call 17; refine (said9 _).mono ?_; rintro e w0 ⟨rfl, b0⟩)
      go_ret
      exact ⟨rfl, bseq (bseq HB2.out HB.out) b0⟩
end lawTextBack
end Go.Proofs.Ytcpjogjkjbillaa
