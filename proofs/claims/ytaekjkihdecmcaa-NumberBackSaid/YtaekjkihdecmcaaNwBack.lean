/-
  NumberBack of layer 8: the walk, at this program.
-/
import Derived.Test.YtaekjkihdecmcaaNuV
set_option linter.unusedVariables false
set_option linter.unusedSimpArgs false
namespace Go.Proofs.Ytaekjkihdecmcaa
namespace lawNumberBack
open Go.RowKit

theorem i64_and16 (n : Int) : bits .and .i64 n 65535 = n % 65536 := by
  have e : (BitVec.ofInt 64 65535).toNat = 2 ^ 16 - 1 := by decide
  have h : (BitVec.ofInt 64 n &&& BitVec.ofInt 64 65535).toNat = (n % ((2 ^ 64 : Nat) : Int)).toNat % 2 ^ 16 := by rw [BitVec.toNat_and, BitVec.toNat_ofInt, e, Nat.and_two_pow_sub_one_eq_mod]
  show IntKind.i64.wrap ((BitVec.ofInt 64 n &&& BitVec.ofInt 64 65535).toNat : Nat) = _
  rw [h, IntKind.wrap_i64]
  omega
theorem noughts_tmod (n : Int) : ∃ k : Nat, (n % 65536).tmod 31 = (k : Int) ∧ k ≤ 30 := by
  refine ⟨((n % 65536).tmod 31).toNat, ?_, ?_⟩
  · rw [Int.tmod_eq_emod_of_nonneg (by omega)]; omega
  · rw [Int.tmod_eq_emod_of_nonneg (by omega)]; omega
theorem ahead_pos {a : Int} {s : Nu.Bs} {z : ByteArray} {k : Nat} (ha : Nu.fits a = true) (h0 : 0 ≤ a) (hs : Nu.text a = s) (hz : z.data.toList = List.replicate k 48) :
    toldP (Nu.parse (z ++ ⟨s.toArray⟩ : ByteArray).data.toList) = .tuple #[.int .i64 a, .bool true] := by
  have h := Nu.parse_ahead ha k
  rw [if_neg (by omega)] at h
  have e : Nu.text a = Nu.dec a.natAbs := by unfold Nu.text; rw [if_neg (by omega)]
  rw [ByteArray.data_append, Array.toList_append, hz, ← hs, e]
  show toldP (Nu.parse (List.replicate k 48 ++ Nu.dec a.natAbs)) = _
  rw [List.nil_append] at h
  rw [h]; rfl
theorem ahead_neg {a : Int} {s : Nu.Bs} {z : ByteArray} {k : Nat} (ha : Nu.fits a = true) (h0 : a < 0) (hs : Nu.text a = s) (hz : z.data.toList = List.replicate k 48) :
    toldP (Nu.parse ((⟨#[45]⟩ : ByteArray) ++ z ++ (⟨s.toArray⟩ : ByteArray).extract 1 s.length).data.toList) = .tuple #[.int .i64 a, .bool true] := by
  have h := Nu.parse_ahead ha k
  rw [if_pos h0] at h
  have e : Nu.text a = 45 :: Nu.dec a.natAbs := by unfold Nu.text; rw [if_pos h0]
  have e2 : ((⟨s.toArray⟩ : ByteArray).extract 1 s.length).data.toList = Nu.dec a.natAbs := by
    rw [ByteArray.data_extract, Array.toList_extract, ← hs, e]
    show List.extract (45 :: Nu.dec a.natAbs) 1 _ = _
    simp [List.extract]
  rw [ByteArray.data_append, Array.toList_append, e2, ByteArray.data_append, Array.toList_append, hz]
  show toldP (Nu.parse ([45] ++ List.replicate k 48 ++ Nu.dec a.natAbs)) = _
  rw [List.append_assoc, h]; rfl
theorem text_size {a : Int} (h : Nu.fits a = true) : 0 < (Nu.text a).length ∧ (Nu.text a).length ≤ 20 := by
  have h1 := (Nu.fits_iff a).1 h
  have h2 := Nu.dec_length_le a.natAbs 19 (by decide) (by omega)
  have h3 := List.length_pos_iff.2 (Nu.dec_ne a.natAbs)
  unfold Nu.text
  split
  · simp only [List.length_cons]; omega
  · omega
set_option maxHeartbeats 16000000 in
set_option maxRecDepth 100000 in
theorem walk (a b : Int) (n : Int) (w : World) (ha : Nu.fits a = true) (hb : Nu.fits b = true) : Calls Try.prog 6 #[.int .i64 a, .int .i64 b, .int .i64 n] w fun e w' => e = .returned (.bool true) ∧ Below w.heap.size w w' := by
  have HA := Lib.hid ha
  have HB := Lib.hid hb
  obtain ⟨K, hK, hK30⟩ := noughts_tmod n
  rw [← i64_and16] at hK
  obtain ⟨s, hs⟩ : ∃ s, Nu.text a = s := ⟨_, rfl⟩
  obtain ⟨t, ht⟩ : ∃ t, Nu.text b = t := ⟨_, rfl⟩
  have h1 := Lib.hid hs
  have h2 := Lib.hid ht
  have hp : Hid (toldP (Nu.parse (⟨s.toArray⟩ : ByteArray).data.toList) = .tuple #[.int .i64 a, .bool true]) := (show _ = _ from by
    show toldP (Nu.parse s) = _
    rw [← hs, Nu.parse_text ha]; rfl)
  have hst : (t == s) = (a == b) := by
    rw [← hs, ← ht, Bool.eq_iff_iff]
    simp only [beq_iff_eq]
    rw [Nu.text_inj hb ha]
    exact eq_comm
  have hl := text_size ha
  rw [hs] at hl
  clear hs ht ha hb
  go_enter Try.func6, Try.ntmps6
  go_wp2_with (first
    | (go_at_call 23; refine (nParse_is hp (by show s.toArray.size ≤ 1000000; simp; omega) _).mono ?_; rintro e w2 ⟨rfl, b2⟩)
    | (go_at_call 21; with_reducible (show Calls _ _ #[Value.int _ b] _ _); refine (nText_is h2 _ HB.out).mono ?_; rintro e w3 ⟨rfl, b3⟩)
    | (go_at_call 21; with_reducible (show Calls _ _ #[Value.int _ a] _ _); refine (nText_is h1 _ HA.out).mono ?_; rintro e w1 ⟨rfl, b1⟩)
    | (go_at_call 14; refine (shown8 _).mono ?_; rintro e w0 ⟨rfl, b0⟩))
  have HB3 := Lib.hid (bseq (bseq (bseq b0 b1) b2) b3)
  clear b0 b1 b2 b3 h2 HB hst
  go_loopw [11, 12] (fun v11 v12 wr => ∃ (k : Nat) (z : ByteArray), v12 = .int .i64 (k : Int) ∧ v11 = .string z ∧ k ≤ K ∧ z.size = k ∧ Hid (z.data.toList = List.replicate k 48) ∧ Hid (Below w.heap.size w wr)) (fun _ v12 _ => K - (intOf v12).toNat)
  case atStart => exact ⟨0, ⟨#[]⟩, rfl, rfl, Nat.zero_le _, rfl, rfl, HB3.out⟩
  case round =>
    clear HB3
    obtain ⟨k, z, rfl, rfl, hk, hz, HZ, HR⟩ := hrel
    by_cases hlt : k < K
    · go_wp2_with fail
      go_roundw
      case rel =>
        refine ⟨k + 1, _, by go_num, rfl, by omega, ?_, ?_, HR.out⟩
        · rw [ByteArray.size_append, hz]; rfl
        · show _ = _
          rw [ByteArray.data_append, Array.toList_append, HZ.out, List.replicate_succ']
      case measure => simp [intOf]; omega
    · have hkK : k = K := by omega
      subst hkK
      by_cases hneg : a < 0
      · have hs3 : ((⟨#[45]⟩ : ByteArray) ++ z ++ (⟨s.toArray⟩ : ByteArray).extract 1 s.length).size ≤ 1000000 := by
          rw [ByteArray.size_append, ByteArray.size_append, ByteArray.size_extract, hz]
          show 1 + k + (min s.length s.toArray.size - 1) ≤ 1000000
          omega
        have H9 : Hid (toldP (Nu.parse ((⟨#[45]⟩ : ByteArray) ++ z ++ (⟨s.toArray⟩ : ByteArray).extract 1 s.length).data.toList) = .tuple #[.int .i64 a, .bool true]) := (show _ = _ from ahead_neg HA.out hneg h1.out HZ.out)
        clear hp HZ h1
        go_wp2_with (go_at_call 23; refine (nParse_is H9 hs3 _).mono ?_; rintro e w4 ⟨rfl, b4⟩)
        go_ret
        exact ⟨ret_bool (by first | rfl | (simp; done)), bseq HR.out b4⟩
      · have hs3 : (z ++ (⟨s.toArray⟩ : ByteArray)).size ≤ 1000000 := by
          rw [ByteArray.size_append, hz]
          show k + s.toArray.size ≤ 1000000
          simp
          omega
        have H9 : Hid (toldP (Nu.parse (z ++ (⟨s.toArray⟩ : ByteArray)).data.toList) = .tuple #[.int .i64 a, .bool true]) := (show _ = _ from ahead_pos HA.out (by omega) h1.out HZ.out)
        clear hp HZ h1
        go_wp2_with (go_at_call 23; refine (nParse_is H9 hs3 _).mono ?_; rintro e w4 ⟨rfl, b4⟩)
        go_ret
        exact ⟨ret_bool (by first | rfl | (simp; done)), bseq HR.out b4⟩
end lawNumberBack
end Go.Proofs.Ytaekjkihdecmcaa
