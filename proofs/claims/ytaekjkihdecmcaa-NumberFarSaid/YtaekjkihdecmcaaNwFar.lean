/-
  NumberFar of layer 8: the walk, at this program (made by wip/tools/genLaw8.py).
-/
import Derived.Test.YtaekjkihdecmcaaNuV
set_option linter.unusedVariables false
set_option linter.unusedSimpArgs false
namespace Go.Proofs.Ytaekjkihdecmcaa
namespace lawNumberFar
open Go.RowKit

set_option maxHeartbeats 16000000 in
set_option maxRecDepth 100000 in
theorem i64_and16 (n : Int) : bits .and .i64 n 65535 = n % 65536 := by
  have e : (BitVec.ofInt 64 65535).toNat = 2 ^ 16 - 1 := by decide
  have h : (BitVec.ofInt 64 n &&& BitVec.ofInt 64 65535).toNat = (n % ((2 ^ 64 : Nat) : Int)).toNat % 2 ^ 16 := by rw [BitVec.toNat_and, BitVec.toNat_ofInt, e, Nat.and_two_pow_sub_one_eq_mod]
  show IntKind.i64.wrap ((BitVec.ofInt 64 n &&& BitVec.ofInt 64 65535).toNat : Nat) = _
  rw [h, IntKind.wrap_i64]
  omega
set_option maxHeartbeats 16000000 in
set_option maxRecDepth 100000 in
theorem walk (a b : Int) (w : World) (ha : Nu.fits a = true) (hb : Nu.fits b = true) : Calls Try.prog 12 #[.int .i64 a, .int .i64 b] w fun e w' => e = .returned (.bool true) ∧ Below w.heap.size w w' := by
  have hb1 := (Nu.fits_iff b).1 hb
  have HA := Lib.hid ha
  clear ha hb
  by_cases hb0 : b < 64
  · obtain ⟨k, hk⟩ : ∃ k : Nat, b % 65536 = (k : Int) := ⟨(b % 65536).toNat, by omega⟩
    have hk2 : k < 65536 := by omega
    have hand : bits BinOp.and IntKind.i64 b 65535 = (k : Int) := by rw [i64_and16, hk]
    obtain ⟨m, hm⟩ : ∃ m : Nat, m = 64 + k := ⟨_, rfl⟩
    have hm64 : 64 ≤ m := by omega
    have wm : IntKind.i64.wrap (64 + (k : Int)) = (m : Int) := by rw [IntWalk.i64_in _ (by omega), hm]; simp
    have hmb : m ≤ 65600 := by omega
    clear hk hm hk2
    have hd : ∀ x : Int, Nu.doN (⟨#[42, 42]⟩ : ByteArray).data.toList x (m : Int) = Nu.fit (x ^ m) := fun x => by
      unfold Nu.doN
      have : ¬ ((m : Int) < 0) := by omega
      simp [this]
    have HM : Hid (Nu.fits (m : Int) = true) := (show _ = _ from fitsLit (by omega) (by omega))
    by_cases e0 : a = 0
    · subst e0
      have h1 : Hid (Nu.doN (⟨#[42, 42]⟩ : ByteArray).data.toList 0 (m : Int) = (0, [])) := (show _ = _ from by rw [hd, Int.zero_pow (by omega)]; rfl)
      clear hd
      go_enter Try.func12, Try.ntmps12
      go_wp2_with (first
        | (go_at_call 15; refine (nDo_is h1 _ HA.out HM.out).mono ?_; rintro e w1 ⟨rfl, b1⟩)
        | (go_at_call 14; refine (shown8 _).mono ?_; rintro e w0 ⟨rfl, b0⟩))
      go_ret
      refine ⟨ret_bool (by first | rfl | (simp; done) | (simp [Nu.nOver, Nu.nZero, Nu.nVal, Nu.nType]; done) | (simp; omega) | (simp [Nu.nOver, Nu.nZero, Nu.nVal, Nu.nType]; omega)), (bseq b0 b1)⟩
    · by_cases e1 : a = 1
      · subst e1
        have h1 : Hid (Nu.doN (⟨#[42, 42]⟩ : ByteArray).data.toList 1 (m : Int) = (1, [])) := (show _ = _ from by rw [hd, Int.one_pow]; rfl)
        clear hd
        go_enter Try.func12, Try.ntmps12
        go_wp2_with (first
          | (go_at_call 15; refine (nDo_is h1 _ HA.out HM.out).mono ?_; rintro e w1 ⟨rfl, b1⟩)
          | (go_at_call 14; refine (shown8 _).mono ?_; rintro e w0 ⟨rfl, b0⟩))
        go_ret
        refine ⟨ret_bool (by first | rfl | (simp; done) | (simp [Nu.nOver, Nu.nZero, Nu.nVal, Nu.nType]; done) | (simp; omega) | (simp [Nu.nOver, Nu.nZero, Nu.nVal, Nu.nType]; omega)), (bseq b0 b1)⟩
      · by_cases e2 : a = -1
        · subst e2
          have hm2 : ((m : Int)).tmod 2 = ((m % 2 : Nat) : Int) := rfl
          rcases Nu.one_pow_cases m with ⟨g, g2⟩ | ⟨g, g2⟩
          · have h1 : Hid (Nu.doN (⟨#[42, 42]⟩ : ByteArray).data.toList (-1) (m : Int) = (1, [])) := (show _ = _ from by rw [hd, g]; rfl)
            rw [g2] at hm2
            clear hd g
            go_enter Try.func12, Try.ntmps12
            go_wp2_with (first
              | (go_at_call 15; refine (nDo_is h1 _ HA.out HM.out).mono ?_; rintro e w1 ⟨rfl, b1⟩)
              | (go_at_call 14; refine (shown8 _).mono ?_; rintro e w0 ⟨rfl, b0⟩))
            go_ret
            refine ⟨ret_bool (by first | rfl | (simp; done) | (simp [Nu.nOver, Nu.nZero, Nu.nVal, Nu.nType]; done) | (simp; omega) | (simp [Nu.nOver, Nu.nZero, Nu.nVal, Nu.nType]; omega)), (bseq b0 b1)⟩
          · have h1 : Hid (Nu.doN (⟨#[42, 42]⟩ : ByteArray).data.toList (-1) (m : Int) = (-1, [])) := (show _ = _ from by rw [hd, g]; rfl)
            rw [g2] at hm2
            clear hd g
            go_enter Try.func12, Try.ntmps12
            go_wp2_with (first
              | (go_at_call 15; refine (nDo_is h1 _ HA.out HM.out).mono ?_; rintro e w1 ⟨rfl, b1⟩)
              | (go_at_call 14; refine (shown8 _).mono ?_; rintro e w0 ⟨rfl, b0⟩))
            go_ret
            refine ⟨ret_bool (by first | rfl | (simp; done) | (simp [Nu.nOver, Nu.nZero, Nu.nVal, Nu.nType]; done) | (simp; omega) | (simp [Nu.nOver, Nu.nZero, Nu.nVal, Nu.nType]; omega)), (bseq b0 b1)⟩
        · have h1 : Hid (Nu.doN (⟨#[42, 42]⟩ : ByteArray).data.toList a (m : Int) = (0, Nu.nOver)) := (show _ = _ from by rw [hd, Nu.fit_not (Nu.far_pow (by omega) hm64)])
          have z0 : (a == 0) = false := by simpa using e0
          have z1 : (a == 1) = false := by simpa using e1
          have z2 : (a == -1) = false := by simpa using e2
          clear hd e0 e1 e2
          go_enter Try.func12, Try.ntmps12
          go_wp2_with (first
            | (go_at_call 15; refine (nDo_is h1 _ HA.out HM.out).mono ?_; rintro e w1 ⟨rfl, b1⟩)
            | (go_at_call 14; refine (shown8 _).mono ?_; rintro e w0 ⟨rfl, b0⟩))
          go_ret
          refine ⟨ret_bool (by first | rfl | (simp; done) | (simp [Nu.nOver, Nu.nZero, Nu.nVal, Nu.nType]; done) | (simp; omega) | (simp [Nu.nOver, Nu.nZero, Nu.nVal, Nu.nType]; omega)), (bseq b0 b1)⟩
  · obtain ⟨m, rfl⟩ : ∃ m : Nat, b = (m : Int) := ⟨b.toNat, by omega⟩
    have hm64 : 64 ≤ m := by omega
    have hd : ∀ x : Int, Nu.doN (⟨#[42, 42]⟩ : ByteArray).data.toList x (m : Int) = Nu.fit (x ^ m) := fun x => by
      unfold Nu.doN
      have : ¬ ((m : Int) < 0) := by omega
      simp [this]
    have HM : Hid (Nu.fits (m : Int) = true) := (show _ = _ from fitsLit (by omega) (by omega))
    by_cases e0 : a = 0
    · subst e0
      have h1 : Hid (Nu.doN (⟨#[42, 42]⟩ : ByteArray).data.toList 0 (m : Int) = (0, [])) := (show _ = _ from by rw [hd, Int.zero_pow (by omega)]; rfl)
      clear hd
      go_enter Try.func12, Try.ntmps12
      go_wp2_with (first
        | (go_at_call 15; refine (nDo_is h1 _ HA.out HM.out).mono ?_; rintro e w1 ⟨rfl, b1⟩)
        | (go_at_call 14; refine (shown8 _).mono ?_; rintro e w0 ⟨rfl, b0⟩))
      go_ret
      refine ⟨ret_bool (by first | rfl | (simp; done) | (simp [Nu.nOver, Nu.nZero, Nu.nVal, Nu.nType]; done) | (simp; omega) | (simp [Nu.nOver, Nu.nZero, Nu.nVal, Nu.nType]; omega)), (bseq b0 b1)⟩
    · by_cases e1 : a = 1
      · subst e1
        have h1 : Hid (Nu.doN (⟨#[42, 42]⟩ : ByteArray).data.toList 1 (m : Int) = (1, [])) := (show _ = _ from by rw [hd, Int.one_pow]; rfl)
        clear hd
        go_enter Try.func12, Try.ntmps12
        go_wp2_with (first
          | (go_at_call 15; refine (nDo_is h1 _ HA.out HM.out).mono ?_; rintro e w1 ⟨rfl, b1⟩)
          | (go_at_call 14; refine (shown8 _).mono ?_; rintro e w0 ⟨rfl, b0⟩))
        go_ret
        refine ⟨ret_bool (by first | rfl | (simp; done) | (simp [Nu.nOver, Nu.nZero, Nu.nVal, Nu.nType]; done) | (simp; omega) | (simp [Nu.nOver, Nu.nZero, Nu.nVal, Nu.nType]; omega)), (bseq b0 b1)⟩
      · by_cases e2 : a = -1
        · subst e2
          have hm2 : ((m : Int)).tmod 2 = ((m % 2 : Nat) : Int) := rfl
          rcases Nu.one_pow_cases m with ⟨g, g2⟩ | ⟨g, g2⟩
          · have h1 : Hid (Nu.doN (⟨#[42, 42]⟩ : ByteArray).data.toList (-1) (m : Int) = (1, [])) := (show _ = _ from by rw [hd, g]; rfl)
            rw [g2] at hm2
            clear hd g
            go_enter Try.func12, Try.ntmps12
            go_wp2_with (first
              | (go_at_call 15; refine (nDo_is h1 _ HA.out HM.out).mono ?_; rintro e w1 ⟨rfl, b1⟩)
              | (go_at_call 14; refine (shown8 _).mono ?_; rintro e w0 ⟨rfl, b0⟩))
            go_ret
            refine ⟨ret_bool (by first | rfl | (simp; done) | (simp [Nu.nOver, Nu.nZero, Nu.nVal, Nu.nType]; done) | (simp; omega) | (simp [Nu.nOver, Nu.nZero, Nu.nVal, Nu.nType]; omega)), (bseq b0 b1)⟩
          · have h1 : Hid (Nu.doN (⟨#[42, 42]⟩ : ByteArray).data.toList (-1) (m : Int) = (-1, [])) := (show _ = _ from by rw [hd, g]; rfl)
            rw [g2] at hm2
            clear hd g
            go_enter Try.func12, Try.ntmps12
            go_wp2_with (first
              | (go_at_call 15; refine (nDo_is h1 _ HA.out HM.out).mono ?_; rintro e w1 ⟨rfl, b1⟩)
              | (go_at_call 14; refine (shown8 _).mono ?_; rintro e w0 ⟨rfl, b0⟩))
            go_ret
            refine ⟨ret_bool (by first | rfl | (simp; done) | (simp [Nu.nOver, Nu.nZero, Nu.nVal, Nu.nType]; done) | (simp; omega) | (simp [Nu.nOver, Nu.nZero, Nu.nVal, Nu.nType]; omega)), (bseq b0 b1)⟩
        · have h1 : Hid (Nu.doN (⟨#[42, 42]⟩ : ByteArray).data.toList a (m : Int) = (0, Nu.nOver)) := (show _ = _ from by rw [hd, Nu.fit_not (Nu.far_pow (by omega) hm64)])
          have z0 : (a == 0) = false := by simpa using e0
          have z1 : (a == 1) = false := by simpa using e1
          have z2 : (a == -1) = false := by simpa using e2
          clear hd e0 e1 e2
          go_enter Try.func12, Try.ntmps12
          go_wp2_with (first
            | (go_at_call 15; refine (nDo_is h1 _ HA.out HM.out).mono ?_; rintro e w1 ⟨rfl, b1⟩)
            | (go_at_call 14; refine (shown8 _).mono ?_; rintro e w0 ⟨rfl, b0⟩))
          go_ret
          refine ⟨ret_bool (by first | rfl | (simp; done) | (simp [Nu.nOver, Nu.nZero, Nu.nVal, Nu.nType]; done) | (simp; omega) | (simp [Nu.nOver, Nu.nZero, Nu.nVal, Nu.nType]; omega)), (bseq b0 b1)⟩
end lawNumberFar
end Go.Proofs.Ytaekjkihdecmcaa
