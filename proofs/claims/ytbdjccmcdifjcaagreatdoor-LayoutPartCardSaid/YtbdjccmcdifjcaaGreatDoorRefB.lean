/-
  The reference's answer for how a text is quoted, at this program.
-/
import Derived.Test.YtbdjccmcdifjcaaGreatDoorRefA
import Derived.Deep.QuietTactic
import Derived.BigQuiet
import Derived.IntWalk
set_option linter.unusedVariables false
set_option linter.unusedSimpArgs false
namespace Go.Proofs.YtbdjccmcdifjcaaGreatDoor
open Go.RowKit Go.Shelf

theorem dig_at (x : Nat) (h : x < 16) (w : World) : (Instr.slice 9 (.string ⟨#[48, 49, 50, 51, 52, 53, 54, 55, 56, 57, 97, 98, 99, 100, 101, 102]⟩) (some (.int .u8 (x : Int))) (some (.int .u8 ((x : Int) + 1))) none).run Tryz.prog w = .ok (.string ⟨#[Sp.hexLow x]⟩) w := by
  have e : ∀ j : Fin 16, (⟨#[48, 49, 50, 51, 52, 53, 54, 55, 56, 57, 97, 98, 99, 100, 101, 102]⟩ : ByteArray).extract j.val (j.val + 1) = ⟨#[Sp.hexLow j.val]⟩ := by decide +kernel
  have e1 : ((x : Int)).toNat = x := by omega
  have e2 : ((x : Int) + 1).toNat = x + 1 := by omega
  have h1 : 0 ≤ (x : Int) + 1 ∧ (x : Int) + 1 ≤ 16 := by omega
  have h2 : 0 ≤ (x : Int) ∧ (x : Int) ≤ (x : Int) + 1 := by omega
  have h3 := e ⟨x, h⟩
  simp only at h3
  rw [run_slice_string_if (h := Tryz.underlying9)]
  have sz : (((⟨#[48, 49, 50, 51, 52, 53, 54, 55, 56, 57, 97, 98, 99, 100, 101, 102]⟩ : ByteArray).size : Nat) : Int) = 16 := rfl
  rw [sz, if_pos h1, if_pos h2, e1, e2, h3]

theorem one_byte (s : ByteArray) (k : Nat) (h : k < s.size) : (s.extract k (k + 1)).data.toList = [s[k]] := by
  rw [extract_list, get_drop s k h, Nat.add_sub_cancel_left]
  rfl

set_option maxHeartbeats 4000000 in
set_option maxRecDepth 100000 in
theorem rquote_any (s : ByteArray) (hs : s.size ≤ 1000000) (w : World) : Calls Tryz.prog 34 #[.string s] w fun e w' => e = .returned (.string ⟨(Sp.quote s.data.toList).toArray⟩) ∧ Below w.heap.size w w' := by
  go_enter Tryz.func34, Tryz.ntmps34
  go_wp2_with fail
  go_loopw [4, 5] (fun v4 v5 wr => ∃ (k : Nat) (out : ByteArray), v4 = .string out ∧ v5 = .int .i64 k ∧ k ≤ s.size ∧ out.size ≤ 1 + 4 * k ∧ Hid (out.data.toList = 39 :: (s.data.toList.take k).flatMap Sp.quoteB) ∧ ∃ q, wr = w.drewN q) (fun _ v5 _ => s.size - (intOf v5).toNat)
  case atStart => exact ⟨0, _, rfl, rfl, Nat.zero_le _, by decide, rfl, 0, rfl⟩
  case round =>
    obtain ⟨k, out, rfl, rfl, hk, hos, HO, q, rfl⟩ := hrel
    by_cases hlt : k < s.size
    · have hc0 := s[k].toNat_lt
      have h1b := one_byte s k hlt
      have step : ∀ t : ByteArray, t.data.toList = Sp.quoteB s[k] → Hid ((out ++ t).data.toList = 39 :: (s.data.toList.take (k + 1)).flatMap Sp.quoteB) ∧ (out ++ t).size ≤ 1 + 4 * (k + 1) := by
        intro t ht
        have hkl : s.data.toList[k]? = some s[k] := by
          rw [List.getElem?_eq_getElem (by rw [size_list]; exact hlt)]
          rfl
        refine ⟨?_, ?_⟩
        · show _ = _
          rw [List.take_add_one, List.flatMap_append, hkl]
          have : (out ++ t).data.toList = out.data.toList ++ t.data.toList := by simp
          rw [this, HO.out, ht]
          simp
        · have h4 := (Sp.quoteB_bounds s[k]).2.1
          rw [← ht, size_list] at h4
          simp [ByteArray.size_append]
          omega
      have STEP := Lib.hid step
      clear step
      by_cases k10 : s[k].toNat = 10
      · have g10 : ((s[k].toNat : Int) == 10) = true := by simp; omega
        obtain ⟨n1, n2⟩ := STEP.out ⟨#[92, 110]⟩ (by unfold Sp.quoteB; rw [if_pos k10])
        clear STEP HO k10 h1b
        go_wp2_with fail
        go_roundw
        case rel => exact ⟨k + 1, _, rfl, by go_num, by omega, n2, n1, q, rfl⟩
        case measure => simp [intOf]; omega
      have g10 : ((s[k].toNat : Int) == 10) = false := by simp; omega
      by_cases k9 : s[k].toNat = 9
      · have g9 : ((s[k].toNat : Int) == 9) = true := by simp; omega
        obtain ⟨n1, n2⟩ := STEP.out ⟨#[92, 116]⟩ (by unfold Sp.quoteB; rw [if_neg k10, if_pos k9])
        clear STEP HO k9 k10 h1b
        go_wp2_with fail
        go_roundw
        case rel => exact ⟨k + 1, _, rfl, by go_num, by omega, n2, n1, q, rfl⟩
        case measure => simp [intOf]; omega
      have g9 : ((s[k].toNat : Int) == 9) = false := by simp; omega
      by_cases k92 : s[k].toNat = 92 ∨ s[k].toNat = 39
      · obtain ⟨n1, n2⟩ := STEP.out ((⟨#[92]⟩ : ByteArray) ++ s.extract k (k + 1)) (by unfold Sp.quoteB; rw [if_neg k10, if_neg k9, if_pos k92]; simp [-ByteArray.data_extract, h1b])
        have e : out ++ ((⟨#[92]⟩ : ByteArray) ++ s.extract k (k + 1)) = out ++ (⟨#[92]⟩ : ByteArray) ++ s.extract k (k + 1) := (ByteArray.append_assoc).symm
        rw [e] at n1 n2
        have hes : (s.extract k (k + 1)).size = 1 := by rw [← size_list, h1b]; rfl
        rcases k92 with k92 | k92
        · have g92 : ((s[k].toNat : Int) == 92) = true := by simp; omega
          clear STEP HO k9 k10 k92 h1b e
          go_wp2_with fail
          go_roundw
          case rel => exact ⟨k + 1, _, rfl, by go_num, by omega, n2, n1, q, rfl⟩
          case measure => simp [intOf]; omega
        · have g92 : ((s[k].toNat : Int) == 92) = false := by simp; omega
          have g39 : ((s[k].toNat : Int) == 39) = true := by simp; omega
          clear STEP HO k9 k10 k92 h1b e
          go_wp2_with fail
          go_roundw
          case rel => exact ⟨k + 1, _, rfl, by go_num, by omega, n2, n1, q, rfl⟩
          case measure => simp [intOf]; omega
      have g92 : ((s[k].toNat : Int) == 92) = false := by simp; omega
      have g39 : ((s[k].toNat : Int) == 39) = false := by simp; omega
      by_cases kr : s[k].toNat < 32 ∨ 126 < s[k].toNat
      · obtain ⟨x, HX⟩ := hid_ex (s[k].toNat / 16)
        obtain ⟨y, HY⟩ := hid_ex (s[k].toNat % 16)
        have hx16 : x < 16 := by rw [← HX.out]; omega
        have hy16 : y < 16 := by rw [← HY.out]; omega
        have hdx : (s[k].toNat : Int) / 16 = (x : Int) := by rw [← HX.out]; omega
        have hdx' : (s[k].toNat : Int).tdiv 16 = (x : Int) := by rw [← HX.out, Int.tdiv_eq_ediv_of_nonneg (by omega)]; omega
        have hdy : (s[k].toNat : Int) % 16 = (y : Int) := by rw [← HY.out]; omega
        have hdy' : (s[k].toNat : Int).tmod 16 = (y : Int) := by rw [← HY.out, Int.tmod_eq_emod_of_nonneg (by omega)]; omega
        have hwx : IntKind.u8.wrap ((x : Int) + 1) = (x : Int) + 1 := IntWalk.u8_in _ (by omega)
        have hwy : IntKind.u8.wrap ((y : Int) + 1) = (y : Int) + 1 := IntWalk.u8_in _ (by omega)
        have hsx : IntKind.u8.wrap (x : Int) = (x : Int) := IntWalk.u8_in _ (by omega)
        have hsy : IntKind.u8.wrap (y : Int) = (y : Int) := IntWalk.u8_in _ (by omega)
        have hlx := dig_at x hx16
        have hly := dig_at y hy16
        obtain ⟨n1, n2⟩ := STEP.out ((⟨#[92, 120]⟩ : ByteArray) ++ (⟨#[Sp.hexLow x]⟩ : ByteArray) ++ (⟨#[Sp.hexLow y]⟩ : ByteArray)) (by unfold Sp.quoteB; rw [if_neg k10, if_neg k9, if_neg k92, if_pos kr, HX.out, HY.out]; simp)
        have e : out ++ ((⟨#[92, 120]⟩ : ByteArray) ++ (⟨#[Sp.hexLow x]⟩ : ByteArray) ++ (⟨#[Sp.hexLow y]⟩ : ByteArray)) = out ++ (⟨#[92, 120]⟩ : ByteArray) ++ (⟨#[Sp.hexLow x]⟩ : ByteArray) ++ (⟨#[Sp.hexLow y]⟩ : ByteArray) := by rw [ByteArray.append_assoc, ByteArray.append_assoc, ByteArray.append_assoc]
        rw [e] at n1 n2
        have gr : (decide ((32 : Int) ≤ (s[k].toNat : Int)) && decide ((s[k].toNat : Int) < 127)) = false := by simp; omega
        clear STEP HO k9 k10 k92 h1b e HX HY gr
        rcases kr with kr | kr
        · go_wp2_with fail
          go_quiet (fail)
          go_wp2_with fail
          go_roundw
          case rel => exact ⟨k + 1, _, rfl, by go_num, by omega, n2, n1, _, rfl⟩
          case measure => simp [intOf]; omega
        · go_wp2_with fail
          go_quiet (fail)
          go_wp2_with fail
          go_roundw
          case rel => exact ⟨k + 1, _, rfl, by go_num, by omega, n2, n1, _, rfl⟩
          case measure => simp [intOf]; omega
      · obtain ⟨n1, n2⟩ := STEP.out (s.extract k (k + 1)) (by rw [h1b]; unfold Sp.quoteB; rw [if_neg k10, if_neg k9, if_neg k92, if_neg kr])
        have hes : (s.extract k (k + 1)).size = 1 := by rw [← size_list, h1b]; rfl
        clear STEP HO k9 k10 k92 h1b
        go_wp2_with fail
        go_roundw
        case rel => exact ⟨k + 1, _, rfl, by go_num, by omega, n2, n1, q, rfl⟩
        case measure => simp [intOf]; omega
    · have HN : Hid ((⟨(Sp.quote s.data.toList).toArray⟩ : ByteArray) = out ++ (⟨#[39]⟩ : ByteArray)) := by
        show _ = _
        have h1 := HO.out
        rw [List.take_of_length_le (by rw [size_list]; omega)] at h1
        have h2 : (out ++ (⟨#[39]⟩ : ByteArray)).data.toList = Sp.quote s.data.toList := by
          have : (out ++ (⟨#[39]⟩ : ByteArray)).data.toList = out.data.toList ++ [39] := by simp
          rw [this, h1]
          rfl
        rw [← h2, toArray_data]
      clear HO
      go_wp2_with fail
      go_ret
      exact ⟨ret_str HN.out.symm, below_drewN (Below.refl _ w) q⟩
theorem rquote_is {s q : ByteArray} (h : Hid ((⟨(Sp.quote s.data.toList).toArray⟩ : ByteArray) = q)) (hs : s.size ≤ 1000000) (w : World) : Calls Tryz.prog 34 #[.string s] w fun e w' => e = .returned (.string q) ∧ Below w.heap.size w w' := by
  rw [← h.out]; exact rquote_any s hs w
end Go.Proofs.YtbdjccmcdifjcaaGreatDoor
