/-
  What two digits of sixteen say to strconv.ParseUint, at this program.
-/
import Derived.Test.YtbdjccmcdifjcaaGreatDoorN
import Derived.Lib.ConvBytes
import Derived.Lib.AtoiErrMem
set_option linter.unusedVariables false
set_option linter.unusedSimpArgs false
namespace Go.Proofs.YtbdjccmcdifjcaaGreatDoor
open Go.RowKit Go.Shelf

def lowN (n : Nat) : Nat := if (n / 32) % 2 = 1 then n else n + 32
theorem low_all : ((List.range 256).all fun n => decide (bits .or .u8 (n : Int) 32 = (lowN n : Int))) = true := by kernel_rfl
theorem low_is (c : UInt8) : bits .or .u8 (c.toNat : Int) 32 = (lowN c.toNat : Int) := by
  have := List.all_eq_true.1 low_all c.toNat (by simp [List.mem_range]; exact c.toNat_lt)
  simpa using this

def hexTo (acc : Nat) : Sp.Bs → Option Nat
  | [] => some acc
  | c :: r => match Sp.hexv c with
    | some x => hexTo (16 * acc + x) r
    | none => none

theorem hexv_dig {c : UInt8} (h1 : 48 ≤ c.toNat) (h2 : c.toNat ≤ 57) : Sp.hexv c = some (c.toNat - 48) := by unfold Sp.hexv; rw [if_pos ⟨h1, h2⟩]
theorem hexv_let {c : UInt8} (h : ¬ (48 ≤ c.toNat ∧ c.toNat ≤ 57)) (h1 : 97 ≤ lowN c.toNat) (h2 : lowN c.toNat ≤ 102) : Sp.hexv c = some (lowN c.toNat - 87) := by
  have := c.toNat_lt
  unfold lowN at h1 h2 ⊢
  unfold Sp.hexv
  rw [if_neg h]
  by_cases hx : c.toNat / 32 % 2 = 1
  · rw [if_pos hx] at h1 h2 ⊢
    rw [if_pos (by omega)]
  · rw [if_neg hx] at h1 h2 ⊢
    rw [if_neg (by omega), if_pos (by omega)]
    congr 1
theorem hexv_no {c : UInt8} (h : ¬ (48 ≤ c.toNat ∧ c.toNat ≤ 57)) (h1 : lowN c.toNat < 97 ∨ 102 < lowN c.toNat) : Sp.hexv c = none := by
  have := c.toNat_lt
  unfold lowN at h1
  unfold Sp.hexv
  split at h1
  · rw [if_neg h, if_neg (by omega), if_neg (by omega)]
  · rw [if_neg h, if_neg (by omega), if_neg (by omega)]

theorem lower_is {c : UInt8} {lv : Nat} (h : Hid (lowN c.toNat = lv)) (w : World) : Calls Tryz.prog 111 #[.int .u8 (c.toNat : Int)] w fun e w' => e = .returned (.int .u8 (lv : Int)) ∧ w = w' := by
  refine (Tryz.internal_strconv_lower (c.toNat : Int) w).mono ?_
  rintro e w' ⟨rfl, rfl⟩
  refine ⟨?_, rfl⟩
  rw [low_is, h.out]

theorem lower_95 (w : World) : Calls Tryz.prog 111 #[.int .u8 95] w fun e w' => e = .returned (.int .u8 127) ∧ w = w' := by
  refine (Tryz.internal_strconv_lower 95 w).mono ?_
  rintro e w' ⟨rfl, rfl⟩
  exact ⟨by kernel_rfl, rfl⟩

/-- What ParseUint answers of a text of two bytes: the number, or an error. -/
def HexEnd (r : Option Nat) (e : Ending) : Prop :=
  match r with
  | some n => e = .returned (.tuple #[.int .u64 n, .nilIface])
  | none => e = .returned (.tuple #[.int .u64 0, .iface 146 (.int .i64 2)])

set_option maxHeartbeats 4000000 in
set_option maxRecDepth 100000 in
theorem parseHex_in (t : ByteArray) (ht : t.size = 2) (w : World) :
    Calls Tryz.prog 105 #[.string t, .int .i64 16, .int .i64 8] w fun e w' => HexEnd (hexTo 0 t.data.toList) e ∧ Below w.heap.size w w' := by
  have hemp : t.toList.isEmpty = false := by
    rw [← decide_eq_emptyBytes]
    exact decide_eq_false (fun h => by rw [h] at ht; simp at ht)
  have hcv := Lib.run_convert_string_bytes (P := Tryz.prog) w 9 86 5 t (u := .string) Tryz.underlying9 Tryz.underlying86 Tryz.underlying5
  have hB : ∀ j, j < t.size → (Lib.bytesWorld w 5 t).cell? ⟨w.heap.size, j, none⟩ = some (.int .u8 (t.data.toList.getD j 0).toNat) := fun j hj => Lib.bytesWorld_cell w 5 t j hj
  have hbel : Below w.heap.size w (Lib.bytesWorld w 5 t) := by
    exact Lib.bytesWorld_below w 5 t
  obtain ⟨W1, hW1⟩ : ∃ W1, W1 = Lib.bytesWorld w 5 t := ⟨_, rfl⟩
  rw [← hW1] at hcv hB hbel
  clear hW1
  have HBel := Lib.hid hbel
  clear hbel
  obtain ⟨bs, hL⟩ : ∃ bs, bs = t.data.toList := ⟨_, rfl⟩
  have hLn : bs.length = t.size := by rw [hL, Lib.size_eq]
  rw [← hL] at hB ⊢
  clear hL
  have HS : Hid (t.size = 2) := ht
  have hs2 : t.size ≤ 2 := by omega
  have hs2' : 2 ≤ t.size := by omega
  clear ht
  have HLn : Hid (bs.length = t.size) := hLn
  clear hLn
  go_enter Tryz.func105, Tryz.ntmps105
  go_wp2
  go_loop [12, 13, 101] (fun vu vn vi => ∃ (k acc : Nat) (a : Int), vu = .bool false ∧ vn = .int .u64 a ∧ vi = .int .i64 k ∧ k ≤ t.size ∧ 0 ≤ a ∧ a ≤ 255 ∧ (k ≤ 1 → a ≤ 15) ∧ Hid (a = (acc : Int) ∧ (k = 0 → acc = 0) ∧ hexTo 0 bs = hexTo acc (bs.drop k)))
    (fun _ _ vi => t.size - (intOf vi).toNat)
  case atStart => exact ⟨0, 0, 0, rfl, rfl, rfl, by omega, by omega, by omega, by omega, rfl, fun _ => rfl, rfl⟩
  case round =>
    obtain ⟨k, acc, a, rfl, rfl, rfl, hk, hap, ha, ha1, hh⟩ := hrel
    obtain ⟨hae, ha0, hdec⟩ := hh.out
    clear hh
    by_cases hkn : k < t.size
    · have hc := hB k hkn
      have hbl : k < bs.length := by rw [HLn.out]; exact hkn
      have hdrop : bs.drop k = bs[k]'hbl :: bs.drop (k + 1) := List.drop_eq_getElem_cons hbl
      have hget : bs.getD k 0 = bs[k]'hbl := by simp [List.getD, List.getElem?_eq_getElem hbl]
      rw [hdrop] at hdec
      rw [hget] at hc
      generalize bs[k]'hbl = c at hc hdec
      have hc256 : c.toNat < 256 := c.toNat_lt
      clear hB hdrop hget
      have hk1 : k ≤ 1 := by omega
      have ha15 := ha1 hk1
      clear ha1
      by_cases hdig : 48 ≤ c.toNat ∧ c.toNat ≤ 57
      · obtain ⟨hd0, hd1⟩ := hdig
        have HN : Hid (a * 16 + ((c.toNat : Int) - 48) = ((acc * 16 + (c.toNat - 48) : Nat) : Int) ∧ (k + 1 = 0 → acc * 16 + (c.toNat - 48) = 0) ∧ hexTo 0 bs = hexTo (acc * 16 + (c.toNat - 48)) (bs.drop (k + 1))) := by
          refine Lib.hid ⟨by omega, by omega, ?_⟩
          rw [hdec, hexTo, hexv_dig hd0 hd1, Nat.mul_comm]
        have HA : Hid (k = 0 → a = 0) := fun h => by have := ha0 h; omega
        clear hdec ha0 hae
        have g95 : ((c.toNat : Int) == 95) = false := by simp; omega
        go_wp2
        refine ⟨⟨k + 1, acc * 16 + (c.toNat - 48), a * 16 + ((c.toNat : Int) - 48), rfl, (by first | rfl | (congr 1; omega)), (by first | rfl | (congr 1; omega)), by omega, by omega, by omega, fun h => by have := HA.out (by omega); omega, HN⟩, by simp [intOf]; omega⟩
      · obtain ⟨lv, HLV⟩ := hid_ex (lowN c.toNat)
        have hlv : lv < 256 := by have := HLV.out; unfold lowN at this; split at this <;> omega
        have gd : (decide ((48 : Int) ≤ (c.toNat : Int)) && decide ((c.toNat : Int) ≤ 57)) = false := by simp; omega
        by_cases hr : 97 ≤ lv ∧ lv ≤ 102
        · obtain ⟨hr0, hr1⟩ := hr
          have HN : Hid (a * 16 + ((lv : Int) - 97 + 10) = ((acc * 16 + (lv - 87) : Nat) : Int) ∧ (k + 1 = 0 → acc * 16 + (lv - 87) = 0) ∧ hexTo 0 bs = hexTo (acc * 16 + (lv - 87)) (bs.drop (k + 1))) := by
            refine Lib.hid ⟨by omega, by omega, ?_⟩
            rw [hdec, hexTo, hexv_let hdig (by rw [HLV.out]; exact hr0) (by rw [HLV.out]; exact hr1), HLV.out, Nat.mul_comm]
          have HA : Hid (k = 0 → a = 0) := fun h => by have := ha0 h; omega
          have g95 : ((c.toNat : Int) == 95) = false := by have := HLV.out; unfold lowN at this; simp; split at this <;> omega
          clear hdec ha0 hae gd
          have hg : 57 < c.toNat := by have := HLV.out; unfold lowN at this; split at this <;> omega
          clear hdig
          go_wp2_with (go_at_call 111; refine (lower_is HLV _).mono ?_; rintro e w' ⟨rfl, rfl⟩)
          refine ⟨⟨k + 1, acc * 16 + (lv - 87), a * 16 + ((lv : Int) - 97 + 10), rfl, (by first | rfl | (congr 1; omega)), (by first | rfl | (congr 1; omega)), by omega, by omega, by omega, fun h => by have := HA.out (by omega); omega, HN⟩, by simp [intOf]; omega⟩
        · have hF : hexTo acc (c :: bs.drop (k + 1)) = none := by
            rw [hexTo, hexv_no hdig (by rw [HLV.out]; omega)]
          have HF : Hid (hexTo 0 bs = none) := hdec.trans hF
          clear hdec ha0 hF hae
          by_cases k95 : c.toNat = 95
          · have hc' : W1.cell? ⟨w.heap.size, k, none⟩ = some (.int .u8 95) := by rw [hc, k95]; rfl
            clear hc HLV hr gd hdig k95
            go_wp2_with (go_at_call 111; refine (lower_95 _).mono ?_; rintro e w' ⟨rfl, rfl⟩)
            all_goals
              go_ret2
              refine ⟨?_, HBel.out⟩
              rw [HF.out]
              rfl
          · have g95 : ((c.toNat : Int) == 95) = false := by simp; omega
            have hr' : lv < 97 ∨ 102 < lv := by omega
            have hd' : c.toNat < 48 ∨ 57 < c.toNat := by omega
            clear hr gd hdig k95
            rcases hd' with hd' | hd'
            all_goals
              go_wp2_with (go_at_call 111; refine (lower_is HLV _).mono ?_; rintro e w' ⟨rfl, rfl⟩)
              all_goals
                go_ret2
                refine ⟨?_, HBel.out⟩
                rw [HF.out]
                rfl
    · have hk2 : Hid (k = 2) := by show _ = _; omega
      have HD : Hid (hexTo 0 bs = some acc) := by
        show _ = _
        rw [hdec, hk2.out, List.drop_of_length_le (by rw [HLn.out]; omega), hexTo]
      have HA : Hid (a = (acc : Int)) := hae
      clear hdec ha0 hae
      go_wp2
      go_ret2
      refine ⟨?_, HBel.out⟩
      rw [HD.out, HA.out]
      rfl
end Go.Proofs.YtbdjccmcdifjcaaGreatDoor
