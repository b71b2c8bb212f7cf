/-
  What each escape says: the walk of the statement ScanEscapes.
-/
import Derived.Test.YtfomjdaihoaipaaDoorQuotes
import Derived.Deep.DeepCutAuto
import Derived.Deep.RegionWith
import Derived.IntWalk
set_option linter.unusedVariables false
set_option linter.unusedSimpArgs false
namespace Go.Proofs.YtfomjdaihoaipaaDoor
open Go.RowKit Go.Shelf

namespace Sp
def hexUp (n : Nat) : UInt8 := UInt8.ofNat (if n < 10 then 48 + n else 55 + n)
theorem unq_hex (d : UInt8) : unq [34, 92, 120, hexLow (d.toNat / 16), hexUp (d.toNat % 16), 34] = some [d] := by
  have : ∀ n : Fin 256, unq [34, 92, 120, hexLow (n.val / 16), hexUp (n.val % 16), 34] = some [UInt8.ofNat n.val] := by decide +kernel
  have h := this ⟨d.toNat, d.toNat_lt⟩
  simp only [UInt8.ofNat_toNat] at h
  exact h
theorem unq_cut (d : UInt8) : unq [34, 92, 120, hexLow (d.toNat / 16), 34] = none := by
  have : ∀ n : Fin 256, unq [34, 92, 120, hexLow (n.val / 16), 34] = none := by decide +kernel
  exact this ⟨d.toNat, d.toNat_lt⟩
theorem unq_one (c : UInt8) : unq [39, 92, c, 39] = (simp1 c).map fun x => [x] := by
  have : ∀ n : Fin 256, unq [39, 92, UInt8.ofNat n.val, 39] = (simp1 (UInt8.ofNat n.val)).map fun x => [x] := by decide +kernel
  have h := this ⟨c.toNat, c.toNat_lt⟩
  simp only [UInt8.ofNat_toNat] at h
  exact h
end Sp

namespace lawEscapes
theorem dig_low (x : Nat) (h : x < 16) (w : World) : (Instr.slice 9 (.string ⟨#[48, 49, 50, 51, 52, 53, 54, 55, 56, 57, 97, 98, 99, 100, 101, 102]⟩) (some (.int .u8 (x : Int))) (some (.int .u8 ((x : Int) + 1))) none).run Tryd.prog w = .ok (.string ⟨#[Sp.hexLow x]⟩) w := by
  have e : ∀ j : Fin 16, (⟨#[48, 49, 50, 51, 52, 53, 54, 55, 56, 57, 97, 98, 99, 100, 101, 102]⟩ : ByteArray).extract j.val (j.val + 1) = ⟨#[Sp.hexLow j.val]⟩ := by decide +kernel
  have e1 : ((x : Int)).toNat = x := by omega
  have e2 : ((x : Int) + 1).toNat = x + 1 := by omega
  have h1 : 0 ≤ (x : Int) + 1 ∧ (x : Int) + 1 ≤ 16 := by omega
  have h2 : 0 ≤ (x : Int) ∧ (x : Int) ≤ (x : Int) + 1 := by omega
  have h3 := e ⟨x, h⟩
  simp only at h3
  rw [run_slice_string_if (h := Tryd.underlying9)]
  have sz : (((⟨#[48, 49, 50, 51, 52, 53, 54, 55, 56, 57, 97, 98, 99, 100, 101, 102]⟩ : ByteArray).size : Nat) : Int) = 16 := rfl
  rw [sz, if_pos h1, if_pos h2, e1, e2, h3]
theorem dig_up (x : Nat) (h : x < 16) (w : World) : (Instr.slice 9 (.string ⟨#[48, 49, 50, 51, 52, 53, 54, 55, 56, 57, 65, 66, 67, 68, 69, 70]⟩) (some (.int .u8 (x : Int))) (some (.int .u8 ((x : Int) + 1))) none).run Tryd.prog w = .ok (.string ⟨#[Sp.hexUp x]⟩) w := by
  have e : ∀ j : Fin 16, (⟨#[48, 49, 50, 51, 52, 53, 54, 55, 56, 57, 65, 66, 67, 68, 69, 70]⟩ : ByteArray).extract j.val (j.val + 1) = ⟨#[Sp.hexUp j.val]⟩ := by decide +kernel
  have e1 : ((x : Int)).toNat = x := by omega
  have e2 : ((x : Int) + 1).toNat = x + 1 := by omega
  have h1 : 0 ≤ (x : Int) + 1 ∧ (x : Int) + 1 ≤ 16 := by omega
  have h2 : 0 ≤ (x : Int) ∧ (x : Int) ≤ (x : Int) + 1 := by omega
  have h3 := e ⟨x, h⟩
  simp only at h3
  rw [run_slice_string_if (h := Tryd.underlying9)]
  have sz : (((⟨#[48, 49, 50, 51, 52, 53, 54, 55, 56, 57, 65, 66, 67, 68, 69, 70]⟩ : ByteArray).size : Nat) : Int) = 16 := rfl
  rw [sz, if_pos h1, if_pos h2, e1, e2, h3]
theorem and15 (d : UInt8) : bits BinOp.and IntKind.u8 (d.toNat : Int) 15 = ((d.toNat % 16 : Nat) : Int) := by
  have : ∀ n : Fin 256, bits BinOp.and IntKind.u8 (n.val : Int) 15 = ((n.val % 16 : Nat) : Int) := by decide +kernel
  exact this ⟨d.toNat, d.toNat_lt⟩

set_option maxHeartbeats 16000000 in
set_option maxRecDepth 100000 in
theorem walk (c d : UInt8) (at_ : Int) (w : World) (hE : Env w) : Calls Tryd.prog 14 #[.int .u8 (c.toNat : Int), .int .u8 (d.toNat : Int), .int .i64 at_] w fun e w' => e = .returned (.bool true) ∧ Below w.heap.size w w' := by
  have hd0 := d.toNat_lt
  have hc0 := c.toNat_lt
  obtain ⟨x, HX⟩ := hid_ex (d.toNat / 16)
  obtain ⟨y, HY⟩ := hid_ex (d.toNat % 16)
  have hx16 : x < 16 := by rw [← HX.out]; omega
  have hy16 : y < 16 := by rw [← HY.out]; omega
  have hdx : (d.toNat : Int) / 16 = (x : Int) := by rw [← HX.out]; omega
  have hdy : bits BinOp.and IntKind.u8 (d.toNat : Int) 15 = (y : Int) := by rw [and15, HY.out]
  have hwx : IntKind.u8.wrap ((x : Int) + 1) = (x : Int) + 1 := IntWalk.u8_in _ (by omega)
  have hwy : IntKind.u8.wrap ((y : Int) + 1) = (y : Int) + 1 := IntWalk.u8_in _ (by omega)
  have HU1 : Hid (∀ W, Env W → Calls Tryd.prog 19 #[.string ((⟨#[34, 92, 120]⟩ : ByteArray) ++ (⟨#[Sp.hexLow x]⟩ : ByteArray) ++ (⟨#[Sp.hexUp y]⟩ : ByteArray) ++ (⟨#[34]⟩ : ByteArray))] W fun e w' => e = .returned (.tuple #[.string ⟨#[d]⟩, .bool true]) ∧ Below W.heap.size W w') := by
    intro W hW
    have hl : ((⟨#[34, 92, 120]⟩ : ByteArray) ++ (⟨#[Sp.hexLow x]⟩ : ByteArray) ++ (⟨#[Sp.hexUp y]⟩ : ByteArray) ++ (⟨#[34]⟩ : ByteArray)).data.toList = [34, 92, 120, Sp.hexLow x, Sp.hexUp y, 34] := by simp
    refine unquote_some ?_ (by rw [← size_list, hl]; simp) W hW
    show _ = _
    rw [hl, ← HX.out, ← HY.out]
    exact Sp.unq_hex d
  have HU2 : Hid (∀ W, Env W → Calls Tryd.prog 19 #[.string ((⟨#[34, 92, 120]⟩ : ByteArray) ++ (⟨#[Sp.hexLow x]⟩ : ByteArray) ++ (⟨#[34]⟩ : ByteArray))] W fun e w' => e = .returned (.tuple #[.string ⟨#[]⟩, .bool false]) ∧ Below W.heap.size W w') := by
    intro W hW
    have hl : ((⟨#[34, 92, 120]⟩ : ByteArray) ++ (⟨#[Sp.hexLow x]⟩ : ByteArray) ++ (⟨#[34]⟩ : ByteArray)).data.toList = [34, 92, 120, Sp.hexLow x, 34] := by simp
    refine unquote_none ?_ (by rw [← size_list, hl]; simp) W hW
    show _ = _
    rw [hl, ← HX.out]
    exact Sp.unq_cut d
  have HU3 : Hid (∀ W, Env W → ∀ b, Sp.simp1 c = some b → Calls Tryd.prog 19 #[.string ((⟨#[39, 92]⟩ : ByteArray) ++ (⟨#[c]⟩ : ByteArray) ++ (⟨#[39]⟩ : ByteArray))] W fun e w' => e = .returned (.tuple #[.string ⟨#[b]⟩, .bool true]) ∧ Below W.heap.size W w') := by
    intro W hW b hb
    have hl : ((⟨#[39, 92]⟩ : ByteArray) ++ (⟨#[c]⟩ : ByteArray) ++ (⟨#[39]⟩ : ByteArray)).data.toList = [39, 92, c, 39] := by simp
    refine unquote_some ?_ (by rw [← size_list, hl]; simp) W hW
    show _ = _
    rw [hl, Sp.unq_one, hb]
    rfl
  have HU4 : Hid (∀ W, Env W → Sp.simp1 c = none → Calls Tryd.prog 19 #[.string ((⟨#[39, 92]⟩ : ByteArray) ++ (⟨#[c]⟩ : ByteArray) ++ (⟨#[39]⟩ : ByteArray))] W fun e w' => e = .returned (.tuple #[.string ⟨#[]⟩, .bool false]) ∧ Below W.heap.size W w') := by
    intro W hW hb
    have hl : ((⟨#[39, 92]⟩ : ByteArray) ++ (⟨#[c]⟩ : ByteArray) ++ (⟨#[39]⟩ : ByteArray)).data.toList = [39, 92, c, 39] := by simp
    refine unquote_none ?_ (by rw [← size_list, hl]; simp) W hW
    show _ = _
    rw [hl, Sp.unq_one, hb]
    rfl
  have HU5 : Hid (∀ W, Env W → Calls Tryd.prog 19 #[.string (⟨#[39, 92, 39, 39]⟩ : ByteArray)] W fun e w' => e = .returned (.tuple #[.string ⟨#[39]⟩, .bool true]) ∧ Below W.heap.size W w') := by
    intro W hW
    refine unquote_some ?_ (by decide) W hW
    show _ = _
    kernel_rfl
  have L1 : Hid (Sp.lex (⟨#[43, 32, 39, 97, 92]⟩ : ByteArray).data.toList = .error (2, 12)) := by show _ = _; kernel_rfl
  have HL1 : Hid (∀ W, Env W → Calls Tryd.prog 16 #[.string (⟨#[43, 32, 39, 97, 92]⟩ : ByteArray), .int .i64 at_] W fun e w' => e = .returned (.tuple #[.slice none 0 0, .int .i64 (wrap64 (at_ + 2)), .int .i64 12]) ∧ Below W.heap.size W w') := fun W hW => line_is L1 (by decide) at_ W hW
  have HLO := Lib.hid (dig_low x hx16)
  have HUP := Lib.hid (dig_up y hy16)
  clear L1 HX HY
  go_enter Tryd.func14, Tryd.ntmps14
  go_wp2_with fail
  refine (shown_any w hE).mono ?_
  rintro e w1 ⟨rfl, hb1⟩
  have hE1 := hE.below hb1 hE.size
  go_upto_region 4 with (fail)
  go_cut [10, 11] (fun v10 v11 wx => v10 = .string ⟨#[d]⟩ ∧ v11 = .bool true ∧ Below w.heap.size w wx)
  case first =>
    have hlo := HLO.out
    have hup := HUP.out
    clear HU2 HU3 HU4 HU5 HL1
    go_region_with (go_at_call 19; refine (HU1.out _ (hE.below (below_drewN hb1 1) hE.size)).mono ?_; rintro e w2 ⟨rfl, hb2⟩)
    all_goals (go_wp2_with fail; go_meet; exact ⟨rfl, rfl, (below_drewN hb1 1).trans (hb2.mono (below_drewN hb1 1).size)⟩)
  case rest =>
    obtain ⟨rfl, rfl, hb2⟩ := hcut
    have hE2 := hE.below hb2 hE.size
    clear HU1 hb1 hE1
    have hlo := HLO.out
    go_wp2_with fail
    refine (HU2.out _ hE2).mono ?_
    rintro e w3 ⟨rfl, hb3'⟩
    have hb3 := hb2.trans (hb3'.mono hb2.size)
    have hE3 := hE.below hb3 hE.size
    clear hb3' hb2 hE2 HU2 hlo HLO HUP
    have hbs := fun w => lawNames.byte_str c w
    have hbd := fun w => lawNames.byte_str d w
    have hb4 : Below w.heap.size w (w3.alloc (Obj.cells #[.int .u8 (c.toNat : Int)] 5)) := hb3.alloc hb3.size _
    have hE4 := hE.below hb4 hE.size
    go_wp2_with fail
    by_cases k110 : c.toNat = 110
    · have g110 : ((c.toNat : Int) == 110) = true := by simp; omega
      have g116 : ((c.toNat : Int) == 116) = false := by simp; omega
      have g92 : ((c.toNat : Int) == 92) = false := by simp; omega
      have g34 : ((c.toNat : Int) == 34) = false := by simp; omega
      have g39 : ((c.toNat : Int) == 39) = false := by simp; omega
      have hsi : Sp.simp1 c = some 10 := by unfold Sp.simp1; rw [if_pos k110]
      clear k110
      refine (HU3.out _ hE4 _ hsi).mono ?_
      rintro e w5 ⟨rfl, hb5'⟩
      have hb5 := hb4.trans (hb5'.mono hb4.size)
      have hb6 : Below w.heap.size w (w5.alloc (Obj.cells #[.int .u8 (c.toNat : Int)] 5)) := hb5.alloc hb5.size _
      have hE6 := hE.below hb6 hE.size
      clear hb5' hb4 hE4 hb3 hE3 HU3 HU4 hsi
      go_wp2_with fail
      refine (HL1.out _ hE6).mono ?_
      rintro e w7 ⟨rfl, hb7'⟩
      have hb7 := hb6.trans (hb7'.mono hb6.size)
      have hE7 := hE.below hb7 hE.size
      clear hb7' hb6 hE6 HL1
      go_wp2_with fail
      refine (HU5.out _ hE7).mono ?_
      rintro e w8 ⟨rfl, hb8'⟩
      have hb8 := hb7.trans (hb8'.mono hb7.size)
      clear hb8' hb7 hE7 HU5
      go_wp2_with fail
      go_ret
      exact ⟨rfl, hb8.alloc hb8.size _⟩
    by_cases k116 : c.toNat = 116
    · have g116 : ((c.toNat : Int) == 116) = true := by simp; omega
      have g110 : ((c.toNat : Int) == 110) = false := by simp; omega
      have g92 : ((c.toNat : Int) == 92) = false := by simp; omega
      have g34 : ((c.toNat : Int) == 34) = false := by simp; omega
      have g39 : ((c.toNat : Int) == 39) = false := by simp; omega
      have hsi : Sp.simp1 c = some 9 := by unfold Sp.simp1; rw [if_neg (by omega), if_pos k116]
      clear k116
      refine (HU3.out _ hE4 _ hsi).mono ?_
      rintro e w5 ⟨rfl, hb5'⟩
      have hb5 := hb4.trans (hb5'.mono hb4.size)
      have hb6 : Below w.heap.size w (w5.alloc (Obj.cells #[.int .u8 (c.toNat : Int)] 5)) := hb5.alloc hb5.size _
      have hE6 := hE.below hb6 hE.size
      clear hb5' hb4 hE4 hb3 hE3 HU3 HU4 hsi
      go_wp2_with fail
      refine (HL1.out _ hE6).mono ?_
      rintro e w7 ⟨rfl, hb7'⟩
      have hb7 := hb6.trans (hb7'.mono hb6.size)
      have hE7 := hE.below hb7 hE.size
      clear hb7' hb6 hE6 HL1
      go_wp2_with fail
      refine (HU5.out _ hE7).mono ?_
      rintro e w8 ⟨rfl, hb8'⟩
      have hb8 := hb7.trans (hb8'.mono hb7.size)
      clear hb8' hb7 hE7 HU5
      go_wp2_with fail
      go_ret
      exact ⟨rfl, hb8.alloc hb8.size _⟩
    by_cases k92 : c.toNat = 92
    · have g92 : ((c.toNat : Int) == 92) = true := by simp; omega
      have g110 : ((c.toNat : Int) == 110) = false := by simp; omega
      have g116 : ((c.toNat : Int) == 116) = false := by simp; omega
      have g34 : ((c.toNat : Int) == 34) = false := by simp; omega
      have g39 : ((c.toNat : Int) == 39) = false := by simp; omega
      have hsi : Sp.simp1 c = some c := by unfold Sp.simp1; rw [if_neg (by omega), if_neg (by omega), if_pos (by omega)]
      clear k92
      refine (HU3.out _ hE4 _ hsi).mono ?_
      rintro e w5 ⟨rfl, hb5'⟩
      have hb5 := hb4.trans (hb5'.mono hb4.size)
      have hb6 : Below w.heap.size w (w5.alloc (Obj.cells #[.int .u8 (c.toNat : Int)] 5)) := hb5.alloc hb5.size _
      have hE6 := hE.below hb6 hE.size
      clear hb5' hb4 hE4 hb3 hE3 HU3 HU4 hsi
      go_wp2_with fail
      refine (HL1.out _ hE6).mono ?_
      rintro e w7 ⟨rfl, hb7'⟩
      have hb7 := hb6.trans (hb7'.mono hb6.size)
      have hE7 := hE.below hb7 hE.size
      clear hb7' hb6 hE6 HL1
      go_wp2_with fail
      refine (HU5.out _ hE7).mono ?_
      rintro e w8 ⟨rfl, hb8'⟩
      have hb8 := hb7.trans (hb8'.mono hb7.size)
      clear hb8' hb7 hE7 HU5
      go_wp2_with fail
      go_ret
      exact ⟨rfl, hb8.alloc hb8.size _⟩
    by_cases k34 : c.toNat = 34
    · have g34 : ((c.toNat : Int) == 34) = true := by simp; omega
      have g110 : ((c.toNat : Int) == 110) = false := by simp; omega
      have g116 : ((c.toNat : Int) == 116) = false := by simp; omega
      have g92 : ((c.toNat : Int) == 92) = false := by simp; omega
      have g39 : ((c.toNat : Int) == 39) = false := by simp; omega
      have hsi : Sp.simp1 c = some c := by unfold Sp.simp1; rw [if_neg (by omega), if_neg (by omega), if_pos (by omega)]
      clear k34
      refine (HU3.out _ hE4 _ hsi).mono ?_
      rintro e w5 ⟨rfl, hb5'⟩
      have hb5 := hb4.trans (hb5'.mono hb4.size)
      have hb6 : Below w.heap.size w (w5.alloc (Obj.cells #[.int .u8 (c.toNat : Int)] 5)) := hb5.alloc hb5.size _
      have hE6 := hE.below hb6 hE.size
      clear hb5' hb4 hE4 hb3 hE3 HU3 HU4 hsi
      go_wp2_with fail
      refine (HL1.out _ hE6).mono ?_
      rintro e w7 ⟨rfl, hb7'⟩
      have hb7 := hb6.trans (hb7'.mono hb6.size)
      have hE7 := hE.below hb7 hE.size
      clear hb7' hb6 hE6 HL1
      go_wp2_with fail
      refine (HU5.out _ hE7).mono ?_
      rintro e w8 ⟨rfl, hb8'⟩
      have hb8 := hb7.trans (hb8'.mono hb7.size)
      clear hb8' hb7 hE7 HU5
      go_wp2_with fail
      go_ret
      exact ⟨rfl, hb8.alloc hb8.size _⟩
    by_cases k39 : c.toNat = 39
    · have g39 : ((c.toNat : Int) == 39) = true := by simp; omega
      have g110 : ((c.toNat : Int) == 110) = false := by simp; omega
      have g116 : ((c.toNat : Int) == 116) = false := by simp; omega
      have g92 : ((c.toNat : Int) == 92) = false := by simp; omega
      have g34 : ((c.toNat : Int) == 34) = false := by simp; omega
      have hsi : Sp.simp1 c = some c := by unfold Sp.simp1; rw [if_neg (by omega), if_neg (by omega), if_pos (by omega)]
      clear k39
      refine (HU3.out _ hE4 _ hsi).mono ?_
      rintro e w5 ⟨rfl, hb5'⟩
      have hb5 := hb4.trans (hb5'.mono hb4.size)
      have hb6 : Below w.heap.size w (w5.alloc (Obj.cells #[.int .u8 (c.toNat : Int)] 5)) := hb5.alloc hb5.size _
      have hE6 := hE.below hb6 hE.size
      clear hb5' hb4 hE4 hb3 hE3 HU3 HU4 hsi
      go_wp2_with fail
      refine (HL1.out _ hE6).mono ?_
      rintro e w7 ⟨rfl, hb7'⟩
      have hb7 := hb6.trans (hb7'.mono hb6.size)
      have hE7 := hE.below hb7 hE.size
      clear hb7' hb6 hE6 HL1
      go_wp2_with fail
      refine (HU5.out _ hE7).mono ?_
      rintro e w8 ⟨rfl, hb8'⟩
      have hb8 := hb7.trans (hb8'.mono hb7.size)
      clear hb8' hb7 hE7 HU5
      go_wp2_with fail
      go_ret
      exact ⟨rfl, hb8.alloc hb8.size _⟩
    have g110 : ((c.toNat : Int) == 110) = false := by simp; omega
    have g116 : ((c.toNat : Int) == 116) = false := by simp; omega
    have g92 : ((c.toNat : Int) == 92) = false := by simp; omega
    have g34 : ((c.toNat : Int) == 34) = false := by simp; omega
    have g39 : ((c.toNat : Int) == 39) = false := by simp; omega
    have hsi : Sp.simp1 c = none := by unfold Sp.simp1; rw [if_neg k110, if_neg k116, if_neg (by omega)]
    refine (HU4.out _ hE4 hsi).mono ?_
    rintro e w5 ⟨rfl, hb5'⟩
    have hb5 := hb4.trans (hb5'.mono hb4.size)
    have hb6 : Below w.heap.size w (w5.alloc (Obj.cells #[.int .u8 (c.toNat : Int)] 5)) := hb5.alloc hb5.size _
    have hE6 := hE.below hb6 hE.size
    clear hb5' hb4 hE4 hb3 hE3 HU3 HU4 hsi
    go_wp2_with fail
    refine (HL1.out _ hE6).mono ?_
    rintro e w7 ⟨rfl, hb7'⟩
    have hb7 := hb6.trans (hb7'.mono hb6.size)
    have hE7 := hE.below hb7 hE.size
    clear hb7' hb6 hE6 HL1
    go_wp2_with fail
    refine (HU5.out _ hE7).mono ?_
    rintro e w8 ⟨rfl, hb8'⟩
    have hb8 := hb7.trans (hb8'.mono hb7.size)
    clear hb8' hb7 hE7 HU5
    go_wp2_with fail
    go_ret
    exact ⟨rfl, hb8.alloc hb8.size _⟩
end lawEscapes
end Go.Proofs.YtfomjdaihoaipaaDoor
