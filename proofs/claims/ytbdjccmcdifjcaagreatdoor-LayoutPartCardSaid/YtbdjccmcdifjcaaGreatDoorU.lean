/-
  How what stands between quotes is read, at this program.
-/
import Derived.Test.YtbdjccmcdifjcaaGreatDoorE
import Derived.Deep.QuietTactic
import Derived.BigQuiet
set_option linter.unusedVariables false
set_option linter.unusedSimpArgs false
namespace Go.Proofs.YtbdjccmcdifjcaaGreatDoor
open Go.RowKit Go.Shelf Go.Maps

def EscEnd (r : Option (UInt8 × Nat)) (e : Ending) : Prop :=
  match r with
  | some (b, k) => e = .returned (.tuple #[.int .u8 (b.toNat : Int), .int .i64 k, .bool true])
  | none => ∃ x y, e = .returned (.tuple #[.int .u8 x, .int .i64 y, .bool false])

theorem isEmpty_of (s : ByteArray) (h : 0 < s.size) : s.toList.isEmpty = false := by
  have hd := get_drop s 0 h
  simp only [List.drop_zero] at hd
  rw [Sp.toList_data, hd]; rfl
theorem isEmpty_of0 (s : ByteArray) (h : s.size = 0) : s.toList.isEmpty = true := by
  rw [Sp.toList_data, list_of_size0 s h]; rfl

theorem extract_list (s : ByteArray) (a b : Nat) : (s.extract a b).data.toList = (s.data.toList.drop a).take (b - a) := by
  simp [ByteArray.data_extract, List.drop_take]

set_option maxHeartbeats 2000000 in
theorem escape_hex (s : ByteArray) (hs : s.size ≤ 1000000) (m : Value) (w : World) (hE : Env w) (h2 : 2 < s.size) (g : ((s[0].toNat : Int) == 120) = true) :
    Calls Tryz.prog 96 #[.string s, m] w fun e w' => EscEnd (Sp.esc s.data.toList) e ∧ Below w.heap.size w w' := by
  have h0 : 0 < s.size := by omega
  have hne := isEmpty_of s h0
  have ht : (s.extract 1 3).size = 2 := by simp [ByteArray.size_extract]; omega
  have hc := parseHex (s.extract 1 3) ht w hE
  have hl : (s.extract 1 3).data.toList = [s[1], s[2]] := by
    rw [extract_list, get_drop s 1 (by omega), get_drop s 2 (by omega)]; rfl
  have hd : s.data.toList = s[0] :: s[1] :: s[2] :: s.data.toList.drop 3 := by
    rw [← get_drop s 2 (by omega), ← get_drop s 1 (by omega), ← get_drop s 0 (by omega)]; rfl
  have hx : s[0].toNat = 120 := by simp at g; omega
  have hse : Sp.esc s.data.toList = match Sp.hexv s[1], Sp.hexv s[2] with
          | some x, some y => some (UInt8.ofNat (16 * x + y), 3)
          | _, _ => none := by
    rw [hd, Sp.esc]
    have : Sp.simp1 s[0] = none := by unfold Sp.simp1; rw [if_neg (by omega), if_neg (by omega), if_neg (by omega)]
    rw [this]
    simp only [hx, if_true]
    rfl
  rw [hl] at hc
  obtain ⟨a, ha⟩ : ∃ a, a = s[1] := ⟨_, rfl⟩
  obtain ⟨b, hb⟩ : ∃ b, b = s[2] := ⟨_, rfl⟩
  rw [← ha, ← hb] at hc hse
  clear ha hb hl hd ht hx
  rw [hse]
  clear hse
  have fin : ∀ (r : Option Nat) (x : Option (UInt8 × Nat)), hexTo 0 [a, b] = r → (r = none → x = none) → (∀ n, r = some n → n < 256 ∧ x = some (UInt8.ofNat n, 3)) →
      Calls Tryz.prog 96 #[.string s, m] w fun e w' => EscEnd x e ∧ Below w.heap.size w w' := by
    intro r x hr h1 h2'
    rw [hr] at hc
    have HC := Lib.hid hc
    clear hc hr
    cases r with
    | none =>
      rw [h1 rfl]
      clear h1 h2'
      go_enter Tryz.func96, Tryz.ntmps96
      go_wp2_with fail
      refine HC.out.mono ?_
      rintro e w1 ⟨⟨p, rfl⟩, hb⟩
      go_wp2
      go_quiet (fail)
      go_wp2
      go_ret3
      exact ⟨⟨_, _, rfl⟩, below_drewN hb _⟩
    | some n =>
      obtain ⟨hn, hx⟩ := h2' n rfl
      rw [hx]
      clear h1 h2' hx
      have hw : IntKind.u8.wrap (n : Int) = n := by rw [IntKind.wrap_u8]; omega
      have HU : Hid ((UInt8.ofNat n).toNat = n) := by show _ = _; simp; omega
      clear hn
      go_enter Tryz.func96, Tryz.ntmps96
      go_wp2_with fail
      refine HC.out.mono ?_
      rintro e w1 ⟨rfl, hb⟩
      go_wp2
      go_quiet (fail)
      go_wp2
      go_ret3
      refine ⟨?_, below_drewN hb _⟩
      show _ = _
      rw [HU.out]
      rfl
  cases ha : Sp.hexv a with
  | none =>
    refine fin none none (by rw [hexTo, ha]) (fun _ => rfl) (fun n h => by cases h)
  | some x =>
    cases hb : Sp.hexv b with
    | none => refine fin none none (by rw [hexTo, ha]; simp only [hexTo, hb]) (fun _ => rfl) (fun n h => by cases h)
    | some y =>
      have hx := (Sp.hexv_range ha).2.2
      have hy := (Sp.hexv_range hb).2.2
      refine fin (some (16 * x + y)) _ (by rw [hexTo, ha]; simp only [hexTo, hb]; simp) (fun h => by cases h) (fun n h => by cases h; exact ⟨by omega, rfl⟩)

theorem esc_short (c : UInt8) (u : Sp.Bs) (h : c.toNat = 120 → u.length ≤ 1) : Sp.esc (c :: u) = (Sp.simp1 c).map (·, 1) := by
  unfold Sp.esc
  cases h1 : Sp.simp1 c with
  | some b => simp only [h1, Option.map_some]
  | none =>
    simp only [h1, Option.map_none]
    by_cases h120 : c.toNat = 120
    · rw [if_pos h120]
      match u, h h120 with
      | [], _ => rfl
      | [_], _ => rfl
    · rw [if_neg h120]
theorem escEnd_of {n : UInt8} {c : Int} (h : Hid (has D5 (.int .u8 (n.toNat : Int)) = (Option.map (fun x => x.toNat) (Sp.simp1 n)).isSome ∧ litN (D5.atKey (.int .u8 (n.toNat : Int)) (.lit (.int .u8 0))) = (((Option.map (fun x => x.toNat) (Sp.simp1 n)).getD 0 : Nat) : Int)))
    (hat : D5.atKey (.int .u8 (n.toNat : Int)) (.lit (.int .u8 0)) = .lit (.int .u8 c)) :
    EscEnd ((Sp.simp1 n).map (·, 1)) (.returned (.tuple #[.int .u8 c, .int .i64 1, .bool (has D5 (.int .u8 (n.toNat : Int)))])) := by
  obtain ⟨h1, h2⟩ := h.out
  rw [hat] at h2
  rw [h1]
  cases hs : Sp.simp1 n with
  | none => exact ⟨_, _, rfl⟩
  | some b =>
    rw [hs] at h2
    have h3 : c = (b.toNat : Int) := h2
    rw [h3]
    rfl
theorem D5_120 : has D5 (.int .u8 120) = false := by kernel_rfl

set_option maxHeartbeats 2000000 in
set_option maxRecDepth 100000 in
theorem escape_any (s : ByteArray) (hs : s.size ≤ 1000000) (bm : Nat) (w : World) (hE : Env w) (hM : EscMap bm w) :
    Calls Tryz.prog 96 #[.string s, .map (some bm)] w fun e w' => EscEnd (Sp.esc s.data.toList) e ∧ Below w.heap.size w w' := by
  by_cases h0 : s.size = 0
  · have hem := isEmpty_of0 s h0
    have HL : Hid (Sp.esc s.data.toList = none) := by show _ = _; rw [list_of_size0 s h0]; rfl
    rw [HL.out]
    clear h0
    go_enter Tryz.func96, Tryz.ntmps96
    go_wp2
    go_ret3
    exact ⟨⟨_, _, rfl⟩, Below.refl _ _⟩
  · have h0' : 0 < s.size := by omega
    by_cases hx : 2 < s.size ∧ s[0].toNat = 120
    · exact escape_hex s hs _ w hE hx.1 (by simp; omega)
    · have hne := isEmpty_of s h0'
      have hd := get_drop s 0 h0'
      simp only [List.drop_zero] at hd
      obtain ⟨c, hc⟩ : ∃ c, c = s[0] := ⟨_, rfl⟩
      have hse : Sp.esc s.data.toList = (Sp.simp1 c).map (·, 1) := by
        rw [hd, ← hc]
        refine esc_short c _ (fun h120 => ?_)
        rw [List.length_drop, size_list]
        rw [← hc] at hx
        omega
      have hg : ((s[0].toNat : Int) == 120 && decide (2 < (s.size : Int))) = false := by
        simp
        intro h
        omega
      have hkl : keyOf Tryz.prog 5 (.int .u8 (s[0].toNat : Int)) = some (.int .u8 (s[0].toNat : Int)) := keyOf_int_mk Tryz.underlying5 (WalkArith.wf_u8 (by have := s[0].toNat_lt; omega))
      have HK := Lib.hid hkl
      have hall := List.all_eq_true.1 D5_all c.toNat (by simp [List.mem_range]; exact c.toNat_lt)
      rw [Bool.and_eq_true, beq_iff_eq, beq_iff_eq, simpN_is] at hall
      rw [hse]
      rw [hc] at hall ⊢
      have HA := Lib.hid hall
      clear hall hkl hse hd hc h0
      by_cases g120 : s[0].toNat = 120
      · have h2 : ¬ 2 < s.size := by omega
        have g : ((s[0].toNat : Int) == 120) = true := by simp; omega
        clear hx hg g120
        go_enter Tryz.func96, Tryz.ntmps96
        go_wp2_with (at_lookup; refine wpList_lookup_own_ok_int _ rfl _ _ 130 rfl 5 5 .u8 law5 Tryz.underlying130 Tryz.underlying5 (zero5 _) bm 5 D5 rfl hM _ _ rfl HK.out ?_; intro c hat hwc)
        go_ret3
        exact ⟨escEnd_of HA hat, Below.refl _ _⟩
      · have g : ((s[0].toNat : Int) == 120) = false := by simp; omega
        clear hx hg g120
        go_enter Tryz.func96, Tryz.ntmps96
        go_wp2_with (at_lookup; refine wpList_lookup_own_ok_int _ rfl _ _ 130 rfl 5 5 .u8 law5 Tryz.underlying130 Tryz.underlying5 (zero5 _) bm 5 D5 rfl hM _ _ rfl HK.out ?_; intro c hat hwc)
        go_ret3
        exact ⟨escEnd_of HA hat, Below.refl _ _⟩
end Go.Proofs.YtbdjccmcdifjcaaGreatDoor
