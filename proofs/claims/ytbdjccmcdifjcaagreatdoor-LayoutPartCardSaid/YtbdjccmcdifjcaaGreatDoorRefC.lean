/-
  The reference's answers for escapes and strings, at this program.
-/
import Derived.Test.YtbdjccmcdifjcaaGreatDoorRefB
import Derived.Deep.QuietTactic
import Derived.BigQuiet
set_option linter.unusedVariables false
set_option linter.unusedSimpArgs false
namespace Go.Proofs.YtbdjccmcdifjcaaGreatDoor
open Go.RowKit Go.Shelf

def hexI (c : UInt8) : Int := match Sp.hexv c with
  | some x => x
  | none => -1
theorem rsixteen_any (c : UInt8) (w : World) : Calls Tryz.prog 77 #[.int .u8 (c.toNat : Int)] w fun e w' => e = .returned (.int .i64 (hexI c)) ∧ w = w' := by
  have hc := c.toNat_lt
  obtain ⟨bd, HD⟩ := hid_ex (Sp.isDig c)
  cases bd with
  | true =>
    have h1 : 48 ≤ c.toNat ∧ c.toNat ≤ 57 := by have := HD.out; simpa [Sp.isDig] using this
    have hw : IntKind.u8.wrap ((c.toNat : Int) - 48) = (c.toNat : Int) - 48 := IntWalk.u8_in _ (by omega)
    have hw2 : IntKind.i64.wrap ((c.toNat : Int) - 48) = (c.toNat : Int) - 48 := IntWalk.i64_in _ (by omega)
    have HN : Hid (hexI c = (c.toNat : Int) - 48) := by
      show _ = _
      unfold hexI Sp.hexv
      rw [if_pos h1]
      show ((c.toNat - 48 : Nat) : Int) = _
      omega
    go_enter Tryz.func77, Tryz.ntmps77
    go_wp2_with (go_at_call 46; refine (rdigit_is HD _).mono ?_; rintro e w' ⟨rfl, rfl⟩)
    go_ret
    exact ⟨ret_int HN.out.symm, rfl⟩
  | false =>
    have h1 : ¬ (48 ≤ c.toNat ∧ c.toNat ≤ 57) := by
      intro h
      have := HD.out
      simp [Sp.isDig] at this
      omega
    by_cases h2 : 97 ≤ c.toNat ∧ c.toNat ≤ 102
    · have hw : IntKind.u8.wrap ((c.toNat : Int) - 97) = (c.toNat : Int) - 97 := IntWalk.u8_in _ (by omega)
      have hw2 : IntKind.i64.wrap ((c.toNat : Int) - 97) = (c.toNat : Int) - 97 := IntWalk.i64_in _ (by omega)
      have hw3 : IntKind.i64.wrap ((c.toNat : Int) - 97 + 10) = (c.toNat : Int) - 97 + 10 := IntWalk.i64_in _ (by omega)
      have HN : Hid (hexI c = (c.toNat : Int) - 97 + 10) := by
        show _ = _
        unfold hexI Sp.hexv
        rw [if_neg h1, if_pos h2]
        show ((c.toNat - 87 : Nat) : Int) = _
        omega
      obtain ⟨h2a, h2b⟩ := h2
      clear h1
      go_enter Tryz.func77, Tryz.ntmps77
      go_wp2_with (go_at_call 46; refine (rdigit_is HD _).mono ?_; rintro e w' ⟨rfl, rfl⟩)
      go_ret
      exact ⟨ret_int HN.out.symm, rfl⟩
    · by_cases h3 : 65 ≤ c.toNat ∧ c.toNat ≤ 70
      · have hw : IntKind.u8.wrap ((c.toNat : Int) - 65) = (c.toNat : Int) - 65 := IntWalk.u8_in _ (by omega)
        have hw2 : IntKind.i64.wrap ((c.toNat : Int) - 65) = (c.toNat : Int) - 65 := IntWalk.i64_in _ (by omega)
        have hw3 : IntKind.i64.wrap ((c.toNat : Int) - 65 + 10) = (c.toNat : Int) - 65 + 10 := IntWalk.i64_in _ (by omega)
        have HN : Hid (hexI c = (c.toNat : Int) - 65 + 10) := by
          show _ = _
          unfold hexI Sp.hexv
          rw [if_neg h1, if_neg h2, if_pos h3]
          show ((c.toNat - 55 : Nat) : Int) = _
          omega
        obtain ⟨h3a, h3b⟩ := h3
        clear h1 h2
        go_enter Tryz.func77, Tryz.ntmps77
        go_wp2_with (go_at_call 46; refine (rdigit_is HD _).mono ?_; rintro e w' ⟨rfl, rfl⟩)
        go_ret
        exact ⟨ret_int HN.out.symm, rfl⟩
      · have HN : Hid (hexI c = -1) := by
          show _ = _
          unfold hexI Sp.hexv
          rw [if_neg h1, if_neg h2, if_neg h3]
        rw [HN.out]
        clear h1
        go_enter Tryz.func77, Tryz.ntmps77
        go_wp2_with (go_at_call 46; refine (rdigit_is HD _).mono ?_; rintro e w' ⟨rfl, rfl⟩)
        all_goals first
          | omega
          | (go_ret
             exact ⟨rfl, rfl⟩)
theorem rsixteen_is {c : UInt8} {v : Int} (h : Hid (hexI c = v)) (w : World) : Calls Tryz.prog 77 #[.int .u8 (c.toNat : Int)] w fun e w' => e = .returned (.int .i64 v) ∧ w = w' := by
  rw [← h.out]; exact rsixteen_any c w

def escB (l : Sp.Bs) : Int := match Sp.esc l with
  | some (b, _) => (b.toNat : Int)
  | none => 0
def escN (l : Sp.Bs) : Nat := match Sp.esc l with
  | some (_, k) => k
  | none => 0
theorem esc_some {l : Sp.Bs} {b : UInt8} {k : Nat} (h : Sp.esc l = some (b, k)) : escB l = (b.toNat : Int) ∧ escN l = k := by
  unfold escB escN; rw [h]; exact ⟨rfl, rfl⟩
theorem esc_none {l : Sp.Bs} (h : Sp.esc l = none) : escB l = 0 ∧ escN l = 0 := by
  unfold escB escN; rw [h]; exact ⟨rfl, rfl⟩
theorem esc_simple {c b : UInt8} {r : Sp.Bs} (h : Sp.simp1 c = some b) : Sp.esc (c :: r) = some (b, 1) := by unfold Sp.esc; simp only [h]
theorem esc_odd {c : UInt8} {r : Sp.Bs} (h : Sp.simp1 c = none) (hx : ¬ c.toNat = 120) : Sp.esc (c :: r) = none := by unfold Sp.esc; simp only [h]; rw [if_neg hx]
theorem resc_short {c : UInt8} {r : Sp.Bs} (h : Sp.simp1 c = none) (hx : c.toNat = 120) (hr : r.length < 2) : Sp.esc (c :: r) = none := by
  unfold Sp.esc
  simp only [h]
  rw [if_pos hx]
  match r, hr with
  | [], _ => rfl
  | [_], _ => rfl
theorem esc_long {c a b : UInt8} {r : Sp.Bs} (h : Sp.simp1 c = none) (hx : c.toNat = 120) : Sp.esc (c :: a :: b :: r) = match Sp.hexv a, Sp.hexv b with
    | some x, some y => some (UInt8.ofNat (16 * x + y), 3)
    | _, _ => none := by
  unfold Sp.esc
  simp only [h]
  rw [if_pos hx]
  cases Sp.hexv a <;> cases Sp.hexv b <;> rfl
theorem hexI_some {c : UInt8} {x : Nat} (h : Sp.hexv c = some x) : hexI c = (x : Int) := by unfold hexI; rw [h]
theorem hexI_none {c : UInt8} (h : Sp.hexv c = none) : hexI c = -1 := by unfold hexI; rw [h]
theorem ret_two {a a' : Int} {n n' : Nat} (h : a = a') (k : n = n') : Ending.returned (.tuple #[.int .u8 a, .int .i64 (n : Int)]) = .returned (.tuple #[.int .u8 a', .int .i64 (n' : Int)]) := by rw [h, k]

set_option maxHeartbeats 4000000 in
set_option maxRecDepth 100000 in
theorem rescape_any (s : ByteArray) (hs : s.size ≤ 1000000) (w : World) : Calls Tryz.prog 64 #[.string s] w fun e w' => e = .returned (.tuple #[.int .u8 (escB s.data.toList), .int .i64 (escN s.data.toList : Int)]) ∧ ∃ q, w' = w.drewN q := by
  by_cases h0 : s.size = 0
  · have hl := list_of_size0 s h0
    have h1 : s.toList.isEmpty = true := by rw [Sp.toList_data, hl]; rfl
    have HL : Hid (escB s.data.toList = 0 ∧ escN s.data.toList = 0) := by rw [hl]; exact ⟨rfl, rfl⟩
    rw [HL.out.1, HL.out.2]
    clear hl h0
    go_enter Tryz.func64, Tryz.ntmps64
    go_wp2_with fail
    go_ret2
    exact ⟨rfl, 0, rfl⟩
  · have h0' : 0 < s.size := by omega
    have hd := get_drop s 0 h0'
    simp only [List.drop_zero] at hd
    have h1 : s.toList.isEmpty = false := by rw [Sp.toList_data, hd]; rfl
    have hb0 := s[0].toNat_lt
    obtain ⟨u, hu⟩ : ∃ u, u = s.data.toList.drop (0 + 1) := ⟨_, rfl⟩
    rw [← hu] at hd
    have hul : u.length = s.size - 1 := by rw [hu, List.length_drop, size_list]
    have tell : ∀ (b : Int) (n : Nat), escB (s[0] :: u) = b → escN (s[0] :: u) = n → Hid (escB s.data.toList = b ∧ escN s.data.toList = n) := by
      intro b n hb hn
      rw [← hd] at hb hn
      exact ⟨hb, hn⟩
    clear h0
    by_cases k110 : s[0].toNat = 110
    · have g110 : ((s[0].toNat : Int) == 110) = true := by simp; omega
      have HT := tell 10 1 (esc_some (b := 10) (k := 1) (esc_simple (by unfold Sp.simp1; rw [if_pos k110]))).1 (esc_some (b := 10) (k := 1) (esc_simple (by unfold Sp.simp1; rw [if_pos k110]))).2
      rw [HT.out.1, HT.out.2]
      clear tell k110 hd hu hul
      go_enter Tryz.func64, Tryz.ntmps64
      go_wp2_with fail
      go_ret2
      exact ⟨rfl, 0, rfl⟩
    have g110 : ((s[0].toNat : Int) == 110) = false := by simp; omega
    by_cases k116 : s[0].toNat = 116
    · have g116 : ((s[0].toNat : Int) == 116) = true := by simp; omega
      have hsi : Sp.simp1 s[0] = some 9 := by unfold Sp.simp1; rw [if_neg k110, if_pos k116]
      have HT := tell 9 1 (esc_some (b := 9) (k := 1) (esc_simple hsi)).1 (esc_some (b := 9) (k := 1) (esc_simple hsi)).2
      rw [HT.out.1, HT.out.2]
      clear tell k110 k116 hd hu hul hsi
      go_enter Tryz.func64, Tryz.ntmps64
      go_wp2_with fail
      go_ret2
      exact ⟨rfl, 0, rfl⟩
    have g116 : ((s[0].toNat : Int) == 116) = false := by simp; omega
    by_cases k92 : s[0].toNat = 92 ∨ s[0].toNat = 39 ∨ s[0].toNat = 34
    · have hsi : Sp.simp1 s[0] = some s[0] := by unfold Sp.simp1; rw [if_neg k110, if_neg k116, if_pos k92]
      have HT := tell (s[0].toNat : Int) 1 (esc_some (esc_simple hsi)).1 (esc_some (esc_simple hsi)).2
      rw [HT.out.1, HT.out.2]
      clear tell k110 k116 hd hu hul hsi HT
      rcases k92 with k92 | k92 | k92
      · have g92 : ((s[0].toNat : Int) == 92) = true := by simp; omega
        clear k92
        go_enter Tryz.func64, Tryz.ntmps64
        go_wp2_with fail
        go_ret2
        exact ⟨rfl, 0, rfl⟩
      · have g92 : ((s[0].toNat : Int) == 92) = false := by simp; omega
        have g39 : ((s[0].toNat : Int) == 39) = true := by simp; omega
        clear k92
        go_enter Tryz.func64, Tryz.ntmps64
        go_wp2_with fail
        go_ret2
        exact ⟨rfl, 0, rfl⟩
      · have g92 : ((s[0].toNat : Int) == 92) = false := by simp; omega
        have g39 : ((s[0].toNat : Int) == 39) = false := by simp; omega
        have g34 : ((s[0].toNat : Int) == 34) = true := by simp; omega
        clear k92
        go_enter Tryz.func64, Tryz.ntmps64
        go_wp2_with fail
        go_ret2
        exact ⟨rfl, 0, rfl⟩
    have hsi : Sp.simp1 s[0] = none := by unfold Sp.simp1; rw [if_neg k110, if_neg k116, if_neg k92]
    have g92 : ((s[0].toNat : Int) == 92) = false := by simp; omega
    have g39 : ((s[0].toNat : Int) == 39) = false := by simp; omega
    have g34 : ((s[0].toNat : Int) == 34) = false := by simp; omega
    by_cases k120 : s[0].toNat = 120
    · have g120 : ((s[0].toNat : Int) != 120) = false := by simp; omega
      by_cases h3 : s.size < 3
      · have HT := tell 0 0 (esc_none (resc_short hsi k120 (by omega))).1 (esc_none (resc_short hsi k120 (by omega))).2
        rw [HT.out.1, HT.out.2]
        clear tell k110 k116 k92 k120 hd hu hul hsi HT
        go_enter Tryz.func64, Tryz.ntmps64
        go_wp2_with fail
        go_ret2
        exact ⟨rfl, 0, rfl⟩
      · have h31 : 1 < s.size := by omega
        have h32 : 2 < s.size := by omega
        have hu2 : u = s[1] :: s[2] :: s.data.toList.drop 3 := by
          rw [hu, get_drop s 1 h31, get_drop s 2 h32]
        have hl := esc_long (a := s[1]) (b := s[2]) (r := s.data.toList.drop 3) hsi k120
        rw [← hu2] at hl
        cases hx : Sp.hexv s[1] with
        | none =>
          rw [hx] at hl
          have HT := tell 0 0 (esc_none hl).1 (esc_none hl).2
          rw [HT.out.1, HT.out.2]
          have HX : hexI s[1] = -1 := hexI_none hx
          clear tell k110 k116 k92 k120 hd hu hul hsi HT hl hu2 hx
          go_enter Tryz.func64, Tryz.ntmps64
          go_wp2_with (go_at_call 77; refine (rsixteen_any _ _).mono ?_; rintro e w' ⟨rfl, rfl⟩)
          go_ret2
          exact ⟨rfl, 0, rfl⟩
        | some x =>
          have hx16 := (Sp.hexv_range hx).2.2
          have HX : hexI s[1] = (x : Int) := hexI_some hx
          cases hy : Sp.hexv s[2] with
          | none =>
            rw [hx, hy] at hl
            have HT := tell 0 0 (esc_none hl).1 (esc_none hl).2
            rw [HT.out.1, HT.out.2]
            have HY : hexI s[2] = -1 := hexI_none hy
            clear tell k110 k116 k92 k120 hd hu hul hsi HT hl hu2 hx hy
            go_enter Tryz.func64, Tryz.ntmps64
            go_wp2_with (go_at_call 77; refine (rsixteen_any _ _).mono ?_; rintro e w' ⟨rfl, rfl⟩)
            go_ret2
            exact ⟨rfl, 0, rfl⟩
          | some y =>
            have hy16 := (Sp.hexv_range hy).2.2
            rw [hx, hy] at hl
            simp only at hl
            have hv : ((UInt8.ofNat (16 * x + y)).toNat : Int) = 16 * (x : Int) + (y : Int) := by simp; omega
            have HT := tell (16 * (x : Int) + (y : Int)) 3 ((esc_some hl).1.trans hv) (esc_some hl).2
            rw [HT.out.1, HT.out.2]
            have HY : hexI s[2] = (y : Int) := hexI_some hy
            have hw1 : IntKind.i64.wrap (16 * (x : Int)) = 16 * (x : Int) := IntWalk.i64_in _ (by omega)
            have hw2 : IntKind.i64.wrap (16 * (x : Int) + (y : Int)) = 16 * (x : Int) + (y : Int) := IntWalk.i64_in _ (by omega)
            have hw3 : IntKind.u8.wrap (16 * (x : Int) + (y : Int)) = 16 * (x : Int) + (y : Int) := IntWalk.u8_in _ (by omega)
            clear tell k110 k116 k92 k120 hd hu hul hsi HT hl hu2 hx hy hv
            go_enter Tryz.func64, Tryz.ntmps64
            go_wp2_with (go_at_call 77; refine (rsixteen_any _ _).mono ?_; rintro e w' ⟨rfl, rfl⟩)
            go_quiet ((go_at_call 77; exact Calls.quiet_of_same ((rsixteen_any _ _).mono fun _ _ h => ⟨h.1, h.2.symm⟩)))
            go_wp2_with fail
            go_ret2
            exact ⟨rfl, _, rfl⟩
    · have g120 : ((s[0].toNat : Int) != 120) = true := by simp; omega
      have HT := tell 0 0 (esc_none (esc_odd hsi k120)).1 (esc_none (esc_odd hsi k120)).2
      rw [HT.out.1, HT.out.2]
      clear tell k110 k116 k92 k120 hd hu hul hsi HT
      go_enter Tryz.func64, Tryz.ntmps64
      go_wp2_with fail
      go_ret2
      exact ⟨rfl, 0, rfl⟩
theorem rescape_is {s : ByteArray} {b : Int} {n : Nat} (h : Hid (escB s.data.toList = b ∧ escN s.data.toList = n)) (hs : s.size ≤ 1000000) (w : World) : Calls Tryz.prog 64 #[.string s] w fun e w' => e = .returned (.tuple #[.int .u8 b, .int .i64 (n : Int)]) ∧ ∃ q, w' = w.drewN q := by
  rw [← h.out.1, ← h.out.2]; exact rescape_any s hs w
end Go.Proofs.YtbdjccmcdifjcaaGreatDoor
