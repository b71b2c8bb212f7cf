/-
  The reference's way from numbers without bounds to ints, at this program.
-/
import Derived.Test.YtaekjkihdecmcaaNuF
set_option linter.unusedVariables false
set_option linter.unusedSimpArgs false
namespace Go.Proofs.Ytaekjkihdecmcaa
open Go.RowKit

theorem ret_pair {a : Value} {p q : Bool} (h : p = q) : Ending.returned (.tuple #[a, .bool p]) = .returned (.tuple #[a, .bool q]) := by rw [h]
theorem u64_minus (m : Int) : IntKind.u64.wrap (-m) = (-m) % 18446744073709551616 := by simp [IntKind.wrap, IntKind.bits, IntKind.signed]
theorem m_le {m P v V : Nat} (h : m * P + v = V) (hP : 0 < P) : m ≤ V := by
  have : m * 1 ≤ m * P := Nat.mul_le_mul_left _ hP
  omega
/-- A box with a number in it. -/
theorem box_num {w wr : World} {s : Bool} {v : Value} {B : Nat} (hb : Below B (w.alloc (.cells #[.bool s, v] 31)) wr) (hB : w.heap.size < B) : wr.cell? ⟨w.heap.size, 0, none⟩ = some (.bool s) ∧ wr.cell? ⟨w.heap.size, 1, none⟩ = some v := by
  have h : wr.heap[w.heap.size]? = some (.cells #[.bool s, v] 31) := by
    rw [hb.block _ hB]
    exact heap_alloc_new w _
  simp [World.cell?, h]

set_option maxHeartbeats 4000000 in
theorem Int_num (v : Value) (z : Int) (w : World) (h : NumV v z w) (hz : z.natAbs < 65536 ^ 900) :
    Calls Try.prog 18 #[v] w fun e w' => ∃ r : Int, e = .returned (.tuple #[.int .i64 r, .bool (Nu.fits z)]) ∧ (Nu.fits z = true → r = z) ∧ Below w.heap.size w w' := by
  obtain ⟨s, pa, n, c, l, rfl, hd, hn, hs⟩ := h.form
  have hl := says_len hs hz
  have hL4 := Nu.says_fits hs
  have hlen : l.length = n := hn.symm
  have hb1 : Below w.heap.size w (w.alloc (.cells #[.bool s, .slice pa n c] 31)) := (Below.refl _ w).alloc (Nat.le_refl _) _
  have hcell := box_num (w := w) (wr := w.alloc (.cells #[.bool s, .slice pa n c] 31)) (s := s) (v := .slice pa n c) (B := w.heap.size + 1) (Below.refl _ _) (by omega)
  have HB1 := Lib.hid hb1
  rw [hlen] at hL4 hl
  by_cases h4 : n ≤ 4
  · have HS := Lib.hid hs
    have HL := Lib.hid hlen
    have hv : Nu.val l < 18446744073709551616 := by rw [hs.abs]; exact hL4.1 h4
    rcases hd with ⟨hd1, hd2⟩ | ⟨g, o, cap, hd1, hg, hcap, hcs⟩
    · injection hd1 with e1 e2 e3
      have hn0 : n = 0 := by omega
      subst e1
      subst e3
      subst hn0
      have hz0 : z = 0 := by
        rw [hs.2.2.1, hd2]
        cases s <;> rfl
      subst hz0
      cases s
      all_goals
        clear hs h hn hd2 hlen hL4 hl hv HS HL e2 hb1
        go_enter Try.func18, Try.ntmps18
        go_wp2_with fail
        go_loop [4, 5] (fun v4 v5 => v4 = .int .u64 0 ∧ v5 = .int .i64 (-1)) (fun _ _ => 0)
        case atStart => exact ⟨rfl, rfl⟩
        case round =>
          obtain ⟨rfl, rfl⟩ := hrel
          go_wp2_with fail
          refine bodyPost_ret (results_tmp2 rfl _ _ _) rfl ?_
          exact ⟨0, rfl, fun _ => rfl, HB1.out⟩
    · injection hd1 with e1 e2 e3
      subst e1
      subst e3
      have hcs2 : ∀ k d, l[k]? = some d → (w.alloc (.cells #[.bool s, .slice (some ⟨g, o, none⟩) n c] 31)).cell? ⟨g, o + k, none⟩ = some (dI d) := fun k d hk => (hb1.cell (p := ⟨g, o + k, none⟩) hg).trans (hcs k d hk)
      have HCS := Lib.hid hcs2
      rw [hlen] at hcap
      clear hcs hcs2 hs hlen hn h hb1 hz hl hL4 e2
      go_enter Try.func18, Try.ntmps18
      go_wp2_with fail
      go_loop [4, 5] (fun v4 v5 => ∃ m i : Nat, v4 = .int .u64 (m : Int) ∧ v5 = .int .i64 ((i : Int) - 1) ∧ i ≤ n ∧ Hid (m * 65536 ^ i + Nu.valTo l i = Nu.val l)) (fun _ v5 => (intOf v5 + 1).toNat)
      case atStart => exact ⟨0, n, rfl, rfl, Nat.le_refl _, (show _ = _ by rw [← HL.out]; simp [Nu.val])⟩
      case round =>
        obtain ⟨m, i, rfl, rfl, hi, HV⟩ := hrel
        have hmv : m ≤ Nu.val l := m_le HV.out (Nu.pow_pos i)
        have hm : m < 18446744073709551616 := by omega
        cases i with
        | zero =>
          have HMV : Hid (m = Nu.val l) := (show _ = _ by have := HV.out; simp [Nu.valTo] at this; exact this)
          clear HV hmv
          cases s
          · have HZ : Hid (z = (m : Int)) := (show _ = _ by rw [HS.out.2.2.1, HMV.out]; rfl)
            go_wp2_with fail
            refine bodyPost_ret (results_tmp2 rfl _ _ _) rfl ?_
            refine ⟨wrap64 (m : Int), ?_, ?_, HB1.out⟩
            · rw [HZ.out]
              show Ending.returned (.tuple #[.int .i64 (wrap64 (m : Int)), .bool _]) = _
              refine ret_pair ?_
              simp only [Nu.fits]
              rw [decide_eq_decide]
              omega
            · intro hf
              rw [HZ.out] at hf ⊢
              rw [Nu.fits_iff] at hf
              simp only [wrap64]
              omega
          · have hm0 : 0 < m := by
              rw [HMV.out]
              have h1 := HS.out.2.2.2 rfl
              have h2 := Nu.val_eq_zero HS.out.2.1
              exact Nat.pos_of_ne_zero (fun e => h1 (h2.1 e))
            have HZ : Hid (z = -(m : Int)) := (show _ = _ by rw [HS.out.2.2.1, HMV.out]; rfl)
            go_wp2_with fail
            refine bodyPost_ret (results_tmp2 rfl _ _ _) rfl ?_
            refine ⟨wrap64 (IntKind.u64.wrap (-(m : Int))), ?_, ?_, HB1.out⟩
            · rw [HZ.out]
              show Ending.returned (.tuple #[.int .i64 (wrap64 (IntKind.u64.wrap (-(m : Int)))), .bool _]) = _
              refine ret_pair ?_
              simp only [Nu.fits]
              rw [decide_eq_decide]
              omega
            · intro hf
              rw [HZ.out] at hf ⊢
              rw [Nu.fits_iff] at hf
              rw [u64_minus]
              simp only [wrap64]
              omega
        | succ i =>
          obtain ⟨d, hdd⟩ : ∃ d, l[i]? = some d := ⟨_, List.getElem?_eq_getElem (by rw [HL.out]; omega)⟩
          have a0 := HCS.out i d hdd
          have hdlt := HS.out.1 d (List.mem_of_getElem? hdd)
          have HV2 : Hid ((m * 65536 + d) * 65536 ^ i + Nu.valTo l i = Nu.val l) := (show _ = _ by
            have := Nu.top_step HV.out
            have e : Nu.dig l i = d := by unfold Nu.dig; rw [hdd]; rfl
            rwa [e] at this)
          have hm2 : m * 65536 + d ≤ Nu.val l := m_le HV2.out (Nu.pow_pos i)
          have e1 : ((i + 1 : Nat) : Int) - 1 = (i : Int) := by omega
          rw [e1]
          have h0 : (0 : Int) ≤ (i : Int) := by omega
          have w1 : IntKind.u64.wrap ((m : Int) * 65536) = (m : Int) * 65536 := IntWalk.u64_in _ (by omega)
          have w2 : IntKind.u64.wrap (d : Int) = (d : Int) := IntWalk.u64_in _ (by omega)
          have w3 : IntKind.u64.wrap ((m : Int) * 65536 + (d : Int)) = (m : Int) * 65536 + (d : Int) := IntWalk.u64_in _ (by omega)
          have w4 : IntKind.i64.wrap ((i : Int) - 1) = (i : Int) - 1 := IntWalk.i64_in _ (by omega)
          clear HV hmv hdd e1 hm2
          go_wp2_with fail
          exact ⟨⟨m * 65536 + d, i, by go_num, rfl, by omega, HV2⟩, by simp [intOf]⟩
  · have hf : Nu.fits z = false := Nu.not_fits_of (by
      have : ¬ z.natAbs < 18446744073709551616 := fun e => h4 (hL4.2 e)
      omega)
    have HF : Hid (Nu.fits z = false) := hf
    have h4' : (4 : Int) < (n : Int) := by omega
    rw [HF.out]
    clear hs hlen hn h hd hb1 hz hl hL4 hf HF h4
    go_enter Try.func18, Try.ntmps18
    go_wp2_with fail
    refine bodyPost_ret (results_tmp2 rfl _ _ _) rfl ?_
    exact ⟨0, rfl, (fun e => by cases e), HB1.out⟩
end Go.Proofs.Ytaekjkihdecmcaa
