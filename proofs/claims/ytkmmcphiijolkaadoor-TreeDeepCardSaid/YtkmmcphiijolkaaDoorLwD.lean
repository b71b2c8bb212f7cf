/-
  TreeDeep: the walk.
-/
import Derived.Test.YtkmmcphiijolkaaDoorTreeT
import Derived.Test.YtkmmcphiijolkaaDoorTreeAA
import Derived.Test.YtkmmcphiijolkaaDoorTreeBB
set_option linter.unusedVariables false
set_option linter.unusedSimpArgs false
namespace Go.Proofs.YtkmmcphiijolkaaDoor
namespace lawLwD
open Go.RowKit Go.Shelf
open Tr

set_option maxHeartbeats 40000000 in
set_option maxRecDepth 100000 in
theorem walk_of (HR : RightOk) (x : Int) (w : World) (hx : (Lit.int .i64 x).wf = true) : Calls Tryd.prog 5 #[.int .i64 x] w fun e w' => e = .returned (.bool true) ∧ Below w.heap.size w w' := by
  have hx0 := Int.emod_nonneg x (show (8 : Int) ≠ 0 by decide)
  have hx8 := Int.emod_lt_of_pos x (show (0 : Int) < 8 by decide)
  obtain ⟨r, hr⟩ : ∃ r : Nat, x % 8 = (r : Int) := ⟨(x % 8).toNat, by omega⟩
  have hr8 : r < 8 := by omega
  have hrest := rest_any x 8 w (by decide) (by decide) hx
  rw [hr] at hrest
  obtain ⟨N, hN⟩ : ∃ N : Nat, N = 36 + r := ⟨_, rfl⟩
  have hNi : (36 : Int) + (r : Int) = (N : Int) := by omega
  have hN1 : 36 ≤ N := by omega
  have hN2 : N ≤ 43 := by omega
  have hA1 := List.all_eq_true.1 deepA_right r (List.mem_range.2 hr8)
  have hA2 := List.all_eq_true.1 deepA_depth r (List.mem_range.2 hr8)
  have hB1 := List.all_eq_true.1 deepB_right r (List.mem_range.2 hr8)
  rw [← hN] at hA1 hA2 hB1
  rw [show 35 + r = N - 1 by omega] at hA2
  have HA1 := Lib.hid hA1
  have HA2 := Lib.hid hA2
  have HB1 := Lib.hid hB1
  have hawake := awake_of HR w
  have HRR := Lib.hid HR
  obtain ⟨i0, hi, hz0, hz1, hz2⟩ := info_parts infoNode
  have hrest2 := fun w => rest_any x 8 w (by decide) (by decide) hx
  rw [hr] at hrest2
  have HREST := Lib.hid hrest2
  have HR8 : Hid (r < 8) := hr8
  have HNN : Hid (N = 36 + r) := hN
  clear hA1 hA2 hB1 HR hrest hrest2 hx hx0 hx8 hr hN hr8
  go_enter Tryd.func5, Tryd.ntmps5
  go_wp2_with (first | (go_at_call 6; refine hawake.mono ?_; clear hawake; rintro e w1 ⟨rfl, hb1⟩) | (go_at_call 9; refine (HREST.out _).mono ?_; rintro e w2 ⟨rfl, rfl⟩))
  have hT0 := TRow.lit w.heap.size [((6, 0, [97], 0, []), .slice none 0 0)] w1 #[.int .i64 6, .int .i64 0, .string ⟨#[97]⟩, .int .i64 0, .slice none 0 0] rfl hb1.size (by unfold maxLen; simp) (by intro p hp; simp only [List.mem_cons, List.not_mem_nil, or_false] at hp; subst hp; exact KRow.nil_ _)
  have hbel0 : Below w.heap.size w (w1.alloc (.cells #[.int .i64 6, .int .i64 0, .string ⟨#[97]⟩, .int .i64 0, .slice none 0 0] 37)) := hb1.alloc hb1.size _
  go_loopw [5, 6] (fun v5 v6 wr => ∃ (k : Nat) (P : List (NodeD × Value)) (g c : Nat), v5 = .slice (some ⟨g, 0, none⟩) (k + 1) c ∧ v6 = .int .i64 ((k : Int) + 1) ∧ k + 1 ≤ N ∧ Hid (TRow w.heap.size (.slice (some ⟨g, 0, none⟩) (k + 1) c) P wr) ∧ Hid (P.map (·.1) = negsT k) ∧ Below w.heap.size w wr) (fun _ v6 _ => N - (intOf v6).toNat)
  case atStart => exact ⟨0, _, _, _, rfl, rfl, by omega, hT0, rfl, hbel0⟩
  case round =>
    obtain ⟨k, P, g, c, rfl, rfl, hk, HT, HM, hbel⟩ := hrel
    clear hT0 hbel0 hb1
    have HPL : Hid (P.length = k + 1) := by
      show _ = _
      have := congrArg List.length HM.out
      rwa [List.length_map, negsT_length] at this
    by_cases hlt : k + 1 < N
    · have gl : (k : Int) + 1 < (N : Int) := by omega
      have hkw : IntKind.i64.wrap (k : Int) = (k : Int) := IntWalk.i64_in _ (by omega)
      have HB := Lib.hid hbel
      clear hbel
      have hq : ∀ q ∈ [(((10, 0, [], 0, [(k : Int)]) : NodeD), Value.slice (some ⟨wr.heap.size, 0, none⟩) 1 1)], KRow q.2 q.1.2.2.2.2 (wr.alloc (.cells #[.int .i64 (k : Int)] 3)) ∧ (q.1.2.2.2.2 ≠ [] → ∀ g, q.2.ownBlock = some g → wr.heap.size ≤ g) := by
        intro q hq
        simp only [List.mem_cons, List.not_mem_nil, or_false] at hq
        subst hq
        exact ⟨KRow.lit wr #[.int .i64 (k : Int)] [(k : Int)] rfl, fun _ g e => by simp [Value.ownBlock] at e; omega⟩
      have HQ := Lib.hid hq
      clear hq
      go_wp2_with (at_builtin; refine wpList_tapp rfl _ _ rfl w.heap.size _ P wr HT.out HB.out.size _ ((Below.refl _ _).alloc (Nat.le_refl _) _) [((10, 0, [], 0, [(k : Int)]), .slice (some ⟨wr.heap.size, 0, none⟩) 1 1)] (k + 1) 1 HPL.out rfl (by decide) _ rfl rfl (by simp; rfl) HQ.out (by omega) ?_; intro g' c' w3 HT3 HL3 hb3; have hbel3 := hb3 w HB.out; clear hb3)
      refine ⟨⟨k + 1, _, g', c', rfl, by go_num, by omega, HT3, ?_, hbel3⟩, by simp [intOf]; omega⟩
      show _ = _
      rw [List.map_append, HM.out]
      rfl
    · obtain rfl : N = k + 1 := by omega
      have HB := Lib.hid hbel
      have hkb : k ≤ 42 := by omega
      have hkw : IntKind.i64.wrap (k : Int) = (k : Int) := IntWalk.i64_in _ (by omega)
      have hkw1 : IntKind.i64.wrap ((k : Int) + 1) = (k : Int) + 1 := IntWalk.i64_in _ (by omega)
      have hq : ∀ q ∈ [(((42, 0, [], 0, [(k : Int)]) : NodeD), Value.slice (some ⟨wr.heap.size, 0, none⟩) 1 1), ((40, 0, [], 0, [(k : Int) + 1]), Value.slice (some ⟨wr.heap.size + 1, 0, none⟩) 1 1)],
          KRow q.2 q.1.2.2.2.2 ((wr.alloc (.cells #[.int .i64 (k : Int)] 3)).alloc (.cells #[.int .i64 ((k : Int) + 1)] 3)) ∧ (q.1.2.2.2.2 ≠ [] → ∀ g, q.2.ownBlock = some g → wr.heap.size ≤ g) := by
        intro q hq
        simp only [List.mem_cons, List.not_mem_nil, or_false] at hq
        rcases hq with rfl | rfl
        · exact ⟨(KRow.lit wr #[.int .i64 (k : Int)] [(k : Int)] rfl).below ((Below.refl _ _).alloc (Nat.le_refl _) _), fun _ g e => by simp [Value.ownBlock] at e; omega⟩
        · refine ⟨?_, fun _ g e => by simp [Value.ownBlock] at e; omega⟩
          have := KRow.lit (wr.alloc (.cells #[.int .i64 (k : Int)] 3)) #[.int .i64 ((k : Int) + 1)] [(k : Int) + 1] rfl
          simpa using this
      have HQ := Lib.hid hq
      clear hbel hq hlt hNi
      go_wp2_with (at_builtin; refine wpList_tapp rfl _ _ rfl w.heap.size _ P wr HT.out HB.out.size _ (((Below.refl _ _).alloc (Nat.le_refl _) _).alloc (by simp) _) [((42, 0, [], 0, [(k : Int)]), .slice (some ⟨wr.heap.size, 0, none⟩) 1 1), ((40, 0, [], 0, [(k : Int) + 1]), .slice (some ⟨wr.heap.size + 1, 0, none⟩) 1 1)] (k + 1) 2 HPL.out rfl (by decide) _ rfl rfl (by simp; rfl) HQ.out (by omega) ?_; intro g' c' w3 HT3 HL3 hb3; have HB3 := Lib.hid (hb3 w HB.out); clear hb3)
      have HMA : Hid ((P ++ [(((42, 0, [], 0, [(k : Int)]) : NodeD), Value.slice (some ⟨wr.heap.size, 0, none⟩) 1 1), ((40, 0, [], 0, [(k : Int) + 1]), Value.slice (some ⟨wr.heap.size + 1, 0, none⟩) 1 1)]).map (·.1) = deepA (k + 1)) := by
        show _ = _
        rw [List.map_append, HM.out]
        simp [deepA]
      have hAT : ArgT (.slice (some ⟨g', 0, none⟩) (k + 1 + 2) c') (deepA (k + 1)) w3 := by rw [← HMA.out]; exact HT3.out.argT
      have HAT := Lib.hid hAT
      clear HT HM HPL HQ HT3 HL3 HMA hAT HB
      have hT0 := TRow.lit w3.heap.size [((50, 0, [], 0, []), .slice none 0 0)] w3 #[.int .i64 50, .int .i64 0, .string ⟨#[]⟩, .int .i64 0, .slice none 0 0] rfl (Nat.le_refl _) (by unfold maxLen; simp) (by intro p hp; simp only [List.mem_cons, List.not_mem_nil, or_false] at hp; subst hp; exact KRow.nil_ _)
      have hbel0 : Below w3.heap.size w3 (w3.alloc (.cells #[.int .i64 50, .int .i64 0, .string ⟨#[]⟩, .int .i64 0, .slice none 0 0] 37)) := (Below.refl _ _).alloc (Nat.le_refl _) _
      go_loopw [7, 8] (fun v7 v8 wq => ∃ (j m : Nat) (P : List (NodeD × Value)) (g c : Nat), v7 = .slice (some ⟨g, 0, none⟩) (m + 1) c ∧ v8 = .int .i64 (j : Int) ∧ j ≤ k + 1 ∧ Hid (m = 3 * j) ∧ m ≤ 200 ∧ Hid (TRow w3.heap.size (.slice (some ⟨g, 0, none⟩) (m + 1) c) P wq) ∧ Hid (P.map (·.1) = whT j) ∧ Below w3.heap.size w3 wq) (fun _ v8 _ => k + 1 - (intOf v8).toNat)
      case atStart => exact ⟨0, 0, _, _, _, rfl, rfl, by omega, rfl, by omega, hT0, rfl, hbel0⟩
      case round =>
        obtain ⟨j, m, P2, g2, c2, rfl, rfl, hj, HMJ, hm2, HT, HM, hbel⟩ := hrel
        clear hT0 hbel0
        have HPL : Hid (P2.length = m + 1) := by
          show _ = _
          have := congrArg List.length HM.out
          rw [List.length_map, whT_length] at this
          rw [this, HMJ.out]
        have HB := Lib.hid hbel
        have hmw : IntKind.i64.wrap (m : Int) = (m : Int) := IntWalk.i64_in _ (by omega)
        have hmw1 : IntKind.i64.wrap ((m : Int) + 1) = (m : Int) + 1 := IntWalk.i64_in _ (by omega)
        have hmw2 : IntKind.i64.wrap ((m : Int) + 2) = (m : Int) + 2 := IntWalk.i64_in _ (by omega)
        by_cases hlt : j < k + 1
        · have gl : (j : Int) < (k : Int) + 1 := by omega
          have hq : ∀ q ∈ [(((41, 0, [], 0, [(m : Int)]) : NodeD), Value.slice (some ⟨wr.heap.size, 0, none⟩) 1 1), ((2, 0, [], 0, []), Value.slice none 0 0), ((46, 0, [], 0, [(m : Int) + 2, (m : Int) + 1]), Value.slice (some ⟨wr.heap.size + 1, 0, none⟩) 2 2)],
              KRow q.2 q.1.2.2.2.2 ((wr.alloc (.cells #[.int .i64 (m : Int)] 3)).alloc (.cells #[.int .i64 ((m : Int) + 2), .int .i64 ((m : Int) + 1)] 3)) ∧ (q.1.2.2.2.2 ≠ [] → ∀ g, q.2.ownBlock = some g → wr.heap.size ≤ g) := by
            intro q hq
            simp only [List.mem_cons, List.not_mem_nil, or_false] at hq
            rcases hq with rfl | rfl | rfl
            · exact ⟨(KRow.lit wr #[.int .i64 (m : Int)] [(m : Int)] rfl).below ((Below.refl _ _).alloc (Nat.le_refl _) _), fun _ g e => by simp [Value.ownBlock] at e; omega⟩
            · exact ⟨KRow.nil_ _, fun h => absurd rfl h⟩
            · refine ⟨?_, fun _ g e => by simp [Value.ownBlock] at e; omega⟩
              have := KRow.lit (wr.alloc (.cells #[.int .i64 (m : Int)] 3)) #[.int .i64 ((m : Int) + 2), .int .i64 ((m : Int) + 1)] [(m : Int) + 2, (m : Int) + 1] rfl
              simpa using this
          have HQ := Lib.hid hq
          have hj42 : j ≤ 42 := by omega
          have hm3 : m ≤ 126 := by have := HMJ.out; omega
          clear hbel hq
          go_wp2_with (at_builtin; refine wpList_tapp rfl _ _ rfl w3.heap.size _ P2 wr HT.out HB.out.size _ (((Below.refl _ _).alloc (Nat.le_refl _) _).alloc (by simp) _) [((41, 0, [], 0, [(m : Int)]), .slice (some ⟨wr.heap.size, 0, none⟩) 1 1), ((2, 0, [], 0, []), .slice none 0 0), ((46, 0, [], 0, [(m : Int) + 2, (m : Int) + 1]), .slice (some ⟨wr.heap.size + 1, 0, none⟩) 2 2)] (m + 1) 3 HPL.out rfl (by decide) _ rfl rfl (by simp; rfl) HQ.out (by omega) ?_; intro g5 c5 w5 HT5 HL5 hb5; have HB5 := Lib.hid (hb5 w3 HB.out); clear hb5)
          refine ⟨⟨j + 1, m + 3, _, g5, c5, rfl, by go_num, by omega, ?_, by omega, HT5, ?_, HB5.out⟩, by simp [intOf]; omega⟩
          · show _ = _
            have := HMJ.out
            omega
          · show _ = _
            rw [List.map_append, HM.out, HMJ.out]
            rfl
        · obtain rfl : j = k + 1 := by omega
          have hq : ∀ q ∈ [(((40, 0, [], 0, [(m : Int)]) : NodeD), Value.slice (some ⟨wr.heap.size, 0, none⟩) 1 1)], KRow q.2 q.1.2.2.2.2 (wr.alloc (.cells #[.int .i64 (m : Int)] 3)) ∧ (q.1.2.2.2.2 ≠ [] → ∀ g, q.2.ownBlock = some g → wr.heap.size ≤ g) := by
            intro q hq
            simp only [List.mem_cons, List.not_mem_nil, or_false] at hq
            subst hq
            exact ⟨KRow.lit wr #[.int .i64 (m : Int)] [(m : Int)] rfl, fun _ g e => by simp [Value.ownBlock] at e; omega⟩
          have HQ := Lib.hid hq
          clear hbel hq
          have hokA := okN_in (deepA_ok (k + 1))
          have hokB := okN_in (deepB_ok (k + 1))
          have hlA : (deepA (k + 1)).length = k + 1 + 2 := by rw [deepA, List.length_append, negsT_length]; simp
          have hcA : ∀ W, Below w3.heap.size w3 W → Calls Tryd.prog 12 #[.slice (some ⟨g', 0, none⟩) (k + 1 + 2) c'] W fun e w' => e = .returned (.bool (decide (k + 1 ≤ 40))) ∧ Below W.heap.size W w' := fun W hW => by
            have := HRR.out _ (deepA (k + 1)) W (HAT.out.below hW) (by rw [hlA]; omega) hokA.1 hokA.2
            rwa [beq_iff_eq.1 HA1.out] at this
          have hcD : ∀ W, Below w3.heap.size w3 W → Calls Tryd.prog 13 #[.slice (some ⟨g', 0, none⟩) (k + 1 + 2) c', .int .i64 (k : Int)] W fun e w' => e = .returned (.int .i64 ((k : Int) + 1)) ∧ Below W.heap.size W w' := fun W hW => by
            have := Depth_any W _ (deepA (k + 1)) (HAT.out.below hW) (by rw [hlA]; omega) (fun x hx => (hokA.1 x hx).2) (k : Int) (wf_node (n := 100) (by omega) (by omega))
            have h2 := beq_iff_eq.1 HA2.out
            rw [show k + 1 - 1 = k by omega] at h2
            rwa [h2] at this
          have HCA := Lib.hid hcA
          have HCD := Lib.hid hcD
          have HOB := Lib.hid hokB
          clear hokA hokB hlA hcA hcD HA1 HA2 HAT
          by_cases h40 : k + 1 ≤ 40
          · have hd40 : decide (k + 1 ≤ 40) = true := decide_eq_true h40
            have g40 : (k : Int) + 1 ≤ 40 := by omega
            rw [hd40] at HCA HB1
            clear hd40 h40
            go_wp2_with (at_builtin; refine wpList_tapp rfl _ _ rfl w3.heap.size _ P2 wr HT.out HB.out.size _ ((Below.refl _ _).alloc (Nat.le_refl _) _) [((40, 0, [], 0, [(m : Int)]), .slice (some ⟨wr.heap.size, 0, none⟩) 1 1)] (m + 1) 1 HPL.out rfl (by decide) _ rfl rfl (by simp; rfl) HQ.out (by omega) ?_; intro g5 c5 w5 HT5 HL5 hb5; have HB5 := Lib.hid (hb5 w3 HB.out); clear hb5)
            have HMB : Hid ((P2 ++ [(((40, 0, [], 0, [(m : Int)]) : NodeD), Value.slice (some ⟨wr.heap.size, 0, none⟩) 1 1)]).map (·.1) = deepB (k + 1)) := by
              show _ = _
              rw [List.map_append, HM.out, HMJ.out]
              rfl
            have hlB : (deepB (k + 1)).length = m + 1 + 1 := by rw [← HMB.out, List.length_map, HL5.out]
            have hAB : ArgT (.slice (some ⟨g5, 0, none⟩) (m + 1 + 1) c5) (deepB (k + 1)) w5 := by rw [← HMB.out]; exact HT5.out.argT
            have hcB : ∀ W, Below w5.heap.size w5 W → Calls Tryd.prog 12 #[.slice (some ⟨g5, 0, none⟩) (m + 1 + 1) c5] W fun e w' => e = .returned (.bool true) ∧ Below W.heap.size W w' := fun W hW => by
              have := HRR.out _ (deepB (k + 1)) W (hAB.below hW) (by rw [hlB]; omega) HOB.out.1 HOB.out.2
              rwa [beq_iff_eq.1 HB1.out] at this
            have HCB := Lib.hid hcB
            have hca := HCA.out w5 HB5.out
            clear hcB hAB hlB HMB HT HM HPL HQ HT5 HL5 HMJ HOB HB1 HB
            go_wp2_with (first
              | (go_at_call 12; refine hca.mono ?_; clear hca; rintro e w6 ⟨rfl, hb6⟩; have hcb := HCB.out w6 hb6)
              | (go_at_call 12; refine hcb.mono ?_; clear hcb; rintro e w7 ⟨rfl, hb7⟩; have hcd := HCD.out w7 ((HB5.out.trans (hb6.mono HB5.out.size)).trans (hb7.mono (Nat.le_trans HB5.out.size hb6.size))))
              | (go_at_call 13; refine hcd.mono ?_; clear hcd; rintro e w8 ⟨rfl, hb8⟩))
            go_ret
            refine ⟨ret_bool (by first | (simp; done) | (simp; omega)), ?_⟩
            exact HB3.out.trans ((((HB5.out.trans (hb6.mono HB5.out.size)).trans (hb7.mono (Nat.le_trans HB5.out.size hb6.size))).trans (hb8.mono (Nat.le_trans (Nat.le_trans HB5.out.size hb6.size) hb7.size))).mono HB3.out.size)
          · have hd40 : decide (k + 1 ≤ 40) = false := decide_eq_false h40
            have g40 : ¬ (k : Int) + 1 ≤ 40 := by omega
            rw [hd40] at HCA HB1
            clear hd40 h40
            go_wp2_with (at_builtin; refine wpList_tapp rfl _ _ rfl w3.heap.size _ P2 wr HT.out HB.out.size _ ((Below.refl _ _).alloc (Nat.le_refl _) _) [((40, 0, [], 0, [(m : Int)]), .slice (some ⟨wr.heap.size, 0, none⟩) 1 1)] (m + 1) 1 HPL.out rfl (by decide) _ rfl rfl (by simp; rfl) HQ.out (by omega) ?_; intro g5 c5 w5 HT5 HL5 hb5; have HB5 := Lib.hid (hb5 w3 HB.out); clear hb5)
            have HMB : Hid ((P2 ++ [(((40, 0, [], 0, [(m : Int)]) : NodeD), Value.slice (some ⟨wr.heap.size, 0, none⟩) 1 1)]).map (·.1) = deepB (k + 1)) := by
              show _ = _
              rw [List.map_append, HM.out, HMJ.out]
              rfl
            have hlB : (deepB (k + 1)).length = m + 1 + 1 := by rw [← HMB.out, List.length_map, HL5.out]
            have hAB : ArgT (.slice (some ⟨g5, 0, none⟩) (m + 1 + 1) c5) (deepB (k + 1)) w5 := by rw [← HMB.out]; exact HT5.out.argT
            have hcB : ∀ W, Below w5.heap.size w5 W → Calls Tryd.prog 12 #[.slice (some ⟨g5, 0, none⟩) (m + 1 + 1) c5] W fun e w' => e = .returned (.bool false) ∧ Below W.heap.size W w' := fun W hW => by
              have := HRR.out _ (deepB (k + 1)) W (hAB.below hW) (by rw [hlB]; omega) HOB.out.1 HOB.out.2
              rwa [beq_iff_eq.1 HB1.out] at this
            have HCB := Lib.hid hcB
            have hca := HCA.out w5 HB5.out
            clear hcB hAB hlB HMB HT HM HPL HQ HT5 HL5 HMJ HOB HB1 HB
            go_wp2_with (first
              | (go_at_call 12; refine hca.mono ?_; clear hca; rintro e w6 ⟨rfl, hb6⟩; have hcb := HCB.out w6 hb6)
              | (go_at_call 12; refine hcb.mono ?_; clear hcb; rintro e w7 ⟨rfl, hb7⟩; have hcd := HCD.out w7 ((HB5.out.trans (hb6.mono HB5.out.size)).trans (hb7.mono (Nat.le_trans HB5.out.size hb6.size))))
              | (go_at_call 13; refine hcd.mono ?_; clear hcd; rintro e w8 ⟨rfl, hb8⟩))
            go_ret
            refine ⟨ret_bool (by first | (simp; done) | (simp; omega)), ?_⟩
            exact HB3.out.trans ((((HB5.out.trans (hb6.mono HB5.out.size)).trans (hb7.mono (Nat.le_trans HB5.out.size hb6.size))).trans (hb8.mono (Nat.le_trans (Nat.le_trans HB5.out.size hb6.size) hb7.size))).mono HB3.out.size)
theorem walk (x : Int) (w : World) (hx : (Lit.int .i64 x).wf = true) : Calls Tryd.prog 5 #[.int .i64 x] w fun e w' => e = .returned (.bool true) ∧ Below w.heap.size w w' := walk_of right_ok x w hx
end lawLwD
end Go.Proofs.YtkmmcphiijolkaaDoor
