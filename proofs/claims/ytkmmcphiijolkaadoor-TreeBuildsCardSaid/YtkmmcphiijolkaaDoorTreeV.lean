/-
  What a try must be, at this program.
-/
import Derived.Test.YtkmmcphiijolkaaDoorTreeU
set_option linter.unusedVariables false
set_option linter.unusedSimpArgs false
namespace Go.Proofs.YtkmmcphiijolkaaDoor
open Go.RowKit Go.Shelf
open Tr

set_option maxHeartbeats 8000000 in
set_option maxRecDepth 100000 in
theorem guarded_any (tv nv : Value) (t : List NodeD) (x : NodeD) (w : World) (hat : ArgT tv t w) (hn : NodeV nv x w) (hal : AllIn t) (hx : x ∈ t) (hpre : 1 ≤ x.2.2.2.2.length) :
    Calls Tryd.prog 59 #[tv, nv] w fun e w' => e = .returned (.bool (tGuard t x)) ∧ Below w.heap.size w w' := by
  obtain ⟨hl, hall⟩ := hal
  have hxa := hall x hx
  obtain ⟨ga, oa, cat, rfl, hga, hnodes⟩ := hat.form (List.ne_nil_of_mem hx)
  have HNODES := Lib.hid hnodes
  obtain ⟨vk, rfl, hvk⟩ := hn
  obtain ⟨pk, ck, rfl, fk⟩ := hvk
  obtain ⟨x0, x1, x2, x3, ks⟩ := x
  simp only at hxa hpre fk ⊢
  obtain ⟨m, hm⟩ : ∃ m, ks.length = m + 1 := ⟨ks.length - 1, by omega⟩
  obtain ⟨k0, hk0⟩ : ∃ k0, ks[0]? = some k0 := ⟨_, List.getElem?_eq_getElem (by omega)⟩
  obtain ⟨gk, ok, rfl, hgk, _⟩ := fk.1 0 k0 hk0
  obtain ⟨q, hq⟩ : ∃ q, q = t.length := ⟨_, rfl⟩
  obtain ⟨s, hs⟩ : ∃ s : ByteArray, s = ⟨x2.toArray⟩ := ⟨_, rfl⟩
  have hml : m + 1 ≤ 9223372036854775807 := by rw [← hm]; have := hxa.2.1; unfold maxLen at this; omega
  have hmc : m + 1 ≤ ck := by rw [← hm]; exact fk.2
  have HRW : Hid (∀ (j : Nat) (c : Int), (ks.drop 1)[j]? = some c → w.cell? ⟨gk, ok + 1 + j, none⟩ = some (.int .i64 c)) := fun j c h => by
    rw [List.getElem?_drop] at h
    obtain ⟨g', o', e, _, hc⟩ := fk.1 _ c h
    injection e with e
    injection e with e1 e2
    subst e1; subst e2
    rw [show ok + 1 + j = ok + (1 + j) by omega]
    exact hc
  have HR : Hid (tGuard t (x0, x1, x2, x3, ks) = (guards t false (ks.drop 1) && decide (0 < m))) := by show _ = _; unfold tGuard; simp only [hm]; congr 1; simp
  have hbx := (Below.refl w.heap.size w).alloc (Nat.le_refl _) (.cells #[.int .i64 x0, .int .i64 x1, .string s, .int .i64 x3, .slice (some ⟨gk, ok, none⟩) (m + 1) ck] 37)
  have hNx : (w.alloc (.cells #[.int .i64 x0, .int .i64 x1, .string s, .int .i64 x3, .slice (some ⟨gk, ok, none⟩) (m + 1) ck] 37)).heap[w.heap.size]? = some (.cells #[.int .i64 x0, .int .i64 x1, .string s, .int .i64 x3, .slice (some ⟨gk, ok, none⟩) (m + 1) ck] 37) := by show (w.heap.push _)[_]? = _; simp
  have HL : Hid ((ks.drop 1).length = m) := by show _ = _; rw [List.length_drop]; omega
  rw [HR.out]
  rw [hm, ← hq, ← hs]
  rw [← hq] at hl
  have HM := Lib.hid hm
  have HQ := Lib.hid hq
  have HXA := Lib.hid hxa
  have hw : IntKind.i64.wrap (m : Int) = (m : Int) := IntWalk.i64_in _ (by omega)
  clear HR fk hxa hall hx hnodes hm hq hs hpre hk0
  by_cases hm0 : m = 0
  · subst hm0
    have HF : Hid ((guards t false (ks.drop 1) && decide (0 < 0)) = false) := by show _ = _; simp
    rw [HF.out]
    clear HF HRW HNODES HL HM HXA
    by_cases hc1 : ck = 1
    · subst hc1
      go_enter Tryd.func59, Tryd.ntmps59
      go_wp2_with fail
      go_loopw [12] (fun v12 wr => v12 = .int .i64 0 ∧ Below w.heap.size w wr ∧ wr.heap[w.heap.size]? = some (.cells #[.int .i64 x0, .int .i64 x1, .string s, .int .i64 x3, .slice (some ⟨gk, ok, none⟩) (0 + 1) 1] 37)) (fun v12 _ => 0)
      case atStart => exact ⟨rfl, hbx, hNx⟩
      case round =>
        obtain ⟨rfl, hbel, hN2⟩ := hrel
        obtain ⟨c0, c1, c2, c3, c4⟩ := box5 (w := wr) hN2
        clear hbx hNx
        go_wp2_with fail
        go_ret
        exact ⟨rfl, hbel⟩
    · have hc2 : ¬ (ck = 1) := hc1
      have hc3 : 1 < ck := by omega
      clear hc1
      go_enter Tryd.func59, Tryd.ntmps59
      go_wp2_with fail
      go_loopw [12] (fun v12 wr => v12 = .int .i64 0 ∧ Below w.heap.size w wr ∧ wr.heap[w.heap.size]? = some (.cells #[.int .i64 x0, .int .i64 x1, .string s, .int .i64 x3, .slice (some ⟨gk, ok, none⟩) (0 + 1) ck] 37)) (fun v12 _ => 0)
      case atStart => exact ⟨rfl, hbx, hNx⟩
      case round =>
        obtain ⟨rfl, hbel, hN2⟩ := hrel
        obtain ⟨c0, c1, c2, c3, c4⟩ := box5 (w := wr) hN2
        clear hbx hNx
        go_wp2_with fail
        go_ret
        exact ⟨rfl, hbel⟩
  · have hmp : 0 < m := by omega
    have hc2 : ¬ (ck = 1) := by omega
    have HF : Hid ((guards t false (ks.drop 1) && decide (0 < m)) = guards t false (ks.drop 1)) := by show _ = _; simp [hmp]
    rw [HF.out]
    clear HF hm0
    go_enter Tryd.func59, Tryd.ntmps59
    go_wp2_with fail
    go_loopw [5, 12] (fun v5 v12 wr => ∃ (j : Nat) (ta : Bool), v12 = .int .i64 (j : Int) ∧ v5 = .bool ta ∧ j ≤ m ∧ Below w.heap.size w wr ∧ wr.heap[w.heap.size]? = some (.cells #[.int .i64 x0, .int .i64 x1, .string s, .int .i64 x3, .slice (some ⟨gk, ok, none⟩) (m + 1) ck] 37) ∧ Hid (guards t false (ks.drop 1) = guards t ta ((ks.drop 1).drop j))) (fun _ v12 _ => m - (intOf v12).toNat)
    case atStart => exact ⟨0, false, rfl, rfl, Nat.zero_le _, hbx, hNx, rfl⟩
    case round =>
      obtain ⟨j, ta, rfl, rfl, hj, hbel, hN2, HT⟩ := hrel
      clear hbx hNx
      by_cases hjm : j < m
      · obtain ⟨k, hk⟩ : ∃ k, (ks.drop 1)[j]? = some k := ⟨_, List.getElem?_eq_getElem (by rw [HL.out]; exact hjm)⟩
        have hdk := drop_cons (ks.drop 1) j k hk
        have hti := HT.out
        rw [hdk, guards] at hti
        have hkr := HXA.out.2.2 k (List.mem_of_mem_drop (List.mem_of_getElem? hk))
        have ac := HRW.out j k hk
        have bc := (hbel.cell (p := ⟨gk, ok + 1 + j, none⟩) hgk).trans ac
        obtain ⟨kn, rfl⟩ : ∃ kn : Nat, k = (kn : Int) := ⟨k.toNat, by omega⟩
        obtain ⟨hym, hy⟩ := nodeAt_mem hkr
        rw [Int.toNat_natCast] at hy
        have hkq : kn < q := by rw [HQ.out]; omega
        obtain ⟨vy, n0, n1, n2, n3, n4, n5⟩ := HNODES.out kn _ hy
        obtain ⟨y, hyy⟩ : ∃ y, y = nodeAt t (kn : Int) := ⟨_, rfl⟩
        rw [← hyy] at n0 n1 n2 n3 n5 hti
        obtain ⟨y0, y1, y2, y3, ys⟩ := y
        obtain ⟨py, cy, rfl, fy⟩ := n5
        simp only at n0 n1 n2 n3 n4 hti
        have p0 := (hbel.cell (p := ⟨ga, oa + kn * 5, none⟩) hga).trans n0
        have p4 := (hbel.cell (p := ⟨ga, oa + kn * 5 + 4, none⟩) hga).trans n4
        obtain ⟨my, hmy⟩ : ∃ my, my = ys.length := ⟨_, rfl⟩
        rw [← hmy] at p4 hti
        by_cases hs1 : ta = true ∧ y0 = 56
        · rw [if_pos hs1] at hti
          obtain ⟨rfl, rfl⟩ := hs1
          have HR := Lib.hid hti
          clear HT hti hdk hk hkr ac n0 n1 n2 n3 n4 fy hy hym hyy hmy HXA HRW HNODES hN2
          go_wp2_with fail
          go_ret
          exact ⟨ret_bool HR.out.symm, hbel⟩
        · rw [if_neg hs1] at hti
          have HT2 := Lib.hid hti
          clear HT hti hdk hk hkr ac n0 n1 n2 n3 n4 fy hy hym hyy hmy HXA HRW HNODES
          by_cases h1 : my = 1
          · subst h1
            cases ta with
            | true =>
              have h0 : (y0 == 56) = false := by simp; intro e; exact hs1 ⟨rfl, e⟩
              clear hs1
              go_wp2_with fail
              exact ⟨⟨j + 1, _, by go_num, rfl, by omega, hbel, hN2, HT2⟩, by simp [intOf]; omega⟩
            | false =>
              clear hs1
              go_wp2_with fail
              exact ⟨⟨j + 1, _, by go_num, rfl, by omega, hbel, hN2, HT2⟩, by simp [intOf]; omega⟩
          · have g1 : ((my : Int) == 1) = false := by simp; omega
            rw [show decide (my = 1) = false from decide_eq_false h1] at HT2
            clear h1
            cases ta with
            | true =>
              have h0 : (y0 == 56) = false := by simp; intro e; exact hs1 ⟨rfl, e⟩
              clear hs1
              go_wp2_with fail
              exact ⟨⟨j + 1, _, by go_num, rfl, by omega, hbel, hN2, HT2⟩, by simp [intOf]; omega⟩
            | false =>
              clear hs1
              go_wp2_with fail
              exact ⟨⟨j + 1, _, by go_num, rfl, by omega, hbel, hN2, HT2⟩, by simp [intOf]; omega⟩
      · obtain rfl : j = m := by omega
        have HR : Hid (guards t false (ks.drop 1) = true) := by
          show _ = _
          rw [HT.out, List.drop_eq_nil_of_le (by rw [HL.out]; exact Nat.le_refl _)]
          rfl
        obtain ⟨c0, c1, c2, c3, c4⟩ := box5 (w := wr) hN2
        clear HT HXA HRW HNODES HL
        have gm : decide ((1 : Int) < (j : Int) + 1) = true := decide_eq_true (by omega)
        go_wp2_with fail
        go_ret
        exact ⟨ret_bool HR.out.symm, hbel⟩
theorem test_guard (w : World) : IsTest (fun t x => 1 ≤ x.2.2.2.2.length) tGuard (.func (.func 59) #[] #[]) w := test_of w (enters_of Tryd.func59 (by kernel_rfl) rfl) fun w' tv nv t x ha hn hal hx hp => guarded_any tv nv t x w' ha hn hal hx hp
end Go.Proofs.YtkmmcphiijolkaaDoor
