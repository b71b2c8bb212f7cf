/-
  Texts of the tree package put behind one another: TreeB, TreeK, ShelfS, TreeJ, TreeQ.
-/
import Derived.Test.YtkmmcphiijolkaaGreatDoorZb
import Derived.Shelf.RegionOpen
import Derived.Deep.DeepCutAuto
import Derived.Test.YtkmmcphiijolkaaGreatDoorZc
import Derived.Maps.AppendAt
import Derived.Maps.OwnIn
import Derived.RangeFuncBox
import Derived.Shelf.LaysM
import Derived.Shelf.Sort.Plain
import Derived.Ground.Names2Prog
import Derived.Shelf.Slices.Clone
import Derived.Shelf.Slices.SearchI
import Derived.Shelf.Slices.In.SortNone
import Derived.Ground.SlgnProg
import Derived.Shelf.SlicesE.Clone
import Derived.Test.YtkmmcphiijolkaaGreatDoorProg
import Derived.Sort.OwnSortedInts
set_option linter.unusedVariables false
set_option linter.unusedSimpArgs false
namespace Go.Proofs.YtkmmcphiijolkaaGreatDoor
open Go.RowKit Go.Shelf
open Tr

theorem infoInt : (Tryz.prog.info? 3).map (fun i => (i.zero, i.size, i.bytes)) = some (some (.int .i64 0), 1, 8) := by kernel_rfl
theorem make_ints (n : Nat) (hn : n ≤ 1000000) (w : World) : (Instr.makeSlice 24 (.int .i64 (n : Int)) (.int .i64 (n : Int))).run Tryz.prog w = .ok (.slice (some ⟨w.heap.size, 0, none⟩) n n) (w.alloc (.cells (madeCells #[.int .i64 0] n) 3)) := by
  obtain ⟨i0, hi, hz0, hz1, hz2⟩ := info_parts infoInt
  have h := run_makeSlice (P := Tryz.prog) (w := w) 24 3 i0 _ Tryz.underlying24 hi hz0 .i64 .i64 (n : Int) (n : Int) (by omega) (by omega) (by rw [hz1]; simp; omega) (by rw [hz2]; omega) (by omega)
  rw [hz1] at h
  simp only [Int.toNat_natCast, Nat.mul_one] at h
  exact h
theorem deepest_snoc (f : Nat → Nat) (k : Int) : ∀ (l : List Int) (a : Nat), deepest f a (l ++ [k]) = max (deepest f a l) (f k.toNat)
  | [], a => rfl
  | x :: l, a => deepest_snoc f k l _
theorem deepest_le (f : Nat → Nat) (i : Nat) (hf : ∀ j, f j ≤ i) : ∀ (l : List Int) (a : Nat), a ≤ i → deepest f a l ≤ i
  | [], a, h => h
  | x :: l, a, h => deepest_le f i hf l _ (by have := hf x.toNat; omega)
theorem take_snoc {α : Type} (X : List α) (i : Nat) (x : α) (h : X[i]? = some x) : X.take (i + 1) = X.take i ++ [x] := by
  rw [List.take_add_one, h]; rfl
/-- All Kids of all nodes from number i on are kids. -/
def KidsAt : Nat → List NodeD → Prop
  | _, [] => True
  | i, x :: xs => (∀ k ∈ x.2.2.2.2, 0 ≤ k ∧ k < (i : Int)) ∧ KidsAt (i + 1) xs
theorem KidsAt.get : ∀ {l : List NodeD} {s : Nat}, KidsAt s l → ∀ {i : Nat} {x : NodeD}, l[i]? = some x → ∀ k ∈ x.2.2.2.2, 0 ≤ k ∧ k < ((s + i : Nat) : Int)
  | [], s, h, i, x, hx => by simp at hx
  | y :: l, s, h, 0, x, hx => by
    simp only [List.getElem?_cons_zero, Option.some.injEq] at hx
    subst hx
    exact h.1
  | y :: l, s, h, i + 1, x, hx => by
    simp only [List.getElem?_cons_succ] at hx
    have := KidsAt.get h.2 hx
    rwa [show s + 1 + i = s + (i + 1) by omega] at this

/-- Depths as they stand while those of node i grow. -/
def grow (f : Nat → Nat) (i d : Nat) : Nat → Nat := fun j => if j = i then d else f j
theorem grow_at (f : Nat → Nat) (i d : Nat) : grow f i d i = d := by simp [grow]
theorem grow_ne (f : Nat → Nat) {i d j : Nat} (h : j ≠ i) : grow f i d j = f j := by simp [grow, h]
theorem grow_grow (f : Nat → Nat) (i d e : Nat) : grow (grow f i d) i e = grow f i e := by funext j; by_cases h : j = i <;> simp [grow, h]
def rowN (f : Nat → Nat) : Nat → Value := fun j => .int .i64 ((f j : Nat) : Int)
theorem rowN_grow (f : Nat → Nat) (i d e : Nat) (j : Nat) : (if j = i then Value.int .i64 ((e : Nat) : Int) else rowN (grow f i d) j) = rowN (grow f i e) j := by
  by_cases h : j = i <;> simp [rowN, grow, h]

set_option maxHeartbeats 16000000 in
set_option maxRecDepth 100000 in
theorem shallow_any (v : Value) (l : List NodeD) (w : World) (ha : ArgT v l w) (hl : l.length ≤ 1000000) (hks : ∀ x ∈ l, x.2.2.2.2.length ≤ maxLen) (hkid : KidsAt 0 l) : Calls Tryz.prog 28 #[v] w fun e w' => e = .returned (.bool (shallow l)) ∧ Below w.heap.size w w' := by
  obtain ⟨pa, ca, rfl, fa⟩ := ha
  have FA := Lib.hid fa
  have HKS := Lib.hid hks
  have HKID := Lib.hid hkid
  have hmk := make_ints l.length hl
  obtain ⟨n, hn⟩ : ∃ n, n = l.length := ⟨_, rfl⟩
  rw [← hn] at hmk hl ⊢
  have HN := Lib.hid hn
  clear fa hks hn hkid
  go_enter Tryz.func28, Tryz.ntmps28
  go_upto_region 1 with fail
  go_cut [3, 4] (fun v3 v4 wx => ∃ Hd Hb, v3 = .slice (some ⟨Hd, 0, none⟩) n n ∧ v4 = .slice (some ⟨Hb, 0, none⟩) n n ∧ Hd ≠ Hb ∧ w.heap.size ≤ Hd ∧ w.heap.size ≤ Hb ∧ wx.rowIs Hd 3 n (rowN fun _ => 0) ∧ wx.rowIs Hb 3 n (rowN fun _ => 0) ∧ Below w.heap.size w wx)
  case first =>
    have hr1 := World.rowIs_made w (.int .i64 0) n 3
    have hr2 := World.rowIs_made (w.alloc (.cells (madeCells #[.int .i64 0] n) 3)) (.int .i64 0) n 3
    rw [World.size_alloc] at hr2
    have hb2 := ((Below.refl w.heap.size w).alloc (Nat.le_refl _) (.cells (madeCells #[.int .i64 0] n) 3)).alloc (by simp) (.cells (madeCells #[.int .i64 0] n) 3)
    go_region
    all_goals (try go_wp2_with fail)
    all_goals go_meet
    all_goals first
      | exact ⟨w.heap.size, w.heap.size + 1, rfl, by simp, by omega, by omega, by omega, (hr1.alloc _).drew, hr2.drew, hb2.drew⟩
      | exact ⟨w.heap.size + 1, w.heap.size, by simp, rfl, by omega, by omega, by omega, hr2.drew, (hr1.alloc _).drew, hb2.drew⟩
  case rest =>
    obtain ⟨Hd, Hb, rfl, rfl, hne, hHd, hHb, hrd, hrb, hbel0⟩ := hcut
    go_wp2_with fail
    go_loopw [17] (fun v17 wr => ∃ (i : Nat) (dp bl : Nat → Nat), v17 = .int .i64 (i : Int) ∧ i ≤ n ∧ wr.rowIs Hd 3 n (rowN dp) ∧ wr.rowIs Hb 3 n (rowN bl) ∧ Below w.heap.size w wr ∧ Hid (∀ j, dp j ≤ i ∧ bl j ≤ i) ∧ Hid (∀ j, i ≤ j → dp j = 0 ∧ bl j = 0) ∧ Hid (shallow l = shalGo i dp bl (l.drop i))) (fun v17 _ => n - (intOf v17).toNat)
    case atStart => exact ⟨0, fun _ => 0, fun _ => 0, rfl, Nat.zero_le _, hrd, hrb, hbel0, fun _ => ⟨Nat.le_refl _, Nat.le_refl _⟩, fun _ _ => ⟨rfl, rfl⟩, rfl⟩
    case round =>
      obtain ⟨i, dp, bl, rfl, hi, hrow, hrow', hbel, HLE, HZ, HT⟩ := hrel
      clear hrd hrb hbel0
      by_cases hlt : i < n
      · obtain ⟨x, hx⟩ : ∃ x, l[i]? = some x := ⟨_, List.getElem?_eq_getElem (by rw [← HN.out]; exact hlt)⟩
        have hkl := HKS.out x (List.mem_of_getElem? hx)
        have hki := HKID.out.get hx
        unfold maxLen at hkl
        obtain ⟨g, o, vk, rfl, hg, a0, a1, a2, a3, a4, a5⟩ := FA.out i x hx
        have b0 := (hbel.cell (p := ⟨g, o + i * 5, none⟩) hg).trans a0
        have b1 := (hbel.cell (p := ⟨g, o + i * 5 + 1, none⟩) hg).trans a1
        have b2 := (hbel.cell (p := ⟨g, o + i * 5 + 2, none⟩) hg).trans a2
        have b3 := (hbel.cell (p := ⟨g, o + i * 5 + 3, none⟩) hg).trans a3
        have b4 := (hbel.cell (p := ⟨g, o + i * 5 + 4, none⟩) hg).trans a4
        have hd := drop_cons l i x hx
        have hti := HT.out
        rw [hd, shalGo] at hti
        obtain ⟨x0, x1, x2, x3, ks⟩ := x
        simp only at hkl hki b0 b1 b2 b3 b4 a5 hti
        obtain ⟨pk, ck, rfl, fk⟩ := a5
        have FK := Lib.hid fk.1
        have HTI := Lib.hid hti
        have HKI := Lib.hid hki
        obtain ⟨m, hm⟩ : ∃ m, m = ks.length := ⟨_, rfl⟩
        rw [← hm] at hkl b4
        have HM := Lib.hid hm
        have hrs := hrow.lt
        have hrs' := hrow'.lt
        have hwr : w.heap.size ≤ wr.heap.size := hbel.size
        obtain ⟨N0, hN0⟩ : ∃ N0, N0 = wr.heap.size := ⟨_, rfl⟩
        obtain ⟨CS, hCS⟩ : ∃ CS : Array Value, CS = #[.int .i64 x0, .int .i64 x1, .string ⟨x2.toArray⟩, .int .i64 x3, .slice pk m ck] := ⟨_, rfl⟩
        obtain ⟨wq, hwq⟩ : ∃ wq, wq = wr.alloc (.cells CS 39) := ⟨_, rfl⟩
        have hNb : wq.heap[N0]? = some (.cells CS 39) := by
          rw [hwq, hN0]; show (wr.heap.push _)[_]? = _; simp
        have hsq : wq.heap.size = N0 + 1 := by rw [hwq, hN0]; simp
        have hrq : wq.rowIs Hd 3 n (rowN (grow dp i 0)) := by
          rw [hwq]
          exact (hrow.alloc _).congr (fun j _ => by by_cases h : j = i <;> simp [rowN, grow, h, ((HZ.out i (Nat.le_refl _)).1)])
        have hrq' : wq.rowIs Hb 3 n (rowN (grow bl i 0)) := by
          rw [hwq]
          exact (hrow'.alloc _).congr (fun j _ => by by_cases h : j = i <;> simp [rowN, grow, h, ((HZ.out i (Nat.le_refl _)).2)])
        have hbq : Below w.heap.size w wq := by rw [hwq]; exact hbel.alloc hwr _
        have HWQ := Lib.hid hwq
        clear hx hd hti a0 a1 a2 a3 a4 fk hm HT hki hwq
        go_wp2_with fail
        rw [← hCS, ← HWQ.out]
        have HCS := Lib.hid hCS
        have hNb2 := hNb
        rw [hCS] at hNb2
        rw [← hN0]
        have HN0 := Lib.hid hN0
        rw [← hN0] at hrs hrs' hwr
        clear hN0
        obtain ⟨c0, c1, c2, c3, c4⟩ := box5 (w := wq) hNb2
        clear hCS hNb2
        clear FA HKS HKID HWQ HN0 hbel
        go_wp2_with fail
        go_loopw [25] (fun v25 wk => ∃ (j : Nat), v25 = .int .i64 (j : Int) ∧ j ≤ m ∧ wk.rowIs Hd 3 n (rowN (grow dp i (deepest dp 0 (ks.take j)))) ∧ wk.rowIs Hb 3 n (rowN (grow bl i (deepest bl 0 (ks.take j)))) ∧ wk.heap[N0]? = some (.cells CS 39) ∧ Below w.heap.size w wk) (fun v25 _ => m - (intOf v25).toNat)
        case atStart => exact ⟨0, rfl, Nat.zero_le _, hrq, hrq', hNb, hbq⟩
        case round =>
          obtain ⟨j, rfl, hj, hr2, hr2', hN2, hb2⟩ := hrel
          clear hrq hrq' hNb hbq c0 c1 c2 c3 c4 hrow hrow'
          by_cases hjm : j < m
          · obtain ⟨c, hc⟩ : ∃ c, ks[j]? = some c := ⟨_, List.getElem?_eq_getElem (by rw [← HM.out]; exact hjm)⟩
            have hcr := HKI.out c (List.mem_of_getElem? hc)
            obtain ⟨gk, ok, rfl, hgk, ac⟩ := FK.out j c hc
            have bc := (hb2.cell (p := ⟨gk, ok + j, none⟩) (by omega)).trans ac
            obtain ⟨k, rfl⟩ : ∃ k : Nat, c = (k : Int) := ⟨c.toNat, by omega⟩
            have hki : k < i := by omega
            have hkn : k < n := by omega
            have hts := take_snoc ks j _ hc
            have eD : Hid (deepest dp 0 (ks.take (j + 1)) = max (deepest dp 0 (ks.take j)) (dp k)) := by show _ = _; rw [hts, deepest_snoc]; rfl
            have eB : Hid (deepest bl 0 (ks.take (j + 1)) = max (deepest bl 0 (ks.take j)) (bl k)) := by show _ = _; rw [hts, deepest_snoc]; rfl
            obtain ⟨D, hD⟩ := hid_ex (deepest dp 0 (ks.take j))
            obtain ⟨B, hB⟩ := hid_ex (deepest bl 0 (ks.take j))
            rw [hD.out] at hr2 eD
            rw [hB.out] at hr2' eB
            have d1 := hr2.cell hlt
            have d2 := hr2.cell hkn
            have d3 := hr2.frozen i
            rw [show rowN (grow dp i D) i = .int .i64 (D : Int) by simp [rowN, grow]] at d1
            rw [show rowN (grow dp i D) k = .int .i64 ((dp k : Nat) : Int) by simp [rowN, grow, Nat.ne_of_lt hki]] at d2
            obtain ⟨dk, hdk⟩ := hid_ex (dp k)
            obtain ⟨bk, hbk⟩ := hid_ex (bl k)
            rw [hdk.out] at d2 eD
            rw [hbk.out] at eB
            have hmx : max (D : Int) (dk : Int) = ((max D dk : Nat) : Int) := by omega
            obtain ⟨W1, hW1⟩ : ∃ W1, W1 = (wr.setCell ⟨Hd, i, none⟩ (.int .i64 ((max D dk : Nat) : Int))).drew := ⟨_, rfl⟩
            have hr3 : W1.rowIs Hd 3 n (rowN (grow dp i (max D dk))) := by rw [hW1]; exact ((hr2.set i (.int .i64 ((max D dk : Nat) : Int))).congr (g := rowN (grow dp i (max D dk))) (fun q _ => rowN_grow _ _ _ _ q)).drew
            have hr3' : W1.rowIs Hb 3 n (rowN (grow bl i B)) := by rw [hW1]; exact (hr2'.setOther (a := ⟨Hd, i, none⟩) (Ne.symm hne) (.int .i64 ((max D dk : Nat) : Int))).drew
            have hN3 : W1.heap[N0]? = some (.cells CS 39) := by rw [hW1]; exact (Below.heap_setCell wr ⟨Hd, i, none⟩ _ N0 (by simp; omega)).trans hN2
            have hb3 : Below w.heap.size w W1 := by rw [hW1]; exact (hb2.setCell (p := ⟨Hd, i, none⟩) hHd (.int .i64 ((max D dk : Nat) : Int))).drew
            have HW1 := Lib.hid hW1
            clear hc hts hD hB hdk hN2 hr2 hr2' ac hb2 HKI hW1
            go_upto_region 8 with fail
            go_region
            rw [← HW1.out]
            clear HW1 d1 d2 d3 hmx bc
            have d1 := hr3'.cell hlt
            have d2 := hr3'.cell hkn
            have d3 := hr3'.frozen i
            rw [show rowN (grow bl i B) i = .int .i64 (B : Int) by simp [rowN, grow]] at d1
            rw [show rowN (grow bl i B) k = .int .i64 ((bl k : Nat) : Int) by simp [rowN, grow, Nat.ne_of_lt hki], hbk.out] at d2
            have hmx : max (B : Int) (bk : Int) = ((max B bk : Nat) : Int) := by omega
            obtain ⟨W2, hW2⟩ : ∃ W2, W2 = (W1.setCell ⟨Hb, i, none⟩ (.int .i64 ((max B bk : Nat) : Int))).drew := ⟨_, rfl⟩
            have hr4' : W2.rowIs Hb 3 n (rowN (grow bl i (max B bk))) := by rw [hW2]; exact ((hr3'.set i (.int .i64 ((max B bk : Nat) : Int))).congr (g := rowN (grow bl i (max B bk))) (fun q _ => rowN_grow _ _ _ _ q)).drew
            have hr4 : W2.rowIs Hd 3 n (rowN (grow dp i (max D dk))) := by rw [hW2]; exact (hr3.setOther (a := ⟨Hb, i, none⟩) hne (.int .i64 ((max B bk : Nat) : Int))).drew
            have hN4 : W2.heap[N0]? = some (.cells CS 39) := by rw [hW2]; exact (Below.heap_setCell W1 ⟨Hb, i, none⟩ _ N0 (by simp; omega)).trans hN3
            have hb4 : Below w.heap.size w W2 := by rw [hW2]; exact (hb3.setCell (p := ⟨Hb, i, none⟩) hHb (.int .i64 ((max B bk : Nat) : Int))).drew
            have HW2 := Lib.hid hW2
            clear hW2 hr3 hr3' hN3 hb3 hbk
            go_upto_region 9 with fail
            go_region
            rw [← HW2.out]
            clear HW2 d1 d2 d3 hmx
            rw [← eD.out] at hr4
            rw [← eB.out] at hr4'
            clear eD eB
            go_wp2_with fail
            exact ⟨⟨j + 1, by go_num, by omega, hr4, hr4', hN4, hb4⟩, by simp [intOf]; omega⟩
          · obtain rfl : j = m := by omega
            obtain ⟨D, hD⟩ : ∃ D, D = deepest dp 0 ks := ⟨_, rfl⟩
            obtain ⟨B, hB⟩ : ∃ B, B = deepest bl 0 ks := ⟨_, rfl⟩
            have hti := HTI.out
            rw [HM.out, List.take_length, ← hD] at hr2
            rw [HM.out, List.take_length, ← hB] at hr2'
            rw [← hD, ← hB] at hti
            have hDi : D ≤ i := by rw [hD]; exact deepest_le dp i (fun q => (HLE.out q).1) ks 0 (Nat.zero_le _)
            have hBi : B ≤ i := by rw [hB]; exact deepest_le bl i (fun q => (HLE.out q).2) ks 0 (Nat.zero_le _)
            rw [HCS.out] at hN2
            obtain ⟨c0, c1, c2, c3, c4⟩ := box5 (w := wr) hN2
            have HTI2 := Lib.hid hti
            clear HTI hti hD hB HM FK HKI HCS
            have d1 := hr2.cell hlt
            have d3 := hr2.frozen i
            rw [show rowN (grow dp i D) i = .int .i64 (D : Int) by simp [rowN, grow]] at d1
            have hwd : IntKind.i64.wrap ((D : Int) + 1) = (D : Int) + 1 := IntWalk.i64_in _ (by omega)
            obtain ⟨W1, hW1⟩ : ∃ W1, W1 = wr.setCell ⟨Hd, i, none⟩ (.int .i64 ((D : Int) + 1)) := ⟨_, rfl⟩
            have hr3 : W1.rowIs Hd 3 n (rowN (grow dp i (D + 1))) := by rw [hW1]; exact (hr2.set i (.int .i64 ((D : Int) + 1))).congr (g := rowN (grow dp i (D + 1))) (fun q _ => rowN_grow dp i D (D + 1) q)
            have hr3' : W1.rowIs Hb 3 n (rowN (grow bl i B)) := by rw [hW1]; exact hr2'.setOther (a := ⟨Hd, i, none⟩) (Ne.symm hne) _
            have hN3 : W1.heap[N0]? = some (.cells #[.int .i64 x0, .int .i64 x1, .string ⟨x2.toArray⟩, .int .i64 x3, .slice pk j ck] 39) := by rw [hW1]; exact (Below.heap_setCell wr ⟨Hd, i, none⟩ _ N0 (by simp; omega)).trans hN2
            have hb3 : Below w.heap.size w W1 := by rw [hW1]; exact hb2.setCell (p := ⟨Hd, i, none⟩) hHd _
            have HW1 := Lib.hid hW1
            clear hN2 hr2 hr2' hb2 hW1
            go_upto_if 62 with (fail)
            rw [← HW1.out]
            obtain ⟨Z, hZ⟩ : ∃ Z, Z = B + (if x0 = 41 then 1 else 0) := ⟨_, rfl⟩
            have hti := HTI2.out
            rw [← hZ] at hti
            have HTI3 := Lib.hid hti
            have hZi : Z ≤ i + 1 := by rw [hZ]; split <;> omega
            have HZZ := Lib.hid hZ
            clear HTI2 hti hZ HW1 d1 d3 c0 c1 c2 c3 c4
            obtain ⟨c0, c1, c2, c3, c4⟩ := box5 (w := W1) hN3
            go_cut [3] (fun v3 wx => v3 = .slice (some ⟨Hd, 0, none⟩) n n ∧ wx.rowIs Hd 3 n (rowN (grow dp i (D + 1))) ∧ wx.rowIs Hb 3 n (rowN (grow bl i Z)) ∧ wx.heap[N0]? = some (.cells #[.int .i64 x0, .int .i64 x1, .string ⟨x2.toArray⟩, .int .i64 x3, .slice pk j ck] 39) ∧ Below w.heap.size w wx)
            case first =>
              by_cases h41 : x0 = 41
              · have hz : B + 1 = Z := by rw [HZZ.out, if_pos h41]
                have d1 := hr3'.cell hlt
                have d3 := hr3'.frozen i
                rw [show rowN (grow bl i B) i = .int .i64 (B : Int) by simp [rowN, grow]] at d1
                have hwb : IntKind.i64.wrap ((B : Int) + 1) = (B : Int) + 1 := IntWalk.i64_in _ (by omega)
                have hr4' := (hr3'.set i (.int .i64 ((B : Int) + 1))).congr (g := rowN (grow bl i (B + 1))) (fun q _ => rowN_grow bl i B (B + 1) q)
                have hr4 := hr3.setOther (a := ⟨Hb, i, none⟩) hne (.int .i64 ((B : Int) + 1))
                have hN4 := (Below.heap_setCell W1 ⟨Hb, i, none⟩ (.int .i64 ((B : Int) + 1)) N0 (by simp; omega)).trans hN3
                have hb4 := hb3.setCell (p := ⟨Hb, i, none⟩) hHb (.int .i64 ((B : Int) + 1))
                rw [hz] at hr4'
                clear hz HZZ HTI3
                go_wp2_with fail
                go_meet
                exact ⟨rfl, hr4, hr4', hN4, hb4⟩
              · have hz : B = Z := by rw [HZZ.out, if_neg h41]; rfl
                rw [hz] at hr3'
                clear hz HZZ HTI3
                go_wp2_with fail
                go_meet
                exact ⟨rfl, hr3, hr3', hN3, hb3⟩
            case rest =>
              obtain ⟨rfl, hr4, hr4', hN4, hb4⟩ := hcut
              clear hr3 hr3' hN3 hb3 c0 c1 c2 c3 c4 HZZ
              have d1 := hr4.cell hlt
              have d2 := hr4'.cell hlt
              rw [show rowN (grow dp i (D + 1)) i = .int .i64 ((D + 1 : Nat) : Int) by simp [rowN, grow]] at d1
              rw [show rowN (grow bl i Z) i = .int .i64 (Z : Int) by simp [rowN, grow]] at d2
              obtain ⟨c0, c1, c2, c3, c4⟩ := box5 (w := wc) hN4
              obtain ⟨E, hE⟩ : ∃ E, E = D + 1 := ⟨_, rfl⟩
              rw [← hE] at d1 hr4
              have hti := HTI3.out
              rw [← hE] at hti
              by_cases hz40 : 40 < Z
              · rw [if_pos (Or.inl hz40)] at hti
                have HF := Lib.hid hti
                have hz40' : (40 : Int) < (Z : Int) := by omega
                clear hti HTI3 hE
                go_wp2_with fail
                go_ret
                exact ⟨ret_bool HF.out.symm, hb4⟩
              · have hz40' : ¬ (40 : Int) < (Z : Int) := by omega
                have hnext : ∀ {w' : World}, Below wc.heap.size wc w' → w'.rowIs Hd 3 n (rowN fun q => if q = i then E else dp q) ∧ w'.rowIs Hb 3 n (rowN fun q => if q = i then Z else bl q) ∧ Below w.heap.size w w' := fun {w'} h =>
                  ⟨hr4.of_block (h.block _ hr4.lt), hr4'.of_block (h.block _ hr4'.lt), hb4.trans (h.mono hb4.size)⟩
                have HLE2 : Hid (∀ q, (fun q => if q = i then E else dp q) q ≤ i + 1 ∧ (fun q => if q = i then Z else bl q) q ≤ i + 1) := fun q => by
                  have := HLE.out q
                  show (if q = i then E else dp q) ≤ i + 1 ∧ (if q = i then Z else bl q) ≤ i + 1
                  split <;> constructor <;> omega
                have HZ2 : Hid (∀ q, i + 1 ≤ q → (fun q => if q = i then E else dp q) q = 0 ∧ (fun q => if q = i then Z else bl q) q = 0) := fun q hq => by
                  have := HZ.out q (by omega)
                  show (if q = i then E else dp q) = 0 ∧ (if q = i then Z else bl q) = 0
                  rw [if_neg (by omega), if_neg (by omega)]
                  exact this
                by_cases he40 : 40 < E
                · have he40' : (40 : Int) < (E : Int) := by omega
                  cases hex : isExpr x0 with
                  | true =>
                    rw [if_pos (Or.inr ⟨he40, hex⟩)] at hti
                    have HF := Lib.hid hti
                    have hcall : ∀ tv, Calls Tryz.prog 55 #[tv, .agg #[.int .i64 x0, .int .i64 x1, .string ⟨x2.toArray⟩, .int .i64 x3, .slice pk j ck]] wc fun e w' => e = .returned (.bool true) ∧ Below wc.heap.size wc w' := fun tv => by
                      have := exprV_any tv x0 x1 x2 x3 pk j ck wc
                      rwa [hex] at this
                    clear hti HTI3 hE HLE2 HZ2 hex
                    go_wp2_with (go_at_call 55; refine (hcall _).mono ?_; rintro e w' ⟨rfl, hbx⟩)
                    go_ret
                    exact ⟨ret_bool HF.out.symm, hb4.trans (hbx.mono hb4.size)⟩
                  | false =>
                    rw [if_neg (by rintro (h | ⟨_, h⟩); exact hz40 h; rw [hex] at h; cases h)] at hti
                    have HT4 := Lib.hid hti
                    have hcall : ∀ tv, Calls Tryz.prog 55 #[tv, .agg #[.int .i64 x0, .int .i64 x1, .string ⟨x2.toArray⟩, .int .i64 x3, .slice pk j ck]] wc fun e w' => e = .returned (.bool false) ∧ Below wc.heap.size wc w' := fun tv => by
                      have := exprV_any tv x0 x1 x2 x3 pk j ck wc
                      rwa [hex] at this
                    clear hti HTI3 hE hex
                    go_wp2_with (go_at_call 55; refine (hcall _).mono ?_; rintro e w' ⟨rfl, hbx⟩)
                    exact ⟨⟨i + 1, _, _, by go_num, by omega, (hnext hbx).1, (hnext hbx).2.1, (hnext hbx).2.2, HLE2, HZ2, HT4⟩, by simp [intOf]; omega⟩
                · have he40' : ¬ (40 : Int) < (E : Int) := by omega
                  rw [if_neg (by rintro (h | ⟨h, _⟩); exact hz40 h; exact he40 h)] at hti
                  have HT4 := Lib.hid hti
                  have hn := hnext (Below.refl _ wc)
                  clear hti HTI3 hE
                  go_wp2_with fail
                  exact ⟨⟨i + 1, _, _, by go_num, by omega, hn.1, hn.2.1, hn.2.2, HLE2, HZ2, HT4⟩, by simp [intOf]; omega⟩
      · obtain rfl : i = n := by omega
        have HF : Hid (shallow l = true) := by
          show _ = _
          rw [HT.out, HN.out, List.drop_length]
          rfl
        clear HT HN FA HKS HKID HLE HZ
        go_wp2_with fail
        go_ret
        exact ⟨ret_bool HF.out.symm, hbel⟩
end Go.Proofs.YtkmmcphiijolkaaGreatDoor

set_option linter.unusedVariables false
set_option linter.unusedSimpArgs false
namespace Go.Proofs.YtkmmcphiijolkaaGreatDoor
open Go.RowKit Go.Shelf
open Tr
attribute [local go_sem] Oper.semAt_some

/-- An iterator of numbers, from w on: it tells a row of which Sd speaks, whatever rounds turn from w on. -/
def IterR (F : Fence) (gf : Nat) (lb : Array Value) (S Sd : List Nat → Prop) (w : World) : Prop :=
  ∀ (n : Nat) (Wc : World) (R : World → Nat → Prop), Below w.heap.size w Wc → Dyn R Wc.heap.size → (∀ A k, R A k → w.heap.size ≤ k) → GivesR F n Tryz.prog gf lb (fun x : Nat => #[.int .i64 (x : Int)]) S Sd R Wc
/-- The row in a box, and the box. -/
def RowBox (B : Nat) (A : World) (k : Nat) : Prop := k = B ∨ (B ≤ k ∧ ∃ o n c, A.cell? ⟨B, 0, none⟩ = some (.slice (some ⟨k, o, none⟩) n c))
theorem RowBox.dyn {B C : Nat} (h : B < C) : Dyn (RowBox B) C := fun A A' hb k hk => by
  rcases hk with hk | ⟨h1, o, n, c, hk⟩
  · exact Or.inl hk
  · exact Or.inr ⟨h1, o, n, c, (hb.cell (p := ⟨B, 0, none⟩) h).symm.trans hk⟩
/-- What came so far, in the box's row. -/
def Came (B : Nat) (q : List Nat) (A : World) : Prop := ∃ v, Boxed A B 24 v ∧ A.ownsRow B 3 1 v q.length (q.map fun x : Nat => .int .i64 (x : Int))
theorem Came.lt {B : Nat} {q : List Nat} {A : World} (h : Came B q A) {k : Nat} (hk : RowBox B A k) : k < A.heap.size := by
  obtain ⟨v, hb, hr⟩ := h
  rcases hk with rfl | ⟨h1, o, n, c, hk⟩
  · exact hb.lt
  · rw [hb.cell] at hk
    injection hk with hk
    subst hk
    exact (hr.lt k rfl).2
theorem Came.step {B C : Nat} {q : List Nat} {A A' : World} (h : Came B q A) (hs : Stp (RowBox B) C A A') : Came B q A' := by
  obtain ⟨v, hb, hr⟩ := h
  have h1 : A'.heap[B]? = A.heap[B]? := hs.k B hb.lt (Or.inl rfl)
  refine ⟨v, h1.trans hb, hr.1, ?_⟩
  rcases hr.2 with h2 | ⟨g, cap, cur, rfl, hg, hgb, r⟩
  · exact Or.inl h2
  · exact Or.inr ⟨g, cap, cur, rfl, hg, (hs.k g (Array.getElem?_eq_some_iff.1 hgb).1 (Or.inr ⟨hg, 0, _, _, hb.cell⟩)).trans hgb, r⟩

set_option maxHeartbeats 8000000 in
theorem AppendSeq_in (F : Fence) (hf : Fen F) (n : Nat) (w : World) (gf : Nat) (lb : Array Value) (hgf : F.fn gf) (eg : ∀ args w, (callFunc gf args).run Tryz.prog w = .ok (.enter gf args) w) (S Sd : List Nat → Prop) (hS : ∀ q, S q → q.length ≤ 1000000) (hit : IterR F gf lb S Sd w) :
    CallsIn F n Tryz.prog 86 #[.slice none 0 0, .func (.func gf) #[] lb] w fun e w' => ∃ v xs, Sd xs ∧ e = .returned v ∧ w'.ownsRow w.heap.size 3 1 v xs.length (xs.map fun x : Nat => .int .i64 (x : Int)) ∧ Below w.heap.size w w' := by
  have hd := hf.d
  have hro := hf.r
  obtain ⟨i0, hi, hz0, hz1, hz2⟩ := info_parts infoInt
  obtain ⟨W, hW⟩ : ∃ W, W = w.alloc (.cells #[.slice none 0 0] 24) := ⟨_, rfl⟩
  have hsW : W.heap.size = w.heap.size + 1 := by rw [hW]; simp
  have hbW : Below w.heap.size w W := by rw [hW]; exact (Below.refl _ _).alloc (Nat.le_refl _) _
  have hbox : Boxed W w.heap.size 24 (.slice none 0 0) := by rw [hW]; exact Boxed.new _ _ _
  have hg := hit (n - 1) W (RowBox w.heap.size) hbW (RowBox.dyn (by omega)) (fun A k hk => by rcases hk with rfl | ⟨h, _⟩; exact Nat.le_refl _; exact h)
  have HW := Lib.hid hW
  clear hit hW
  refine callsIn_of_wp_marks Tryz.func86 rfl hf.ap ?_ hro
  simp only [Tryz.ntmps86, List.size_toArray, List.length_cons, List.length_nil, Nat.reduceAdd, Nat.reduceSub, Array.replicate_succ, Array.replicate_zero, List.push_toArray, List.append_toArray, List.nil_append, List.cons_append]
  gi_wp2
  rw [← HW.out]
  refine wpIn_rangeFunc_R hro (depthless hd _) (gf := gf) (lb := lb) rfl hgf eg (R := RowBox w.heap.size) (RowBox.dyn (by omega)) hg (fun _ => rfl)
    (fun q A => Came w.heap.size q A ∧ q.length ≤ 1000000) (fun c q A => False) (fun q A h _ k hk => h.1.lt hk) (fun q A B h hs _ => ⟨h.1.step hs, h.2⟩) (fun c q A B h _ _ => h)
    ⟨⟨_, hbox, World.ownsRow_nil _ _ _ _⟩, Nat.zero_le _⟩
    (fun x => { tmps := #[.slice none 0 0, .func (.func gf) #[] lb, .pointer (some ⟨w.heap.size, 0, none⟩), undef, .slice none 0 0, .int .i64 (x : Int), .func (.func gf) #[] lb, .int .i64 (x : Int), undef, undef, undef, undef, undef], defers := [] })
    ?assign ?body ?done ?stop
  case assign =>
    intro l x W K hK
    gi_wp2
    exact hK
  case body =>
    rintro l2 q k A ⟨⟨v, hb, hr⟩, hlq⟩ hSq hsz
    have hlen := hS _ hSq
    rw [List.length_append, List.length_singleton] at hlen
    have hc := hb.cell
    have hBA : w.heap.size ≤ A.heap.size := by omega
    gi_wp2_with (gi_at_builtin; refine wpListIn_append_own_at _ rfl _ _ 24 rfl w.heap.size 3 i0 (.int .i64 0) 1 8 Tryz.underlying24 hi hz0 hz1 hz2 rfl (by decide) _ _ _ rfl (hr.alloc _) ⟨A.heap.size, 0, none⟩ 1 1 [.int .i64 (k : Int)] rfl rfl (cell_one_new _ _ _) (by simp [Value.oneCell']) (by unfold maxLen; omega) (by omega) (by simp; omega) ?_; intro v' w1 hown' hgrow _ hloc; obtain ⟨g', cap', rfl⟩ := ownsRow_succ hown'; obtain ⟨hv1, hv2, hr2, hk2, hb2⟩ := hb.appended (by decide) hr hBA (Nat.le_refl _) hown' hgrow; have hc1 := hv1.cell; have hf1 := hv1.frozen)
    have hgr : (A.alloc (.cells #[.int .i64 (k : Int)] 3)).grownBy w1 v.ownBlock := hgrow
    have hl2 : some g' = v.ownBlock ∨ some g' = some (A.alloc (.cells #[.int .i64 (k : Int)] 3)).heap.size := hloc
    have hown : ∀ j, v.ownBlock = some j → RowBox w.heap.size A j := fun j hj => by
      refine Or.inr ⟨(hr.lt j hj).1, ?_⟩
      rcases hr.2 with ⟨rfl, _⟩ | ⟨g, cap, cur, rfl, _⟩
      · simp [Value.ownBlock] at hj
      · simp only [Value.ownBlock, Option.some.injEq] at hj
        subst hj
        exact ⟨_, _, _, hc⟩
    refine ⟨⟨hb2.os, hb2.tape, hb2.output, hb2.size, fun j hj hn => ⟨?_, ?_⟩⟩, ⟨⟨_, hv2, by simpa using hr2⟩, by simpa using hlen⟩⟩
    · rw [Below.heap_setCell w1 _ _ j (fun e => hn (Or.inl e)), hgr.block j (by simp; omega) (fun e => hn (hown j e.symm)), Below.heap_alloc A _ j hj]
    · rintro (e | ⟨_, o, n, c, hcell⟩)
      · exact hn (Or.inl e)
      · rw [hv2.cell] at hcell
        injection hcell with hcell
        injection hcell with e1 e2 e3
        injection e1 with e1
        injection e1 with e1
        subst e1
        rcases hl2 with h | h
        · exact hn (hown _ h.symm)
        · simp at h; omega
  case done =>
    rintro q A hSd ⟨hcame, hlq⟩ hcA hK hnD
    obtain ⟨v, hb, hr⟩ := hcame
    have hc := hb.cell
    have hbA : Below w.heap.size w A := hbW.trans (hcA.below (by omega) (fun i hi e => by rcases e with e | ⟨e, _⟩ <;> omega))
    have HR := Lib.hid hr
    have HBA := Lib.hid (hbA.trans (below_putObj A (by omega : w.heap.size ≤ W.heap.size) (.deferred none)))
    clear hg hr hbA hcA hnD hbox
    gi_wp2
    refine ⟨by simp, .inl ⟨_, _, rfl, run_takeDeferred hK, ?_⟩⟩
    exact ⟨_, results_tmp rfl _ _ _, _, _, hSd, rfl, ownsRow_putObj HR.out _ hK rfl, HBA.out⟩
  case stop =>
    rintro c q A h
    exact h.elim

set_option maxHeartbeats 2000000 in
theorem Collect_in (F : Fence) (hf : Fen F) (n : Nat) (w : World) (gf : Nat) (lb : Array Value) (hgf : F.fn gf) (eg : ∀ args w, (callFunc gf args).run Tryz.prog w = .ok (.enter gf args) w) (S Sd : List Nat → Prop) (hS : ∀ q, S q → q.length ≤ 1000000) (hit : IterR F gf lb S Sd w) :
    CallsIn F n Tryz.prog 39 #[.func (.func gf) #[] lb] w fun e w' => ∃ v xs, Sd xs ∧ e = .returned v ∧ w'.ownsRow w.heap.size 3 1 v xs.length (xs.map fun x : Nat => .int .i64 (x : Int)) ∧ Below w.heap.size w w' := by
  have hd := hf.d
  have hro := hf.r
  have hfa := hf.ap
  have hcall := fun m => AppendSeq_in F hf m w gf lb hgf eg S Sd hS hit
  clear hit hS
  refine callsIn_of_wp Tryz.func39 rfl hf.co ?_ hro
  simp only [Tryz.ntmps39, List.size_toArray, List.length_cons, List.length_nil, Nat.reduceAdd, Nat.reduceSub, Array.replicate_succ, Array.replicate_zero, List.push_toArray, List.append_toArray, List.nil_append, List.cons_append]
  gi_wp2_with ((try refine ⟨depthless hd _, ?_⟩); gi_at_call 86; refine (hcall _).mono ?_; clear hcall; rintro e w' ⟨v, xs, hSd, rfl, hr, hb⟩)
  go_ret
  exact ⟨_, _, hSd, rfl, hr, hb⟩
theorem below_iter (F : Fence) (hf : Fen F) (w0 w : World) (tv : Value) (t : List NodeD) (ha : ArgT tv t w0) (hl : t.length ≤ 1000000) (hks : ∀ x ∈ t, x.2.2.2.2.length ≤ maxLen) (node : Int) (b1 b2 : Nat) (hb0 : Below w0.heap.size w0 w) (hb1 : b1 < w.heap.size) (hb2 : b2 < w.heap.size)
    (h1 : w.cell? ⟨b1, 0, none⟩ = some tv) (h2 : w.cell? ⟨b2, 0, none⟩ = some (.int .i64 node)) : IterR F 89 #[.pointer (some ⟨b1, 0, none⟩), .pointer (some ⟨b2, 0, none⟩)] (Few t) (fun xs => xs = belowT t node) w :=
  fun n Wc R hbc hD hR0 => below_gives F hf.d hf.r n hf.b1 hf.b2 hf.k hf.a hf.a1 w0 tv t ha hl hks node b1 b2 R Wc hD (hb0.trans (hbc.mono hb0.size)) (fun A k e => Nat.le_trans hb0.size (hR0 A k e)) (Nat.lt_of_lt_of_le hb1 hbc.size) (Nat.lt_of_lt_of_le hb2 hbc.size)
    (fun e => by have := hR0 _ _ e; omega) ((hbc.cell (p := ⟨b1, 0, none⟩) hb1).trans h1) ((hbc.cell (p := ⟨b2, 0, none⟩) hb2).trans h2)
end Go.Proofs.YtkmmcphiijolkaaGreatDoor

namespace Go.Proofs
open Go.Shelf
def Tryz.lays189_ren : Go.Shelf.Ren := ⟨fun | 189 => 88 | 125 => 109 | 257 => 108 | 128 => 122 | 129 => 123 | 294 => 113 | 295 => 114 | 296 => 115 | 297 => 116 | 298 => 117 | 299 => 118 | 216 => 119 | 300 => 120 | 301 => 121 | 328 => 131 | 329 => 132 | 330 => 133 | 331 => 134 | 332 => 135 | 215 => 136 | 343 => 143 | n => n, fun | 28 => 24 | 3 => 3 | 46 => 120 | 0 => 0 | 51 => 133 | 53 => 122 | 4 => 4 | 183 => 126 | 182 => 125 | 131 => 101 | 5 => 5 | 9 => 9 | 218 => 143 | 222 => 147 | 228 => 152 | 229 => 153 | n => n, fun | n => n⟩
theorem Tryz.lays189 : Go.Proofs.Lays.n189 Tryz.prog Tryz.lays189_ren := {
  mixed := by kernel_rfl
  f125 := Tryz.func109.trans (congrArg some (by kernel_rfl))
  f128 := Tryz.func122.trans (congrArg some (by kernel_rfl))
  f129 := Tryz.func123.trans (congrArg some (by kernel_rfl))
  f189 := Tryz.func88.trans (congrArg some (by kernel_rfl))
  f215 := Tryz.func136.trans (congrArg some (by kernel_rfl))
  f216 := Tryz.func119.trans (congrArg some (by kernel_rfl))
  f257 := Tryz.func108.trans (congrArg some (by kernel_rfl))
  f294 := Tryz.func113.trans (congrArg some (by kernel_rfl))
  f295 := Tryz.func114.trans (congrArg some (by kernel_rfl))
  f296 := Tryz.func115.trans (congrArg some (by kernel_rfl))
  f297 := Tryz.func116.trans (congrArg some (by kernel_rfl))
  f298 := Tryz.func117.trans (congrArg some (by kernel_rfl))
  f299 := Tryz.func118.trans (congrArg some (by kernel_rfl))
  f300 := Tryz.func120.trans (congrArg some (by kernel_rfl))
  f301 := Tryz.func121.trans (congrArg some (by kernel_rfl))
  f328 := Tryz.func131.trans (congrArg some (by kernel_rfl))
  f329 := Tryz.func132.trans (congrArg some (by kernel_rfl))
  f330 := Tryz.func133.trans (congrArg some (by kernel_rfl))
  f331 := Tryz.func134.trans (congrArg some (by kernel_rfl))
  f332 := Tryz.func135.trans (congrArg some (by kernel_rfl))
  f343 := Tryz.func143.trans (congrArg some (by kernel_rfl))
  t0 := Tryz.underlying0
  a0 := Tryz.isAgg0
  z0 := Tryz.sizeOf0
  v0 := Tryz.zeroValue0
  t3 := Tryz.underlying3
  a3 := Tryz.isAgg3
  z3 := Tryz.sizeOf3
  v3 := Tryz.zeroValue3
  t4 := Tryz.underlying4
  a4 := Tryz.isAgg4
  z4 := Tryz.sizeOf4
  v4 := Tryz.zeroValue4
  t5 := Tryz.underlying5
  a5 := Tryz.isAgg5
  z5 := Tryz.sizeOf5
  v5 := Tryz.zeroValue5
  t9 := Tryz.underlying9
  a9 := Tryz.isAgg9
  z9 := Tryz.sizeOf9
  v9 := Tryz.zeroValue9
  t28 := Tryz.underlying24
  a28 := Tryz.isAgg24
  z28 := Tryz.sizeOf24
  v28 := Tryz.zeroValue24
  t46 := Tryz.underlying120
  a46 := Tryz.isAgg120
  z46 := Tryz.sizeOf120
  v46 := Tryz.zeroValue120
  t51 := Tryz.underlying133
  a51 := Tryz.isAgg133
  z51 := Tryz.sizeOf133
  v51 := Tryz.zeroValue133
  t53 := Tryz.underlying122
  a53 := Tryz.isAgg122
  z53 := Tryz.sizeOf122
  v53 := Tryz.zeroValue122
  t131 := Tryz.underlying101
  a131 := Tryz.isAgg101
  z131 := Tryz.sizeOf101
  v131 := Tryz.zeroValue101
  t182 := Tryz.underlying125
  a182 := Tryz.isAgg125
  z182 := Tryz.sizeOf125
  v182 := Tryz.zeroValue125
  t183 := Tryz.underlying126
  a183 := Tryz.isAgg126
  z183 := Tryz.sizeOf126
  v183 := Tryz.zeroValue126
  t218 := Tryz.underlying143
  a218 := Tryz.isAgg143
  z218 := Tryz.sizeOf143
  v218 := Tryz.zeroValue143
  t222 := Tryz.underlying147
  a222 := Tryz.isAgg147
  z222 := Tryz.sizeOf147
  v222 := Tryz.zeroValue147
  t228 := Tryz.underlying152
  a228 := Tryz.isAgg152
  z228 := Tryz.sizeOf152
  v228 := Tryz.zeroValue152
  t229 := Tryz.underlying153
  a229 := Tryz.isAgg153
  z229 := Tryz.sizeOf153
  v229 := Tryz.zeroValue153 }
open Go.Sort Go.RowKit in
theorem Tryz.slices_Sort_int (blk off cap : Nat) (zs : List Int) (w : World) (hH : Holds (Value.int .i64) w blk off zs.toArray) (hblk : blk < w.heap.size) (hsz : zs.length < 4611686018427387904) :
    Calls Tryz.prog 88 #[.slice (some ⟨blk, off, none⟩) zs.length cap] w fun e w' =>
      e = .returned (.tuple #[]) ∧ ∃ n os, w' = grow (putRow (Value.int .i64) (Sort.ahead w n) blk off (zs.mergeSort fun x y => decide (x ≤ y)).toArray) os := Any.slices_Sort_int Tryz.lays189 blk off cap zs w hH hblk hsz
def Tryz.laysNm215_ren : Go.Shelf.Ren := ⟨fun | 15 => 44 | n => n, fun | 22 => 24 | 3 => 3 | 4 => 4 | n => n, fun | n => n⟩
theorem Tryz.laysNm215 : Go.Proofs.Lays2.n15 Tryz.prog Tryz.laysNm215_ren := {
  mixed := by kernel_rfl
  f15 := Tryz.func44.trans (congrArg some (by kernel_rfl))
  t3 := Tryz.underlying3
  a3 := Tryz.isAgg3
  z3 := Tryz.sizeOf3
  v3 := Tryz.zeroValue3
  t4 := Tryz.underlying4
  a4 := Tryz.isAgg4
  z4 := Tryz.sizeOf4
  v4 := Tryz.zeroValue4
  t22 := Tryz.underlying24
  a22 := Tryz.isAgg24
  z22 := Tryz.sizeOf24
  v22 := Tryz.zeroValue24
  i3 := by kernel_rfl }
open Go.RowKit Go.Lib in
/-- slices.Clone at []int: "Clone returns a copy of the slice. The elements are copied using assignment, so this is a shallow clone. The result may have additional unused capacity. The result preserves the nilness of s.": OF A SLICE THAT IS NOT nil IT RETURNS A SLICE THAT IS NOT nil, OF THE SAME ELEMENTS, IN MEMORY OF THE CALL's OWN: in the how-to's words (6f): 'w'.ownsRow B e 1 v' n cells': v' begins at the head of a row among the blocks from B on (B: the heap's size at the call), not frozen, whose first cells are the elements · 'Below B w w'': below B all is as it was. The capacity is whatever the run-time gives. 'zs': what the cells behind the slice's address hold; 'zs.take n': its elements. (LAID: no walk: one application.) -/
theorem Tryz.slices_Clone_int (b off n c : Nat) (zs : List Int) (w : World) (hz : n ≤ zs.length) (hbig : n * 8 ≤ 140737488355328) (hc : ∀ j, j < zs.length → w.cell? ⟨b, off + j, none⟩ = some (.int .i64 (zs.getD j 0))) :
    Calls Tryz.prog 44 #[.slice (some ⟨b, off, none⟩) n c] w fun e w' => ∃ v', e = .returned v' ∧ w'.ownsRow w.heap.size 3 1 v' n ((zs.take n).map (Value.int .i64)) ∧ v' ≠ .slice none 0 0 ∧ Below w.heap.size w w' := Any.slices_Clone_int Tryz.laysNm215 b off n c zs w hz hbig hc
open Go.RowKit Go.Lib in
/-- The same at nil: nil comes back; the world is as it was. (LAID: no walk: one application.) -/
theorem Tryz.slices_Clone_int_nil (n c : Nat) (w : World) :
    Calls Tryz.prog 44 #[.slice none n c] w fun e w' => e = .returned (.slice none 0 0) ∧ w' = w := Any.slices_Clone_int_nil Tryz.laysNm215 n c w
open Go.RowKit Go.Lib in
/-- The same at a slice of length 0 that is not nil, WHATEVER ITS ADDRESS (no cell is asked for): a slice that is not nil and owns nothing comes back. (LAID: no walk: one application.) -/
theorem Tryz.slices_Clone_int_zero (a : Addr) (c : Nat) (w : World) :
    Calls Tryz.prog 44 #[.slice (some a) 0 c] w fun e w' => ∃ v', e = .returned v' ∧ w'.ownsRow w.heap.size 3 1 v' 0 [] ∧ v' ≠ .slice none 0 0 ∧ Below w.heap.size w w' := Any.slices_Clone_int_zero Tryz.laysNm215 a c w
def Tryz.laysNm237_ren : Go.Shelf.Ren := ⟨fun | 37 => 136 | n => n, fun | 3 => 3 | 4 => 4 | n => n, fun | n => n⟩
theorem Tryz.laysNm237 : Go.Proofs.Lays2.n37 Tryz.prog Tryz.laysNm237_ren := {
  mixed := by kernel_rfl
  f37 := Tryz.func136.trans (congrArg some (by kernel_rfl))
  t3 := Tryz.underlying3
  a3 := Tryz.isAgg3
  z3 := Tryz.sizeOf3
  v3 := Tryz.zeroValue3
  t4 := Tryz.underlying4
  a4 := Tryz.isAgg4
  z4 := Tryz.sizeOf4
  v4 := Tryz.zeroValue4 }
open Go.RowKit Go.Sort in
/-- .. and plain. (LAID: no walk: one application.) -/
theorem Tryz.slices_Sort_int_none (p : Option Addr) (cap : Nat) (w : World) :
    Calls Tryz.prog 88 #[.slice p 0 cap] w fun e w' => e = .returned (.tuple #[]) ∧ w' = w := Any.slices_Sort_int_none Tryz.lays189 p cap w
def Tryz.laysSlE041_f44_ren : Go.Shelf.Ren := ⟨fun | 41 => 44 | n => n, fun | 22 => 24 | 23 => 3 | 4 => 4 | n => n, fun | n => n⟩
theorem Tryz.laysSlE041_f44 : Go.Proofs.SlLaysE0.n41 Tryz.prog Tryz.laysSlE041_f44_ren := {
  mixed := by kernel_rfl
  f41 := ⟨Tryz.f44.name, by decide, Tryz.func44.trans (congrArg some (by kernel_rfl))⟩
  t4 := Tryz.underlying4
  a4 := Tryz.isAgg4
  z4 := Tryz.sizeOf4
  v4 := Tryz.zeroValue4
  t22 := Tryz.underlying24
  a22 := Tryz.isAgg24
  z22 := Tryz.sizeOf24
  v22 := Tryz.zeroValue24 }
open Go.RowKit Go.Lib in
/-- slices.Clone: "Clone returns a copy of the slice. The elements are copied using assignment, so this is a shallow clone. The result may have additional unused capacity. The result preserves the nilness of s.": OF A SLICE THAT IS NOT nil IT RETURNS A SLICE THAT IS NOT nil, OF THE SAME CELLS, IN MEMORY OF THE CALL's OWN ('ownsRow': the how-to's 6f); below the heap's size at the call all is as it was. (LAID AT THE INSTANCE 'slices.Clone[[]int,int]': no walk: one application.) -/
theorem Tryz.slices_Clone (i0 : TypeInfo) (z : Value) (size bytes : Nat) (hi : Tryz.prog.info? 3 = some i0) (hz0 : i0.zero = some z) (hz1 : i0.size = size) (hz2 : i0.bytes = bytes) (hzs : z.cells.size = size) (hsz : 0 < size) (z23 : ∀ w, (Go.sizeOf 3).run Tryz.prog w = .ok size w) (b off n c : Nat) (news : List Value) (w : World) (hl : news.length = n * size) (hn : n ≤ maxLen) (hbig : n * bytes ≤ 140737488355328) (hc : ∀ j u, news[j]? = some u → w.cell? ⟨b, off + j, none⟩ = some u) (h1 : ∀ u ∈ news, u.oneCell' = true) :
    Calls Tryz.prog 44 #[.slice (some ⟨b, off, none⟩) n c] w fun e w' => ∃ v', e = .returned v' ∧ w'.ownsRow w.heap.size 3 size v' n news ∧ v' ≠ .slice none 0 0 ∧ Below w.heap.size w w' := AnyE.slices_Clone Tryz.laysSlE041_f44 i0 z size bytes hi hz0 hz1 hz2 hzs hsz z23 b off n c news w hl hn hbig hc h1
open Go.RowKit Go.Lib in
/-- The same at nil: nil comes back; the world is as it was; nothing is asked of the element's type. (LAID AT THE INSTANCE 'slices.Clone[[]int,int]': no walk: one application.) -/
theorem Tryz.slices_Clone_nil (n c : Nat) (w : World) :
    Calls Tryz.prog 44 #[.slice none n c] w fun e w' => e = .returned (.slice none 0 0) ∧ w' = w := AnyE.slices_Clone_nil Tryz.laysSlE041_f44 n c w

end Go.Proofs

set_option linter.unusedVariables false
set_option linter.unusedSimpArgs false
namespace Go.Proofs.YtkmmcphiijolkaaGreatDoor
open Go.RowKit Go.Shelf
open Tr

namespace Tr
/-- The numbers of the kids of node y. -/
def kidN (t : List NodeD) (y : Nat) : List Nat := kidsOf y (nodeAt t (y : Int)).2.2.2.2
theorem kidN_lt (t : List NodeD) (y : Nat) : ∀ k ∈ kidN t y, k < y := kidsOf_lt y _
theorem fold_closed (t : List NodeD) (f : Nat) (ih : ∀ (pre : List Nat) (i : Nat), i < f → (∀ y ∈ pre, y ∈ goT t f pre i) ∧ i ∈ goT t f pre i ∧ ∀ y ∈ goT t f pre i, y ∉ pre → ∀ k ∈ kidN t y, k ∈ goT t f pre i) :
    ∀ (ks q : List Nat), (∀ k ∈ ks, k < f) → (∀ y ∈ q, y ∈ ks.foldl (goT t f) q) ∧ (∀ k ∈ ks, k ∈ ks.foldl (goT t f) q) ∧ ∀ y ∈ ks.foldl (goT t f) q, y ∉ q → ∀ k ∈ kidN t y, k ∈ ks.foldl (goT t f) q
  | [], q, _ => ⟨fun y hy => hy, (fun k hk => by cases hk), fun y hy hn => absurd hy hn⟩
  | k :: ks, q, hk => by
    obtain ⟨a1, a2, a3⟩ := ih q k (hk k (by simp))
    obtain ⟨b1, b2, b3⟩ := fold_closed t f ih ks (goT t f q k) (fun x hx => hk x (by simp [hx]))
    simp only [List.foldl_cons]
    refine ⟨fun y hy => b1 y (a1 y hy), fun x hx => ?_, fun y hy hn x hx => ?_⟩
    · rcases List.mem_cons.1 hx with rfl | hx
      · exact b1 _ a2
      · exact b2 x hx
    · by_cases hq : y ∈ goT t f q k
      · exact b1 _ (a3 y hq hn x hx)
      · exact b3 y hy hq x hx
theorem goT_closed (t : List NodeD) : ∀ (f : Nat) (pre : List Nat) (i : Nat), i < f → (∀ y ∈ pre, y ∈ goT t f pre i) ∧ i ∈ goT t f pre i ∧ ∀ y ∈ goT t f pre i, y ∉ pre → ∀ k ∈ kidN t y, k ∈ goT t f pre i
  | 0, pre, i, h => absurd h (by omega)
  | f + 1, pre, i, h => by
    rw [goT]
    by_cases hp : i ∈ pre
    · rw [if_pos hp]
      exact ⟨fun y hy => hy, hp, fun y hy hn => absurd hy hn⟩
    · rw [if_neg hp]
      obtain ⟨b1, b2, b3⟩ := fold_closed t f (goT_closed t f) (kidsOf i (nodeAt t (i : Int)).2.2.2.2) (pre ++ [i]) (fun k hk => by have := kidsOf_lt i _ k hk; omega)
      refine ⟨fun y hy => b1 y (by simp [hy]), b1 i (by simp), fun y hy hn x hx => ?_⟩
      by_cases hy2 : y = i
      · subst hy2
        exact b2 x hx
      · exact b3 y hy (by simp [hn, hy2]) x hx
theorem below_closed (t : List NodeD) (node : Int) : ∀ y ∈ belowT t node, ∀ k ∈ kidN t y, k ∈ belowT t node := by
  unfold belowT
  split
  · intro y hy
    exact (goT_closed t t.length [] node.toNat (by omega)).2.2 y hy (by simp)
  · intro y hy; cases hy
theorem below_self (t : List NodeD) (node : Int) (h : 0 ≤ node ∧ node < (t.length : Int)) : node.toNat ∈ belowT t node := by
  unfold belowT
  rw [if_pos h]
  exact (goT_closed t t.length [] node.toNat (by omega)).2.1
theorem below_lt (t : List NodeD) (node : Int) : ∀ y ∈ belowT t node, y < t.length := by
  unfold belowT
  split
  · rename_i h
    exact (goT_few t.length [] node.toNat ⟨List.nodup_nil, fun y hy => by cases hy⟩ (by omega)).2
  · intro y hy; cases hy
theorem below_few (t : List NodeD) (node : Int) : Few t (belowT t node) := by
  unfold belowT
  split
  · rename_i h
    exact goT_few t.length [] node.toNat ⟨List.nodup_nil, fun y hy => by cases hy⟩ (by omega)
  · exact ⟨List.nodup_nil, fun y hy => by cases hy⟩
/-- How deep a node is. -/
def depN (t : List NodeD) : Nat → Nat → Nat
  | 0, _ => 0
  | f + 1, i => (kidN t i).foldl (fun a k => max a (depN t f k)) 0 + 1
def depF (t : List NodeD) (i : Nat) : Nat := depN t (i + 1) i
theorem foldl_congr_mem {α : Type} (g h : α → Nat → α) : ∀ (l : List Nat) (a : α), (∀ a, ∀ k ∈ l, g a k = h a k) → l.foldl g a = l.foldl h a
  | [], a, _ => rfl
  | k :: l, a, hh => by
    simp only [List.foldl_cons]
    rw [hh a k (by simp)]
    exact foldl_congr_mem g h l _ (fun a x hx => hh a x (by simp [hx]))
theorem depN_any (t : List NodeD) : ∀ (f g i : Nat), i < f → i < g → depN t f i = depN t g i
  | 0, g, i, h, _ => absurd h (by omega)
  | f + 1, 0, i, _, h => absurd h (by omega)
  | f + 1, g + 1, i, hf, hg => by
    rw [depN, depN]
    congr 1
    exact foldl_congr_mem _ _ _ _ (fun a k hk => by
      have := kidN_lt t i k hk
      have h1 : k < f := by omega
      have h2 : k < g := by omega
      rw [depN_any t f g k h1 h2])
theorem depF_eq (t : List NodeD) (i : Nat) : depF t i = (kidN t i).foldl (fun a k => max a (depF t k)) 0 + 1 := by
  show depN t (i + 1) i = _
  rw [depN]
  congr 1
  exact foldl_congr_mem _ _ _ _ (fun a k hk => by
    have := kidN_lt t i k hk
    unfold depF
    rw [depN_any t i (k + 1) k this (by omega)])
theorem fold_max_le (f : Nat → Nat) (b : Nat) : ∀ (l : List Nat) (a : Nat), a ≤ b → (∀ k ∈ l, f k ≤ b) → l.foldl (fun a k => max a (f k)) a ≤ b
  | [], a, h, _ => h
  | k :: l, a, h, hl => fold_max_le f b l _ (by have := hl k (by simp); show max a (f k) ≤ b; omega) (fun x hx => hl x (by simp [hx]))
theorem depF_le (t : List NodeD) (i : Nat) : depF t i ≤ i + 1 := by
  induction i using Nat.strongRecOn with
  | _ i ih =>
    rw [depF_eq]
    have := fold_max_le (depF t) i (kidN t i) 0 (Nat.zero_le _) (fun k hk => by
      have h1 := kidN_lt t i k hk
      have h2 := ih k h1
      omega)
    omega
def depthT (t : List NodeD) (node : Int) : Nat := if 0 ≤ node ∧ node < (t.length : Int) then depF t node.toNat else 0
end Tr

theorem sorted_nats (xs : List Nat) : ∃ ys : List Nat, ((xs.map fun x : Nat => (x : Int)).mergeSort fun x y => decide (x ≤ y)) = ys.map (fun x : Nat => (x : Int)) ∧ ys.Perm xs ∧ ys.Pairwise (· ≤ ·) := by
  obtain ⟨zs, hzs⟩ : ∃ zs, zs = ((xs.map fun x : Nat => (x : Int)).mergeSort fun x y => decide (x ≤ y)) := ⟨_, rfl⟩
  have hp : zs.Perm (xs.map fun x : Nat => (x : Int)) := by rw [hzs]; exact List.mergeSort_perm _ _
  have hs : zs.Pairwise (fun x y => (decide (x ≤ y)) = true) := by
    rw [hzs]
    exact List.pairwise_mergeSort (fun a b c h1 h2 => by simp at h1 h2 ⊢; omega) (fun a b => by simp; omega) _
  have hn : ∀ z ∈ zs, 0 ≤ z := fun z hz => by
    have := hp.subset hz
    simp at this
    obtain ⟨a, _, rfl⟩ := this
    omega
  have he : zs = (zs.map Int.toNat).map (fun x : Nat => (x : Int)) := by
    rw [List.map_map]
    conv => lhs; rw [← List.map_id zs]
    exact List.map_congr_left (fun z hz => by have := hn z hz; simp; omega)
  refine ⟨zs.map Int.toNat, by rw [← hzs]; exact he, ?_, ?_⟩
  · have := hp.map Int.toNat
    rw [List.map_map] at this
    have e : (Int.toNat ∘ fun x : Nat => (x : Int)) = id := by funext x; simp
    rwa [e, List.map_id] at this
  · rw [List.pairwise_map]
    exact hs.imp (fun h => by simp at h; omega)

theorem Sort_own (base : Nat) (v : Value) (xs : List Nat) (w : World) (h : w.ownsRow base 3 1 v xs.length (xs.map fun x : Nat => .int .i64 (x : Int))) (hl : xs.length ≤ 1000000) (hb : base ≤ w.heap.size) :
    Calls Tryz.prog 88 #[v] w fun e w' => e = .returned (.tuple #[]) ∧ ∃ ys : List Nat, ys.Perm xs ∧ ys.Pairwise (· ≤ ·) ∧ w'.ownsRow base 3 1 v ys.length (ys.map fun x : Nat => .int .i64 (x : Int)) ∧ Below base w w' := by
  have h0 := h
  rcases h.2 with ⟨rfl, hn⟩ | ⟨g, cap, cur, rfl, hg, hgb, hnc, hcm, hcs, htk⟩
  · have hx : xs = [] := by cases xs with
      | nil => rfl
      | cons a l => simp at hn
    subst hx
    exact (Tryz.slices_Sort_int_none none 0 w).mono fun e w' ⟨he, hw⟩ => ⟨he, [], List.Perm.refl _, List.Pairwise.nil, by rw [hw]; exact h0, by rw [hw]; exact Below.refl _ _⟩
  · obtain ⟨ys, hys, hp, hpw⟩ := sorted_nats xs
    have htk2 : cur.toList.take (xs.map fun x : Nat => (x : Int)).length = (xs.map fun x : Nat => (x : Int)).map (Value.int .i64) := by
      rw [List.length_map, List.map_map]
      rw [Nat.mul_one] at htk
      exact htk
    have hS := Tryz.slices_Sort_int g 0 cap (xs.map fun x : Nat => (x : Int)) w (holds_of_blockI hgb htk2) (Array.getElem?_eq_some_iff.1 hgb).1 (by rw [List.length_map]; omega)
    rw [List.length_map] at hS
    refine hS.mono fun e w' ⟨he, n, os, hw⟩ => ⟨he, ys, hp, hpw, ?_, ?_⟩
    · rw [hw, hys]
      have := ownsRow_sortedI (w := w) (base := base) (g := g) (cap := cap) (n := n) (e := 3) (os := os) (cur := cur) (ss := xs.map fun x : Nat => (x : Int)) (ts := ys.map fun x : Nat => (x : Int)) (by simp [hp.length_eq]) hg hgb (by simpa using hnc) hcm hcs
      rw [List.length_map, List.map_map] at this
      rw [hp.length_eq]
      exact this
    · rw [hw]
      exact (Below.refl base w).grown (grownBy_sortedI _) hb (fun k e => by cases e; exact hg)

set_option maxHeartbeats 2000000 in
theorem Sorted_any (w : World) (gf : Nat) (lb : Array Value) (eg : ∀ args w, (callFunc gf args).run Tryz.prog w = .ok (.enter gf args) w) (S Sd : List Nat → Prop) (hS : ∀ q, S q → q.length ≤ 1000000) (hSd : ∀ q, Sd q → q.length ≤ 1000000) (hit : IterR Fence.wide gf lb S Sd w) :
    Calls Tryz.prog 42 #[.func (.func gf) #[] lb] w fun e w' => ∃ (v : Value) (xs ys : List Nat), Sd xs ∧ ys.Perm xs ∧ ys.Pairwise (· ≤ ·) ∧ e = .returned v ∧ w'.ownsRow w.heap.size 3 1 v ys.length (ys.map fun x : Nat => .int .i64 (x : Int)) ∧ Below w.heap.size w w' := by
  have hcol := callsIn_wide.1 (Collect_in Fence.wide fen_wide 3 w gf lb trivial eg S Sd hS hit)
  clear hit hS
  have HSD := Lib.hid hSd
  clear hSd
  go_enter Tryz.func42, Tryz.ntmps42
  go_wp2_with (first | (go_at_call 39; refine hcol.mono ?_; clear hcol; rintro e w1 ⟨v, xs, hx, rfl, hown, hb1⟩; have hsort := Sort_own w.heap.size v xs w1 hown (HSD.out xs hx) hb1.size; have HX := Lib.hid hx; have HB := Lib.hid hb1; clear hown hx hb1) | (go_at_call 88; refine hsort.mono ?_; clear hsort; rintro e w2 ⟨rfl, ys, hp, hpw, hr, hb2⟩))
  go_ret
  exact ⟨_, xs, ys, HX.out, hp, hpw, rfl, hr, HB.out.trans hb2⟩
end Go.Proofs.YtkmmcphiijolkaaGreatDoor

set_option linter.unusedVariables false
set_option linter.unusedSimpArgs false
namespace Go.Proofs.YtkmmcphiijolkaaGreatDoor
open Go.RowKit Go.Shelf

/-- What was there is as it was, but for blocks of p. -/
abbrev But (p : Nat → Prop) (w w' : World) : Prop := Chg (fun _ k => p k) w w'
theorem dynC (p : Nat → Prop) : Dyn (fun _ k => p k) 0 := Dyn.const p 0
theorem But.more {p q : Nat → Prop} {a b : World} (h : But p a b) (hr : ∀ i, i < a.heap.size → p i → q i) : But q a b :=
  h.mono (fun i hi e => hr i hi e) (fun i hi e => Or.inr e)
theorem But.of_below {p : Nat → Prop} {a w w' : World} (h : But p a w) {B : Nat} (hb : Below B w w') (hB : a.heap.size ≤ B) : But p a w' := Chg.of_below h (dynC p) hb hB (Nat.zero_le _)
theorem But.setCell {p : Nat → Prop} {a w : World} (h : But p a w) {x : Addr} (hp : x.block < a.heap.size → p x.block) (u : Value) : But p a (w.setCell x u) := Chg.setCell h (dynC p) (Nat.zero_le _) (Nat.zero_le _) hp u
theorem But.putObj {p : Nat → Prop} {a w : World} (h : But p a w) {l : Nat} (hp : l < a.heap.size → p l) (o : Obj) : But p a (w.putObj l o) := Chg.putObj h (dynC p) (Nat.zero_le _) (Nat.zero_le _) hp o

def roundPostS {α : Type} (R : Nat → Prop) (I : List α → World → Prop) (Ix : Code → List α → World → Prop) (xs : List α) (W : World) : Exit → Act → World → Prop
  | .normal, _, W' => But R W W' ∧ I xs W'
  | .ret, _, W' => But R W W' ∧ Ix .ret xs W'
  | .exit id, _, W' => But R W W' ∧ Ix (.exit id) xs W'
  | .goto t, _, W' => But R W W' ∧ Ix (.goto t) xs W'
  | .panic _, _, _ => False
  | .outgrown, _, _ => False

/-- What an iterator with boxes of its own owes to rounds: J between two rounds, Jx behind a round that said no. -/
def GivesS {α : Type} (F : Fence) (n : Nat) (P : Program) (g : Nat) (lb : Array Value) (enc : α → Array Value) (S Sd : List α → Prop) (R own : Nat → Prop) (w : World) : Prop :=
  ∀ (l : Nat) (J Jx : List α → World → Prop) (W : World), w.heap.size ≤ l → l < W.heap.size → Below w.heap.size w W →
    (∀ pre A B, J pre A → But own A B → W.heap.size ≤ A.heap.size → J pre B) → (∀ pre A B, Jx pre A → But own A B → W.heap.size ≤ A.heap.size → Jx pre B) →
    (∀ pre x A, J pre A → W.heap.size ≤ A.heap.size → S (pre ++ [x]) → YieldAt F (n - 1) P l (enc x) A fun e B => But (fun k => R k ∨ k = l) A B ∧ ((e = .returned (.bool true) ∧ J (pre ++ [x]) B) ∨ (e = .returned (.bool false) ∧ Jx (pre ++ [x]) B))) →
    J [] W →
    CallsIn F n P g (#[.func (.yield l) #[] #[]] ++ lb) W fun e B => (∃ v, e = .returned v) ∧ W.heap.size ≤ B.heap.size ∧ ((∃ xs, Sd xs ∧ J xs B) ∨ (∃ pre, Jx pre B))

variable {F : Fence} {n : Nat} {P : Program}
theorem wpIn_rangeFunc_S {α : Type} {g : Operand} {ps : Array Tmp} {assign body : Code} {Q : Exit → Act → World → Prop} {a : Act} {w : World}
    (hro : F.round = none) (h1 : F.depth.isSome = true → 1 ≤ n) {gf : Nat} {lb : Array Value} (hg : a.eval g = .func (.func gf) #[] lb) (hFg : F.fn gf) (eg : ∀ args w, (callFunc gf args).run P w = .ok (.enter gf args) w)
    {enc : α → Array Value} {S Sd : List α → Prop} {R own : Nat → Prop} (hR : ∀ k, R k → k < w.heap.size) (hO : ∀ k, own k → k < w.heap.size) (hseq : GivesS F (n - 1) P gf lb enc S Sd R own w) (hps : ∀ x, (enc x).size = ps.size)
    (I : List α → World → Prop) (Ix : Code → List α → World → Prop)
    (hI : ∀ pre A B, I pre A → But (fun k => own k ∨ w.heap.size ≤ k) A B → w.heap.size ≤ A.heap.size → I pre B) (hIx : ∀ c pre A B, Ix c pre A → But (fun k => own k ∨ w.heap.size ≤ k) A B → w.heap.size ≤ A.heap.size → Ix c pre B) (h0 : I [] w) (a₁ : α → Act)
    (hassign : ∀ (l : Nat) (x : α) (W : World) (K : Act → World → Prop), K (a₁ x) W →
      assign.wpIn (F.inRound l) (n - 1 - 1) P (Exit.then K (fun _ _ _ => False)) { tmps := (ps.zip (enc x)).foldl (fun t (p, v) => t.setIfInBounds p v) a.tmps, defers := [] } W)
    (hbody : ∀ (l : Nat) (pre : List α) (x : α) (W : World), I pre W → S (pre ++ [x]) → w.heap.size + 2 ≤ W.heap.size → body.wpIn (F.inRound l) (n - 1 - 1) P (roundPostS R I Ix (pre ++ [x]) W) (a₁ x) W)
    (hdone : ∀ (xs : List α) (W : World), Sd xs → I xs W → But (fun k => R k ∨ own k) w W → W.heap[w.heap.size]? = some (.deferred (some [])) → Q .normal { a with defers := { target := .collected w.heap.size, args := #[] } :: a.defers } W)
    (hstop : ∀ (c : Code) (pre : List α) (W : World), Ix c pre W → But (fun k => R k ∨ own k) w W → W.heap[w.heap.size]? = some (.deferred (some [])) → c.wpIn F n P Q { a with defers := { target := .collected w.heap.size, args := #[] } :: a.defers } W) :
    (Code.rangeFunc g ps assign body).wpIn F n P Q a w := by
  refine wpIn_rangeFunc ?_
  intro fn hfn
  rw [hro]
  obtain ⟨rec, hrec⟩ : ∃ rec : LoopState → Option Code → Loop, rec = fun st pe => { state := st, pending := pe, fn, tmps := a.tmps, params := ps, assign, body, defers := w.heap.size } := ⟨_, rfl⟩
  obtain ⟨W1, hW1⟩ : ∃ W1, (w.alloc (.deferred (some []))).alloc (.loop (rec .ready none)) = W1 := ⟨_, rfl⟩
  have hs1 : W1.heap.size = w.heap.size + 2 := by rw [← hW1]; simp
  have hL1 : W1.heap[w.heap.size + 1]? = some (.loop (rec .ready none)) := by
    rw [← hW1]; have := World.alloc_heap_new (w.alloc (.deferred (some []))) (.loop (rec .ready none)); rwa [World.size_alloc] at this
  have hK1 : W1.heap[w.heap.size]? = some (.deferred (some [])) := by
    rw [← hW1]; exact (Below.heap_alloc _ _ _ (by simp)).trans (World.alloc_heap_new w _)
  have hb1 : Below w.heap.size w W1 := by
    rw [← hW1]; exact ((Below.refl _ w).alloc (Nat.le_refl _) _).alloc (by simp) _
  have hB1 : But (fun k => R k ∨ own k) w W1 := But.of_below (Chg.refl _ w) hb1 (Nat.le_refl _)
  have hI1 : I [] W1 := hI _ _ _ h0 (But.of_below (Chg.refl _ w) hb1 (Nat.le_refl _)) (Nat.le_refl _)
  have hn0 : ¬ R w.heap.size := fun e => by have := hR _ e; omega
  have hn1 : ¬ R (w.heap.size + 1) := fun e => by have := hR _ e; omega
  have ho0 : ¬ own w.heap.size := fun e => by have := hO _ e; omega
  have ho1 : ¬ own (w.heap.size + 1) := fun e => by have := hO _ e; omega
  refine ⟨w.heap.size + 1, [{ target := .collected w.heap.size, args := #[] }], W1, { target := .fn (.func gf) lb, args := #[.func (.yield (w.heap.size + 1)) #[] #[]] }, W1, gf,
    #[.func (.yield (w.heap.size + 1)) #[] #[]] ++ lb, W1, ?_, ?_, ?_, ?_, h1, ?_⟩
  · rw [← hW1, hrec]; exact run_enterLoop_outer _ _ _ _ _
  · simp only [resolve, hg]
    simp [go_sem]
  · intro f' hf'; simp [Target.leads] at hf'; subst hf'; exact hFg
  · simp [invoke, go_sem, eg]
  · refine (hseq (w.heap.size + 1)
      (fun pre W => I pre W ∧ But (fun k => R k ∨ own k) w W ∧ W.heap[w.heap.size + 1]? = some (.loop (rec .ready none)) ∧ W.heap[w.heap.size]? = some (.deferred (some [])))
      (fun pre W => ∃ c, Ix c pre W ∧ But (fun k => R k ∨ own k) w W ∧ W.heap[w.heap.size + 1]? = some (.loop (rec .done (some c))) ∧ W.heap[w.heap.size]? = some (.deferred (some [])))
      W1 (by omega) (by omega) hb1 ?_ ?_ ?_ ⟨hI1, hB1, hL1, hK1⟩).mono ?_
    · rintro pre A B ⟨hi, hc, hl, hk⟩ hST hs
      exact ⟨hI _ _ _ hi (hST.more fun _ _ e => Or.inl e) (by omega), hc.trans (hST.more fun _ _ e => Or.inr e), (hST.both _ (by omega) ho1).1.trans hl, (hST.both _ (by omega) ho0).1.trans hk⟩
    · rintro pre A B ⟨c, hi, hc, hl, hk⟩ hST hs
      exact ⟨c, hIx _ _ _ _ hi (hST.more fun _ _ e => Or.inl e) (by omega), hc.trans (hST.more fun _ _ e => Or.inr e), (hST.both _ (by omega) ho1).1.trans hl, (hST.both _ (by omega) ho0).1.trans hk⟩
    · -- ONE ROUND
      rintro pre x W ⟨hi, hc, hl, hk⟩ hsz hS
      have hlt : w.heap.size + 1 < W.heap.size := by omega
      have hy := run_yield (P := P) (args := enc x) hl (by rw [hrec]; exact hps x)
      rw [hrec] at hy
      refine ⟨fn, _, assign, body, hy, roundIn_of_wpIn hfn (hassign _ x W _ ⟨_, run_beginRound hl (by rw [hrec]), ?_⟩)⟩
      obtain ⟨W2, hW2⟩ : ∃ W2, W2 = W.putObj (w.heap.size + 1) (.loop { rec .ready none with state := .busy }) := ⟨_, rfl⟩
      rw [← hW2]
      have hl2 : W2.heap[w.heap.size + 1]? = some (.loop { rec .ready none with state := .busy }) := by rw [hW2]; exact World.putObj_heap_same hlt
      have hk2 : W2.heap[w.heap.size]? = some (.deferred (some [])) := by rw [hW2]; exact (World.putObj_heap_other (by omega)).trans hk
      have hs2 : W2.heap.size = W.heap.size := by rw [hW2]; exact World.putObj_size
      have hc2 : But (fun k => k = w.heap.size + 1) W W2 := by rw [hW2]; exact But.putObj (p := fun k => k = w.heap.size + 1) (Chg.refl _ W) (fun _ => rfl) _
      have hi2 : I pre W2 := hI _ _ _ hi (hc2.more fun k _ e => Or.inr (by omega)) (by omega)
      have hc3 : But (fun k => R k ∨ own k) w W2 := by rw [hW2]; exact But.putObj hc (fun h => by omega) _
      clear hW2
      refine wpIn_mono (hbody _ pre x _ hi2 hS (by omega)) ?_
      have fin : ∀ (jump : Option Code) (W3 : World), But R W2 W3 → ∃ W4,
          (Instr.endRound (w.heap.size + 1) jump).run P W3 = .ok (.bool jump.isNone) W4 ∧
          W4.heap[w.heap.size + 1]? = some (.loop (rec (if jump.isNone then .ready else .done) jump)) ∧ W4.heap[w.heap.size]? = some (.deferred (some [])) ∧
          But (fun k => R k ∨ k = w.heap.size + 1) W W4 ∧ But (fun k => R k ∨ own k) w W4 ∧ But (fun k => k = w.heap.size + 1) W3 W4 ∧ w.heap.size ≤ W3.heap.size := fun jump W3 hk3 => by
        have hs3 := hk3.size
        rw [hs2] at hs3
        have hl3 := (hk3.both (w.heap.size + 1) (by rw [hs2]; omega) hn1).1
        have hk4 := (hk3.both w.heap.size (by rw [hs2]; omega) hn0).1
        rw [hl2] at hl3
        rw [hk2] at hk4
        have := run_endRound (P := P) jump hl3
        have hb4 := But.putObj (p := fun k => k = w.heap.size + 1) (Chg.refl _ W3) (fun _ => rfl) (.loop (rec (if jump.isNone then .ready else .done) jump)) (l := w.heap.size + 1)
        rw [hrec] at this hb4 ⊢
        exact ⟨_, this, World.putObj_heap_same (by omega), (World.putObj_heap_other (by omega)).trans hk4,
          ((hc2.more fun _ _ e => Or.inr e).trans (hk3.more fun _ _ e => Or.inl e)).trans (hb4.more fun _ _ e => Or.inr e), But.putObj (hc3.trans (hk3.more fun _ _ e => Or.inl e)) (fun h => by omega) _, hb4, by omega⟩
      rintro e a3 W3 hp
      cases e with
      | normal =>
        obtain ⟨hk3, hi3⟩ := hp
        obtain ⟨W4, hr, hl4, hk4, hc4, hc5, hb4, hs4⟩ := fin none W3 hk3
        exact ⟨_, _, hr, hc4, .inl ⟨rfl, hI _ _ _ hi3 (hb4.more fun k _ e => Or.inr (by omega)) hs4, hc5, hl4, hk4⟩⟩
      | ret =>
        obtain ⟨hk3, hi3⟩ := hp
        obtain ⟨W4, hr, hl4, hk4, hc4, hc5, hb4, hs4⟩ := fin (some .ret) W3 hk3
        exact ⟨_, _, hr, hc4, .inr ⟨rfl, .ret, hIx _ _ _ _ hi3 (hb4.more fun k _ e => Or.inr (by omega)) hs4, hc5, hl4, hk4⟩⟩
      | exit id =>
        obtain ⟨hk3, hi3⟩ := hp
        obtain ⟨W4, hr, hl4, hk4, hc4, hc5, hb4, hs4⟩ := fin (some (.exit id)) W3 hk3
        exact ⟨_, _, hr, hc4, .inr ⟨rfl, .exit id, hIx _ _ _ _ hi3 (hb4.more fun k _ e => Or.inr (by omega)) hs4, hc5, hl4, hk4⟩⟩
      | goto t =>
        obtain ⟨hk3, hi3⟩ := hp
        obtain ⟨W4, hr, hl4, hk4, hc4, hc5, hb4, hs4⟩ := fin (some (.goto t)) W3 hk3
        exact ⟨_, _, hr, hc4, .inr ⟨rfl, .goto t, hIx _ _ _ _ hi3 (hb4.more fun k _ e => Or.inr (by omega)) hs4, hc5, hl4, hk4⟩⟩
      | panic ch => exact hp.elim
      | outgrown => exact hp.elim
    · -- BEHIND THE ITERATOR
      rintro e W2 ⟨⟨v, rfl⟩, hch, (⟨xs, hS, hi, hc, hl, hk⟩ | ⟨pre, c, hi, hc, hl, hk⟩)⟩
      · have hsz : w.heap.size + 2 ≤ W2.heap.size := by omega
        exact ⟨none, _, by have := run_endLoop (P := P) hl (by rw [hrec]; simp); rw [hrec] at this; exact this, hdone xs _ hS (hI _ _ _ hi (But.putObj (p := fun k => own k ∨ w.heap.size ≤ k) (Chg.refl _ W2) (fun _ => Or.inr (by omega)) _) (by omega)) (But.putObj hc (fun h => by omega) _) ((World.putObj_heap_other (by omega)).trans hk)⟩
      · have hsz : w.heap.size + 2 ≤ W2.heap.size := by omega
        exact ⟨some c, _, by have := run_endLoop (P := P) hl (by rw [hrec]; simp); rw [hrec] at this; exact this, hstop c pre _ (hIx _ _ _ _ hi (But.putObj (p := fun k => own k ∨ w.heap.size ≤ k) (Chg.refl _ W2) (fun _ => Or.inr (by omega)) _) (by omega)) (But.putObj hc (fun h => by omega) _) ((World.putObj_heap_other (by omega)).trans hk)⟩
end Go.Proofs.YtkmmcphiijolkaaGreatDoor
