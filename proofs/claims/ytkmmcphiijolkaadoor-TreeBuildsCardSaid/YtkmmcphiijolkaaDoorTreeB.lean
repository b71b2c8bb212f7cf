/-
  Whether neither expressions nor blocks of a tree are too deep, at this program.
-/
import Derived.Test.YtkmmcphiijolkaaDoorTreeC
import Derived.Shelf.RegionOpen
import Derived.Deep.DeepCutAuto
set_option linter.unusedVariables false
set_option linter.unusedSimpArgs false
namespace Go.Proofs.YtkmmcphiijolkaaDoor
open Go.RowKit Go.Shelf
open Tr

theorem infoInt : (Tryd.prog.info? 3).map (fun i => (i.zero, i.size, i.bytes)) = some (some (.int .i64 0), 1, 8) := by kernel_rfl
theorem make_ints (n : Nat) (hn : n ≤ 1000000) (w : World) : (Instr.makeSlice 22 (.int .i64 (n : Int)) (.int .i64 (n : Int))).run Tryd.prog w = .ok (.slice (some ⟨w.heap.size, 0, none⟩) n n) (w.alloc (.cells (madeCells #[.int .i64 0] n) 3)) := by
  obtain ⟨i0, hi, hz0, hz1, hz2⟩ := info_parts infoInt
  have h := run_makeSlice (P := Tryd.prog) (w := w) 22 3 i0 _ Tryd.underlying22 hi hz0 .i64 .i64 (n : Int) (n : Int) (by omega) (by omega) (by rw [hz1]; simp; omega) (by rw [hz2]; omega) (by omega)
  rw [hz1] at h
  simp only [Int.toNat_natCast, Nat.mul_one] at h
  exact h
theorem deepest_snoc (f : Nat → Nat) (k : Int) : ∀ (l : List Int) (a : Nat), deepest f a (l ++ [k]) = max (deepest f a l) (f k.toNat)
  | [], a => rfl
  | x :: l, a => deepest_snoc f k l _
theorem deepest_le (f : Nat → Nat) (i : Nat) (hf : ∀ j, f j ≤ i) : ∀ (l : List Int) (a : Nat), a ≤ i → deepest f a l ≤ i
  | [], a, h => h
  | x :: l, a, h => deepest_le f i hf l _ (by have := hf x.toNat; omega)
theorem take_snoc {α : Type} (X : List α) (i : Nat) (x : α) (h : X[i]? = some x) : X.take (i + 1) = X.take i ++ [x] := by
  rw [List.take_add_one, h]; rfl
/-- All Kids of all nodes from number i on are kids. -/
def KidsAt : Nat → List NodeD → Prop
  | _, [] => True
  | i, x :: xs => (∀ k ∈ x.2.2.2.2, 0 ≤ k ∧ k < (i : Int)) ∧ KidsAt (i + 1) xs
theorem KidsAt.get : ∀ {l : List NodeD} {s : Nat}, KidsAt s l → ∀ {i : Nat} {x : NodeD}, l[i]? = some x → ∀ k ∈ x.2.2.2.2, 0 ≤ k ∧ k < ((s + i : Nat) : Int)
  | [], s, h, i, x, hx => by simp at hx
  | y :: l, s, h, 0, x, hx => by
    simp only [List.getElem?_cons_zero, Option.some.injEq] at hx
    subst hx
    exact h.1
  | y :: l, s, h, i + 1, x, hx => by
    simp only [List.getElem?_cons_succ] at hx
    have := KidsAt.get h.2 hx
    rwa [show s + 1 + i = s + (i + 1) by omega] at this

/-- Depths as they stand while those of node i grow. -/
def grow (f : Nat → Nat) (i d : Nat) : Nat → Nat := fun j => if j = i then d else f j
theorem grow_at (f : Nat → Nat) (i d : Nat) : grow f i d i = d := by simp [grow]
theorem grow_ne (f : Nat → Nat) {i d j : Nat} (h : j ≠ i) : grow f i d j = f j := by simp [grow, h]
theorem grow_grow (f : Nat → Nat) (i d e : Nat) : grow (grow f i d) i e = grow f i e := by funext j; by_cases h : j = i <;> simp [grow, h]
def rowN (f : Nat → Nat) : Nat → Value := fun j => .int .i64 ((f j : Nat) : Int)
theorem rowN_grow (f : Nat → Nat) (i d e : Nat) (j : Nat) : (if j = i then Value.int .i64 ((e : Nat) : Int) else rowN (grow f i d) j) = rowN (grow f i e) j := by
  by_cases h : j = i <;> simp [rowN, grow, h]

set_option maxHeartbeats 16000000 in
set_option maxRecDepth 100000 in
theorem shallow_any (v : Value) (l : List NodeD) (w : World) (ha : ArgT v l w) (hl : l.length ≤ 1000000) (hks : ∀ x ∈ l, x.2.2.2.2.length ≤ maxLen) (hkid : KidsAt 0 l) : Calls Tryd.prog 25 #[v] w fun e w' => e = .returned (.bool (shallow l)) ∧ Below w.heap.size w w' := by
  obtain ⟨pa, ca, rfl, fa⟩ := ha
  have FA := Lib.hid fa
  have HKS := Lib.hid hks
  have HKID := Lib.hid hkid
  have hmk := make_ints l.length hl
  obtain ⟨n, hn⟩ : ∃ n, n = l.length := ⟨_, rfl⟩
  rw [← hn] at hmk hl ⊢
  have HN := Lib.hid hn
  clear fa hks hn hkid
  go_enter Tryd.func25, Tryd.ntmps25
  go_upto_region 1 with fail
  go_cut [3, 4] (fun v3 v4 wx => ∃ Hd Hb, v3 = .slice (some ⟨Hd, 0, none⟩) n n ∧ v4 = .slice (some ⟨Hb, 0, none⟩) n n ∧ Hd ≠ Hb ∧ w.heap.size ≤ Hd ∧ w.heap.size ≤ Hb ∧ wx.rowIs Hd 3 n (rowN fun _ => 0) ∧ wx.rowIs Hb 3 n (rowN fun _ => 0) ∧ Below w.heap.size w wx)
  case first =>
    have hr1 := World.rowIs_made w (.int .i64 0) n 3
    have hr2 := World.rowIs_made (w.alloc (.cells (madeCells #[.int .i64 0] n) 3)) (.int .i64 0) n 3
    rw [World.size_alloc] at hr2
    have hb2 := ((Below.refl w.heap.size w).alloc (Nat.le_refl _) (.cells (madeCells #[.int .i64 0] n) 3)).alloc (by simp) (.cells (madeCells #[.int .i64 0] n) 3)
    go_region
    all_goals (try go_wp2_with fail)
    all_goals go_meet
    all_goals first
      | exact ⟨w.heap.size, w.heap.size + 1, rfl, by simp, by omega, by omega, by omega, (hr1.alloc _).drew, hr2.drew, hb2.drew⟩
      | exact ⟨w.heap.size + 1, w.heap.size, by simp, rfl, by omega, by omega, by omega, hr2.drew, (hr1.alloc _).drew, hb2.drew⟩
  case rest =>
    obtain ⟨Hd, Hb, rfl, rfl, hne, hHd, hHb, hrd, hrb, hbel0⟩ := hcut
    go_wp2_with fail
    go_loopw [17] (fun v17 wr => ∃ (i : Nat) (dp bl : Nat → Nat), v17 = .int .i64 (i : Int) ∧ i ≤ n ∧ wr.rowIs Hd 3 n (rowN dp) ∧ wr.rowIs Hb 3 n (rowN bl) ∧ Below w.heap.size w wr ∧ Hid (∀ j, dp j ≤ i ∧ bl j ≤ i) ∧ Hid (∀ j, i ≤ j → dp j = 0 ∧ bl j = 0) ∧ Hid (shallow l = shalGo i dp bl (l.drop i))) (fun v17 _ => n - (intOf v17).toNat)
    case atStart => exact ⟨0, fun _ => 0, fun _ => 0, rfl, Nat.zero_le _, hrd, hrb, hbel0, fun _ => ⟨Nat.le_refl _, Nat.le_refl _⟩, fun _ _ => ⟨rfl, rfl⟩, rfl⟩
    case round =>
      obtain ⟨i, dp, bl, rfl, hi, hrow, hrow', hbel, HLE, HZ, HT⟩ := hrel
      clear hrd hrb hbel0
      by_cases hlt : i < n
      · obtain ⟨x, hx⟩ : ∃ x, l[i]? = some x := ⟨_, List.getElem?_eq_getElem (by rw [← HN.out]; exact hlt)⟩
        have hkl := HKS.out x (List.mem_of_getElem? hx)
        have hki := HKID.out.get hx
        unfold maxLen at hkl
        obtain ⟨g, o, vk, rfl, hg, a0, a1, a2, a3, a4, a5⟩ := FA.out i x hx
        have b0 := (hbel.cell (p := ⟨g, o + i * 5, none⟩) hg).trans a0
        have b1 := (hbel.cell (p := ⟨g, o + i * 5 + 1, none⟩) hg).trans a1
        have b2 := (hbel.cell (p := ⟨g, o + i * 5 + 2, none⟩) hg).trans a2
        have b3 := (hbel.cell (p := ⟨g, o + i * 5 + 3, none⟩) hg).trans a3
        have b4 := (hbel.cell (p := ⟨g, o + i * 5 + 4, none⟩) hg).trans a4
        have hd := drop_cons l i x hx
        have hti := HT.out
        rw [hd, shalGo] at hti
        obtain ⟨x0, x1, x2, x3, ks⟩ := x
        simp only at hkl hki b0 b1 b2 b3 b4 a5 hti
        obtain ⟨pk, ck, rfl, fk⟩ := a5
        have FK := Lib.hid fk.1
        have HTI := Lib.hid hti
        have HKI := Lib.hid hki
        obtain ⟨m, hm⟩ : ∃ m, m = ks.length := ⟨_, rfl⟩
        rw [← hm] at hkl b4
        have HM := Lib.hid hm
        have hrs := hrow.lt
        have hrs' := hrow'.lt
        have hwr : w.heap.size ≤ wr.heap.size := hbel.size
        obtain ⟨N0, hN0⟩ : ∃ N0, N0 = wr.heap.size := ⟨_, rfl⟩
        obtain ⟨CS, hCS⟩ : ∃ CS : Array Value, CS = #[.int .i64 x0, .int .i64 x1, .string ⟨x2.toArray⟩, .int .i64 x3, .slice pk m ck] := ⟨_, rfl⟩
        obtain ⟨wq, hwq⟩ : ∃ wq, wq = wr.alloc (.cells CS 37) := ⟨_, rfl⟩
        have hNb : wq.heap[N0]? = some (.cells CS 37) := by
          rw [hwq, hN0]; show (wr.heap.push _)[_]? = _; simp
        have hsq : wq.heap.size = N0 + 1 := by rw [hwq, hN0]; simp
        have hrq : wq.rowIs Hd 3 n (rowN (grow dp i 0)) := by
          rw [hwq]
          exact (hrow.alloc _).congr (fun j _ => by by_cases h : j = i <;> simp [rowN, grow, h, ((HZ.out i (Nat.le_refl _)).1)])
        have hrq' : wq.rowIs Hb 3 n (rowN (grow bl i 0)) := by
          rw [hwq]
          exact (hrow'.alloc _).congr (fun j _ => by by_cases h : j = i <;> simp [rowN, grow, h, ((HZ.out i (Nat.le_refl _)).2)])
        have hbq : Below w.heap.size w wq := by rw [hwq]; exact hbel.alloc hwr _
        have HWQ := Lib.hid hwq
        clear hx hd hti a0 a1 a2 a3 a4 fk hm HT hki hwq
        go_wp2_with fail
        rw [← hCS, ← HWQ.out]
        have HCS := Lib.hid hCS
        have hNb2 := hNb
        rw [hCS] at hNb2
        rw [← hN0]
        have HN0 := Lib.hid hN0
        rw [← hN0] at hrs hrs' hwr
        clear hN0
        obtain ⟨c0, c1, c2, c3, c4⟩ := box5 (w := wq) hNb2
        clear hCS hNb2
        clear FA HKS HKID HWQ HN0 hbel
        go_wp2_with fail
        go_loopw [25] (fun v25 wk => ∃ (j : Nat), v25 = .int .i64 (j : Int) ∧ j ≤ m ∧ wk.rowIs Hd 3 n (rowN (grow dp i (deepest dp 0 (ks.take j)))) ∧ wk.rowIs Hb 3 n (rowN (grow bl i (deepest bl 0 (ks.take j)))) ∧ wk.heap[N0]? = some (.cells CS 37) ∧ Below w.heap.size w wk) (fun v25 _ => m - (intOf v25).toNat)
        case atStart => exact ⟨0, rfl, Nat.zero_le _, hrq, hrq', hNb, hbq⟩
        case round =>
          obtain ⟨j, rfl, hj, hr2, hr2', hN2, hb2⟩ := hrel
          clear hrq hrq' hNb hbq c0 c1 c2 c3 c4 hrow hrow'
          by_cases hjm : j < m
          · obtain ⟨c, hc⟩ : ∃ c, ks[j]? = some c := ⟨_, List.getElem?_eq_getElem (by rw [← HM.out]; exact hjm)⟩
            have hcr := HKI.out c (List.mem_of_getElem? hc)
            obtain ⟨gk, ok, rfl, hgk, ac⟩ := FK.out j c hc
            have bc := (hb2.cell (p := ⟨gk, ok + j, none⟩) (by omega)).trans ac
            obtain ⟨k, rfl⟩ : ∃ k : Nat, c = (k : Int) := ⟨c.toNat, by omega⟩
            have hki : k < i := by omega
            have hkn : k < n := by omega
            have hts := take_snoc ks j _ hc
            have eD : Hid (deepest dp 0 (ks.take (j + 1)) = max (deepest dp 0 (ks.take j)) (dp k)) := by show _ = _; rw [hts, deepest_snoc]; rfl
            have eB : Hid (deepest bl 0 (ks.take (j + 1)) = max (deepest bl 0 (ks.take j)) (bl k)) := by show _ = _; rw [hts, deepest_snoc]; rfl
            obtain ⟨D, hD⟩ := hid_ex (deepest dp 0 (ks.take j))
            obtain ⟨B, hB⟩ := hid_ex (deepest bl 0 (ks.take j))
            rw [hD.out] at hr2 eD
            rw [hB.out] at hr2' eB
            have d1 := hr2.cell hlt
            have d2 := hr2.cell hkn
            have d3 := hr2.frozen i
            rw [show rowN (grow dp i D) i = .int .i64 (D : Int) by simp [rowN, grow]] at d1
            rw [show rowN (grow dp i D) k = .int .i64 ((dp k : Nat) : Int) by simp [rowN, grow, Nat.ne_of_lt hki]] at d2
            obtain ⟨dk, hdk⟩ := hid_ex (dp k)
            obtain ⟨bk, hbk⟩ := hid_ex (bl k)
            rw [hdk.out] at d2 eD
            rw [hbk.out] at eB
            have hmx : max (D : Int) (dk : Int) = ((max D dk : Nat) : Int) := by omega
            obtain ⟨W1, hW1⟩ : ∃ W1, W1 = (wr.setCell ⟨Hd, i, none⟩ (.int .i64 ((max D dk : Nat) : Int))).drew := ⟨_, rfl⟩
            have hr3 : W1.rowIs Hd 3 n (rowN (grow dp i (max D dk))) := by rw [hW1]; exact ((hr2.set i (.int .i64 ((max D dk : Nat) : Int))).congr (g := rowN (grow dp i (max D dk))) (fun q _ => rowN_grow _ _ _ _ q)).drew
            have hr3' : W1.rowIs Hb 3 n (rowN (grow bl i B)) := by rw [hW1]; exact (hr2'.setOther (a := ⟨Hd, i, none⟩) (Ne.symm hne) (.int .i64 ((max D dk : Nat) : Int))).drew
            have hN3 : W1.heap[N0]? = some (.cells CS 37) := by rw [hW1]; exact (Below.heap_setCell wr ⟨Hd, i, none⟩ _ N0 (by simp; omega)).trans hN2
            have hb3 : Below w.heap.size w W1 := by rw [hW1]; exact (hb2.setCell (p := ⟨Hd, i, none⟩) hHd (.int .i64 ((max D dk : Nat) : Int))).drew
            have HW1 := Lib.hid hW1
            clear hc hts hD hB hdk hN2 hr2 hr2' ac hb2 HKI hW1
            go_upto_region 8 with fail
            go_region
            rw [← HW1.out]
            clear HW1 d1 d2 d3 hmx bc
            have d1 := hr3'.cell hlt
            have d2 := hr3'.cell hkn
            have d3 := hr3'.frozen i
            rw [show rowN (grow bl i B) i = .int .i64 (B : Int) by simp [rowN, grow]] at d1
            rw [show rowN (grow bl i B) k = .int .i64 ((bl k : Nat) : Int) by simp [rowN, grow, Nat.ne_of_lt hki], hbk.out] at d2
            have hmx : max (B : Int) (bk : Int) = ((max B bk : Nat) : Int) := by omega
            obtain ⟨W2, hW2⟩ : ∃ W2, W2 = (W1.setCell ⟨Hb, i, none⟩ (.int .i64 ((max B bk : Nat) : Int))).drew := ⟨_, rfl⟩
            have hr4' : W2.rowIs Hb 3 n (rowN (grow bl i (max B bk))) := by rw [hW2]; exact ((hr3'.set i (.int .i64 ((max B bk : Nat) : Int))).congr (g := rowN (grow bl i (max B bk))) (fun q _ => rowN_grow _ _ _ _ q)).drew
            have hr4 : W2.rowIs Hd 3 n (rowN (grow dp i (max D dk))) := by rw [hW2]; exact (hr3.setOther (a := ⟨Hb, i, none⟩) hne (.int .i64 ((max B bk : Nat) : Int))).drew
            have hN4 : W2.heap[N0]? = some (.cells CS 37) := by rw [hW2]; exact (Below.heap_setCell W1 ⟨Hb, i, none⟩ _ N0 (by simp; omega)).trans hN3
            have hb4 : Below w.heap.size w W2 := by rw [hW2]; exact (hb3.setCell (p := ⟨Hb, i, none⟩) hHb (.int .i64 ((max B bk : Nat) : Int))).drew
            have HW2 := Lib.hid hW2
            clear hW2 hr3 hr3' hN3 hb3 hbk
            go_upto_region 9 with fail
            go_region
            rw [← HW2.out]
            clear HW2 d1 d2 d3 hmx
            rw [← eD.out] at hr4
            rw [← eB.out] at hr4'
            clear eD eB
            go_wp2_with fail
            exact ⟨⟨j + 1, by go_num, by omega, hr4, hr4', hN4, hb4⟩, by simp [intOf]; omega⟩
          · obtain rfl : j = m := by omega
            obtain ⟨D, hD⟩ : ∃ D, D = deepest dp 0 ks := ⟨_, rfl⟩
            obtain ⟨B, hB⟩ : ∃ B, B = deepest bl 0 ks := ⟨_, rfl⟩
            have hti := HTI.out
            rw [HM.out, List.take_length, ← hD] at hr2
            rw [HM.out, List.take_length, ← hB] at hr2'
            rw [← hD, ← hB] at hti
            have hDi : D ≤ i := by rw [hD]; exact deepest_le dp i (fun q => (HLE.out q).1) ks 0 (Nat.zero_le _)
            have hBi : B ≤ i := by rw [hB]; exact deepest_le bl i (fun q => (HLE.out q).2) ks 0 (Nat.zero_le _)
            rw [HCS.out] at hN2
            obtain ⟨c0, c1, c2, c3, c4⟩ := box5 (w := wr) hN2
            have HTI2 := Lib.hid hti
            clear HTI hti hD hB HM FK HKI HCS
            have d1 := hr2.cell hlt
            have d3 := hr2.frozen i
            rw [show rowN (grow dp i D) i = .int .i64 (D : Int) by simp [rowN, grow]] at d1
            have hwd : IntKind.i64.wrap ((D : Int) + 1) = (D : Int) + 1 := IntWalk.i64_in _ (by omega)
            obtain ⟨W1, hW1⟩ : ∃ W1, W1 = wr.setCell ⟨Hd, i, none⟩ (.int .i64 ((D : Int) + 1)) := ⟨_, rfl⟩
            have hr3 : W1.rowIs Hd 3 n (rowN (grow dp i (D + 1))) := by rw [hW1]; exact (hr2.set i (.int .i64 ((D : Int) + 1))).congr (g := rowN (grow dp i (D + 1))) (fun q _ => rowN_grow dp i D (D + 1) q)
            have hr3' : W1.rowIs Hb 3 n (rowN (grow bl i B)) := by rw [hW1]; exact hr2'.setOther (a := ⟨Hd, i, none⟩) (Ne.symm hne) _
            have hN3 : W1.heap[N0]? = some (.cells #[.int .i64 x0, .int .i64 x1, .string ⟨x2.toArray⟩, .int .i64 x3, .slice pk j ck] 37) := by rw [hW1]; exact (Below.heap_setCell wr ⟨Hd, i, none⟩ _ N0 (by simp; omega)).trans hN2
            have hb3 : Below w.heap.size w W1 := by rw [hW1]; exact hb2.setCell (p := ⟨Hd, i, none⟩) hHd _
            have HW1 := Lib.hid hW1
            clear hN2 hr2 hr2' hb2 hW1
            go_upto_if 62 with (fail)
            rw [← HW1.out]
            obtain ⟨Z, hZ⟩ : ∃ Z, Z = B + (if x0 = 41 then 1 else 0) := ⟨_, rfl⟩
            have hti := HTI2.out
            rw [← hZ] at hti
            have HTI3 := Lib.hid hti
            have hZi : Z ≤ i + 1 := by rw [hZ]; split <;> omega
            have HZZ := Lib.hid hZ
            clear HTI2 hti hZ HW1 d1 d3 c0 c1 c2 c3 c4
            obtain ⟨c0, c1, c2, c3, c4⟩ := box5 (w := W1) hN3
            go_cut [3] (fun v3 wx => v3 = .slice (some ⟨Hd, 0, none⟩) n n ∧ wx.rowIs Hd 3 n (rowN (grow dp i (D + 1))) ∧ wx.rowIs Hb 3 n (rowN (grow bl i Z)) ∧ wx.heap[N0]? = some (.cells #[.int .i64 x0, .int .i64 x1, .string ⟨x2.toArray⟩, .int .i64 x3, .slice pk j ck] 37) ∧ Below w.heap.size w wx)
            case first =>
              by_cases h41 : x0 = 41
              · have hz : B + 1 = Z := by rw [HZZ.out, if_pos h41]
                have d1 := hr3'.cell hlt
                have d3 := hr3'.frozen i
                rw [show rowN (grow bl i B) i = .int .i64 (B : Int) by simp [rowN, grow]] at d1
                have hwb : IntKind.i64.wrap ((B : Int) + 1) = (B : Int) + 1 := IntWalk.i64_in _ (by omega)
                have hr4' := (hr3'.set i (.int .i64 ((B : Int) + 1))).congr (g := rowN (grow bl i (B + 1))) (fun q _ => rowN_grow bl i B (B + 1) q)
                have hr4 := hr3.setOther (a := ⟨Hb, i, none⟩) hne (.int .i64 ((B : Int) + 1))
                have hN4 := (Below.heap_setCell W1 ⟨Hb, i, none⟩ (.int .i64 ((B : Int) + 1)) N0 (by simp; omega)).trans hN3
                have hb4 := hb3.setCell (p := ⟨Hb, i, none⟩) hHb (.int .i64 ((B : Int) + 1))
                rw [hz] at hr4'
                clear hz HZZ HTI3
                go_wp2_with fail
                go_meet
                exact ⟨rfl, hr4, hr4', hN4, hb4⟩
              · have hz : B = Z := by rw [HZZ.out, if_neg h41]; rfl
                rw [hz] at hr3'
                clear hz HZZ HTI3
                go_wp2_with fail
                go_meet
                exact ⟨rfl, hr3, hr3', hN3, hb3⟩
            case rest =>
              obtain ⟨rfl, hr4, hr4', hN4, hb4⟩ := hcut
              clear hr3 hr3' hN3 hb3 c0 c1 c2 c3 c4 HZZ
              have d1 := hr4.cell hlt
              have d2 := hr4'.cell hlt
              rw [show rowN (grow dp i (D + 1)) i = .int .i64 ((D + 1 : Nat) : Int) by simp [rowN, grow]] at d1
              rw [show rowN (grow bl i Z) i = .int .i64 (Z : Int) by simp [rowN, grow]] at d2
              obtain ⟨c0, c1, c2, c3, c4⟩ := box5 (w := wc) hN4
              obtain ⟨E, hE⟩ : ∃ E, E = D + 1 := ⟨_, rfl⟩
              rw [← hE] at d1 hr4
              have hti := HTI3.out
              rw [← hE] at hti
              by_cases hz40 : 40 < Z
              · rw [if_pos (Or.inl hz40)] at hti
                have HF := Lib.hid hti
                have hz40' : (40 : Int) < (Z : Int) := by omega
                clear hti HTI3 hE
                go_wp2_with fail
                go_ret
                exact ⟨ret_bool HF.out.symm, hb4⟩
              · have hz40' : ¬ (40 : Int) < (Z : Int) := by omega
                have hnext : ∀ {w' : World}, Below wc.heap.size wc w' → w'.rowIs Hd 3 n (rowN fun q => if q = i then E else dp q) ∧ w'.rowIs Hb 3 n (rowN fun q => if q = i then Z else bl q) ∧ Below w.heap.size w w' := fun {w'} h =>
                  ⟨hr4.of_block (h.block _ hr4.lt), hr4'.of_block (h.block _ hr4'.lt), hb4.trans (h.mono hb4.size)⟩
                have HLE2 : Hid (∀ q, (fun q => if q = i then E else dp q) q ≤ i + 1 ∧ (fun q => if q = i then Z else bl q) q ≤ i + 1) := fun q => by
                  have := HLE.out q
                  show (if q = i then E else dp q) ≤ i + 1 ∧ (if q = i then Z else bl q) ≤ i + 1
                  split <;> constructor <;> omega
                have HZ2 : Hid (∀ q, i + 1 ≤ q → (fun q => if q = i then E else dp q) q = 0 ∧ (fun q => if q = i then Z else bl q) q = 0) := fun q hq => by
                  have := HZ.out q (by omega)
                  show (if q = i then E else dp q) = 0 ∧ (if q = i then Z else bl q) = 0
                  rw [if_neg (by omega), if_neg (by omega)]
                  exact this
                by_cases he40 : 40 < E
                · have he40' : (40 : Int) < (E : Int) := by omega
                  cases hex : isExpr x0 with
                  | true =>
                    rw [if_pos (Or.inr ⟨he40, hex⟩)] at hti
                    have HF := Lib.hid hti
                    have hcall : ∀ tv, Calls Tryd.prog 44 #[tv, .agg #[.int .i64 x0, .int .i64 x1, .string ⟨x2.toArray⟩, .int .i64 x3, .slice pk j ck]] wc fun e w' => e = .returned (.bool true) ∧ Below wc.heap.size wc w' := fun tv => by
                      have := exprV_any tv x0 x1 x2 x3 pk j ck wc
                      rwa [hex] at this
                    clear hti HTI3 hE HLE2 HZ2 hex
                    go_wp2_with (go_at_call 44; refine (hcall _).mono ?_; rintro e w' ⟨rfl, hbx⟩)
                    go_ret
                    exact ⟨ret_bool HF.out.symm, hb4.trans (hbx.mono hb4.size)⟩
                  | false =>
                    rw [if_neg (by rintro (h | ⟨_, h⟩); exact hz40 h; rw [hex] at h; cases h)] at hti
                    have HT4 := Lib.hid hti
                    have hcall : ∀ tv, Calls Tryd.prog 44 #[tv, .agg #[.int .i64 x0, .int .i64 x1, .string ⟨x2.toArray⟩, .int .i64 x3, .slice pk j ck]] wc fun e w' => e = .returned (.bool false) ∧ Below wc.heap.size wc w' := fun tv => by
                      have := exprV_any tv x0 x1 x2 x3 pk j ck wc
                      rwa [hex] at this
                    clear hti HTI3 hE hex
                    go_wp2_with (go_at_call 44; refine (hcall _).mono ?_; rintro e w' ⟨rfl, hbx⟩)
                    exact ⟨⟨i + 1, _, _, by go_num, by omega, (hnext hbx).1, (hnext hbx).2.1, (hnext hbx).2.2, HLE2, HZ2, HT4⟩, by simp [intOf]; omega⟩
                · have he40' : ¬ (40 : Int) < (E : Int) := by omega
                  rw [if_neg (by rintro (h | ⟨h, _⟩); exact hz40 h; exact he40 h)] at hti
                  have HT4 := Lib.hid hti
                  have hn := hnext (Below.refl _ wc)
                  clear hti HTI3 hE
                  go_wp2_with fail
                  exact ⟨⟨i + 1, _, _, by go_num, by omega, hn.1, hn.2.1, hn.2.2, HLE2, HZ2, HT4⟩, by simp [intOf]; omega⟩
      · obtain rfl : i = n := by omega
        have HF : Hid (shallow l = true) := by
          show _ = _
          rw [HT.out, HN.out, List.drop_length]
          rfl
        clear HT HN FA HKS HKID HLE HZ
        go_wp2_with fail
        go_ret
        exact ⟨ret_bool HF.out.symm, hbel⟩
end Go.Proofs.YtkmmcphiijolkaaDoor
