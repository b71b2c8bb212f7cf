/-
  A token that a line may have, of any one, and what a source says for it, at this program.
-/
import Derived.Test.YtbdjccmcdifjcaaGreatDoorFits
import Derived.Test.YtbdjccmcdifjcaaGreatDoorDecimal
import Derived.Test.YtbdjccmcdifjcaaGreatDoorRefB
set_option linter.unusedVariables false
set_option linter.unusedSimpArgs false
namespace Go.Proofs.YtbdjccmcdifjcaaGreatDoor
open Go.RowKit Go.Shelf

theorem and_three (n : Int) : bits .and .i64 n 3 = n % 4 := by
  have h3 : (BitVec.ofInt 64 3).toNat = 2 ^ 2 - 1 := by decide
  have key : (BitVec.ofInt 64 n &&& BitVec.ofInt 64 3).toNat = (n % ((2 ^ 64 : Nat) : Int)).toNat % 2 ^ 2 := by
    rw [BitVec.toNat_and, BitVec.toNat_ofInt, h3, Nat.and_two_pow_sub_one_eq_mod]
  show IntKind.i64.wrap ((BitVec.ofInt 64 n &&& BitVec.ofInt 64 3).toNat : Nat) = n % 4
  rw [key, IntKind.wrap_i64]
  omega
theorem and_kilo (n : Int) : bits .and .i64 n 1023 = n % 1024 := by
  have h3 : (BitVec.ofInt 64 1023).toNat = 2 ^ 10 - 1 := by decide
  have key : (BitVec.ofInt 64 n &&& BitVec.ofInt 64 1023).toNat = (n % ((2 ^ 64 : Nat) : Int)).toNat % 2 ^ 10 := by
    rw [BitVec.toNat_and, BitVec.toNat_ofInt, h3, Nat.and_two_pow_sub_one_eq_mod]
  show IntKind.i64.wrap ((BitVec.ofInt 64 n &&& BitVec.ofInt 64 1023).toNat : Nat) = n % 1024
  rw [key, IntKind.wrap_i64]
  omega

def agg4 (x : T4) : Value := .agg #[.int .i64 x.1, .int .i64 x.2.1, .string ⟨x.2.2.1.toArray⟩, .int .i64 x.2.2.2]
theorem agg4_eq (k a n : Int) (t : ByteArray) : agg4 (k, a, t.data.toList, n) = .agg #[.int .i64 k, .int .i64 a, .string t, .int .i64 n] := by
  unfold agg4
  rw [toArray_data]
theorem below4g {B g : Nat} {w w1 : World} {v0 v1 v2 v3 : Value} (hg : B ≤ g) (h : Below B w w1) : Below B w ((((w1.setCell ⟨g, 0, none⟩ v0).setCell ⟨g, 1, none⟩ v1).setCell ⟨g, 2, none⟩ v2).setCell ⟨g, 3, none⟩ v3) :=
  (((h.setCell (p := ⟨g, 0, none⟩) hg _).setCell (p := ⟨g, 1, none⟩) hg _).setCell (p := ⟨g, 2, none⟩) hg _).setCell (p := ⟨g, 3, none⟩) hg _
theorem box_heap (w : World) (A B : Obj) : ((w.alloc A).alloc B).heap[w.heap.size]? = some A := by
  rw [Below.heap_alloc (w.alloc A) B w.heap.size (by simp)]
  unfold World.alloc
  exact Array.getElem?_push_size
theorem box_cell (w : World) (A : Array Value) (T : TypeId) (B : Obj) (j : Nat) (v : Value) (h : A[j]? = some v) : ((w.alloc (.cells A T)).alloc B).cell? ⟨w.heap.size, j, none⟩ = some v := by
  unfold World.cell?
  rw [show (⟨w.heap.size, j, none⟩ : Addr).block = w.heap.size from rfl, box_heap]
  exact h
def arr7 : Array Value := #[.string ⟨#[120]⟩, .string ⟨#[95, 97, 49]⟩, .string ⟨#[78, 111, 110, 101]⟩, .string ⟨#[105, 102]⟩, .string ⟨#[108, 97, 109, 98, 100, 97]⟩, .string ⟨#[110, 111, 116, 120]⟩, .string ⟨#[90]⟩]
theorem arr7_list : arr7.toList = Sp.words7.map fun l => Value.string ⟨l.toArray⟩ := rfl

theorem fit4_0 {x : T4} (h : x.1 % 4 = 0) : Sp.fit4 x = (1, 0, if Sp.nm x.2.2.1 || Sp.kw x.2.2.1 then x.2.2.1 else Sp.words7.getD (x.2.2.1.length % 7) [], 0) := by unfold Sp.fit4; rw [if_pos h]
theorem fit4_1 {x : T4} (h : x.1 % 4 = 1) : Sp.fit4 x = (2, 0, [], x.2.2.2 % 9223372036854775808) := by unfold Sp.fit4; rw [if_neg (by omega), if_pos h]
theorem fit4_2 {x : T4} (h : x.1 % 4 = 2) : Sp.fit4 x = (3, 0, x.2.2.1, 0) := by unfold Sp.fit4; rw [if_neg (by omega), if_neg (by omega), if_pos h]
theorem fit4_3 {x : T4} (h : x.1 % 4 = 3) : Sp.fit4 x = (4, 0, Sp.refL.getD ((x.2.2.2 % 1024).toNat % 28) [], 0) := by unfold Sp.fit4; rw [if_neg (by omega), if_neg (by omega), if_neg (by omega)]

abbrev boxed (w : World) (k a n : Int) (t : ByteArray) : World := (w.alloc (Obj.cells #[.int .i64 k, .int .i64 a, .string t, .int .i64 n] 37)).alloc (Obj.cells #[.int .i64 0, .int .i64 0, .string ⟨#[]⟩, .int .i64 0] 37)
theorem boxed_below (w : World) (k a n : Int) (t : ByteArray) : Below w.heap.size w (boxed w k a n t) := ((Below.refl _ w).alloc (Nat.le_refl _) _).alloc (by simp) _
theorem boxed_blk (w : World) (k a n : Int) (t : ByteArray) : TokBlk (w.heap.size + 1) (boxed w k a n t) := by
  have h := TokBlk.fresh (w.alloc (Obj.cells #[.int .i64 k, .int .i64 a, .string t, .int .i64 n] 37)) (.int .i64 0) (.int .i64 0) (.string ⟨#[]⟩) (.int .i64 0)
  have e : (w.alloc (Obj.cells #[.int .i64 k, .int .i64 a, .string t, .int .i64 n] 37)).heap.size = w.heap.size + 1 := by simp
  rw [e] at h
  exact h
theorem boxed_size (w : World) (k a n : Int) (t : ByteArray) : (boxed w k a n t).heap.size = w.heap.size + 2 := by simp

set_option maxHeartbeats 8000000 in
set_option maxRecDepth 100000 in
theorem fitOne_any (k a n : Int) (t : ByteArray) (ht : t.size ≤ 1000) (w : World) : Calls Tryz.prog 20 #[.agg #[.int .i64 k, .int .i64 a, .string t, .int .i64 n]] w fun e w' => e = .returned (agg4 (Sp.fit4 (k, a, t.data.toList, n))) ∧ Below w.heap.size w w' := by
  have hbel0 := boxed_below w k a n t
  have hblk0 := boxed_blk w k a n t
  have hsz0 := boxed_size w k a n t
  have hlt0 : w.heap.size < (boxed w k a n t).heap.size := by rw [hsz0]; omega
  have hlt1 : w.heap.size + 1 < (boxed w k a n t).heap.size := by rw [hsz0]; omega
  have hle0 : w.heap.size ≤ (boxed w k a n t).heap.size := Nat.le_of_lt hlt0
  have hcell0 := box_cell w #[.int .i64 k, .int .i64 a, .string t, .int .i64 n] 37 (Obj.cells #[.int .i64 0, .int .i64 0, .string ⟨#[]⟩, .int .i64 0] 37)
  have hk3 := and_three k
  have hm : k % 4 = 0 ∨ k % 4 = 1 ∨ k % 4 = 2 ∨ k % 4 = 3 := by omega
  rcases hm with hm | hm | hm | hm
  · rw [hm] at hk3
    obtain ⟨bn, HBN⟩ := hid_ex (Sp.nm t.data.toList)
    obtain ⟨bk, HBK⟩ := hid_ex (Sp.kw t.data.toList)
    have HF : Hid (Sp.fit4 (k, a, t.data.toList, n) = (1, 0, if bn || bk then t.data.toList else Sp.words7.getD (t.size % 7) [], 0)) := by
      show _ = _
      rw [fit4_0 hm]
      show (1, 0, if Sp.nm t.data.toList || Sp.kw t.data.toList then t.data.toList else Sp.words7.getD (t.data.toList.length % 7) [], 0) = _
      rw [HBN.out, HBK.out, size_list]
    rw [HF.out]
    clear hm
    cases bn with
    | true =>
      rw [show (1, 0, if (true || bk) = true then t.data.toList else Sp.words7.getD (t.size % 7) [], 0) = (((1, 0, t.data.toList, 0) : T4)) by simp, agg4_eq]
      go_enter Tryz.func20, Tryz.ntmps20
      go_wp2_with fail
      refine (rname_any t (by omega) _).mono ?_
      rintro e w1 ⟨rfl, hb1⟩
      rw [HBN.out]
      have p2 : w1.cell? ⟨w.heap.size, 2, none⟩ = some (.string t) := (hb1.cell (p := ⟨w.heap.size, 2, none⟩) hlt0).trans (hcell0 2 _ rfl)
      have hT1 := hblk0.below hb1 hlt1
      obtain ⟨c0, c1, c2, c3, f0, f1, f2, f3, z0, z1, z2, z3, hlt⟩ := hT1.facts
      have hbel1 := hbel0.trans (hb1.mono hle0)
      clear hb1 hbel0 hblk0 hT1 hcell0 hsz0
      go_wp2
      refine bodyPost_ret (v := .agg #[.int .i64 1, .int .i64 0, .string t, .int .i64 0]) (by simp [results, Tryz.results20, go_sem, f0, f1, f2, f3]) rfl ⟨rfl, below4g (by omega) hbel1⟩
    | false =>
      cases bk with
      | true =>
        rw [show (1, 0, if (false || true) = true then t.data.toList else Sp.words7.getD (t.size % 7) [], 0) = (((1, 0, t.data.toList, 0) : T4)) by simp, agg4_eq]
        go_enter Tryz.func20, Tryz.ntmps20
        go_wp2_with fail
        refine (rname_any t (by omega) _).mono ?_
        rintro e w1 ⟨rfl, hb1⟩
        rw [HBN.out]
        have p2 : w1.cell? ⟨w.heap.size, 2, none⟩ = some (.string t) := (hb1.cell (p := ⟨w.heap.size, 2, none⟩) hlt0).trans (hcell0 2 _ rfl)
        have hw1 : w.heap.size + 2 ≤ w1.heap.size := by have := hb1.size; rw [← hsz0]; exact this
        have hT1 := hblk0.below hb1 hlt1
        have hbel1 := hbel0.trans (hb1.mono hle0)
        clear hb1 hbel0 hblk0 hcell0 hsz0
        go_wp2_with fail
        refine (rkeyword_any t w1).mono ?_
        rintro e w2 ⟨rfl, hb2⟩
        rw [HBK.out]
        have q2 : w2.cell? ⟨w.heap.size, 2, none⟩ = some (.string t) := (hb2.cell (p := ⟨w.heap.size, 2, none⟩) (by show w.heap.size < _; omega)).trans p2
        have hT2 := hT1.below hb2 (by omega)
        obtain ⟨c0, c1, c2, c3, f0, f1, f2, f3, z0, z1, z2, z3, hlt⟩ := hT2.facts
        have hbel2 := hbel1.trans (hb2.mono hbel1.size)
        clear hb2 hbel1 hT1 hT2 p2
        go_wp2
        refine bodyPost_ret (v := .agg #[.int .i64 1, .int .i64 0, .string t, .int .i64 0]) (by simp [results, Tryz.results20, go_sem, f0, f1, f2, f3]) rfl ⟨rfl, below4g (by omega) hbel2⟩
      | false =>
        obtain ⟨y, HY⟩ := hid_ex (t.size % 7)
        have hy7 : y < 7 := by rw [← HY.out]; omega
        have hmy : (t.size : Int).tmod 7 = (y : Int) := by rw [← HY.out, Int.tmod_eq_emod_of_nonneg (by omega)]; omega
        have hey : (t.size : Int) % 7 = (y : Int) := by rw [← HY.out]; omega
        have hl7 : y < Sp.words7.length := hy7
        obtain ⟨l, hll⟩ : ∃ l, Sp.words7[y]? = some l := ⟨_, List.getElem?_eq_getElem hl7⟩
        have hgd : Sp.words7.getD (t.size % 7) [] = l := by rw [HY.out, List.getD_eq_getElem?_getD, hll]; rfl
        obtain ⟨tb, htb⟩ : ∃ tb : ByteArray, tb = ⟨l.toArray⟩ := ⟨_, rfl⟩
        have htl : tb.data.toList = l := by rw [htb]
        have hc7 := fun wx => text_cell wx arr7 Sp.words7 arr7_list y l hll
        rw [← htb] at hc7
        unfold arr7 at hc7
        rw [show (1, 0, if (false || false) = true then t.data.toList else Sp.words7.getD (t.size % 7) [], 0) = (((1, 0, tb.data.toList, 0) : T4)) by rw [hgd, htl]; simp, agg4_eq]
        clear HF HY hll hgd htb htl
        go_enter Tryz.func20, Tryz.ntmps20
        go_wp2_with fail
        refine (rname_any t (by omega) _).mono ?_
        rintro e w1 ⟨rfl, hb1⟩
        rw [HBN.out]
        have p2 : w1.cell? ⟨w.heap.size, 2, none⟩ = some (.string t) := (hb1.cell (p := ⟨w.heap.size, 2, none⟩) hlt0).trans (hcell0 2 _ rfl)
        have hw1 : w.heap.size + 2 ≤ w1.heap.size := by have := hb1.size; rw [← hsz0]; exact this
        have hT1 := hblk0.below hb1 hlt1
        have hbel1 := hbel0.trans (hb1.mono hle0)
        clear hb1 hbel0 hblk0 hcell0 hsz0
        go_wp2_with fail
        refine (rkeyword_any t w1).mono ?_
        rintro e w2 ⟨rfl, hb2⟩
        rw [HBK.out]
        have q2 : w2.cell? ⟨w.heap.size, 2, none⟩ = some (.string t) := (hb2.cell (p := ⟨w.heap.size, 2, none⟩) (by show w.heap.size < _; omega)).trans p2
        have hw2 : w.heap.size + 2 ≤ w2.heap.size := Nat.le_trans hw1 hb2.size
        have hT2 := hT1.below hb2 (by omega)
        have hbel2 := hbel1.trans (hb2.mono hbel1.size)
        have hb3 : Below w2.heap.size w2 (w2.alloc (Obj.cells #[.string ⟨#[120]⟩, .string ⟨#[95, 97, 49]⟩, .string ⟨#[78, 111, 110, 101]⟩, .string ⟨#[105, 102]⟩, .string ⟨#[108, 97, 109, 98, 100, 97]⟩, .string ⟨#[110, 111, 116, 120]⟩, .string ⟨#[90]⟩] 9)) := (Below.refl _ w2).alloc (Nat.le_refl _) _
        have hT3 := hT2.below hb3 (by omega)
        have q3 := (hb3.cell (p := ⟨w.heap.size, 2, none⟩) (by show w.heap.size < _; omega)).trans q2
        have hbel3 := hbel2.trans (hb3.mono hbel2.size)
        have hc := hc7 w2
        clear hb2 hbel1 hT1 hT2 p2 hb3 hc7 hbel2
        obtain ⟨c0, c1, c2, c3, f0, f1, f2, f3, z0, z1, z2, z3, hlt⟩ := hT3.facts
        clear hT3
        go_wp2
        refine bodyPost_ret (v := .agg #[.int .i64 1, .int .i64 0, .string tb, .int .i64 0]) (by simp [results, Tryz.results20, go_sem, f0, f1, f2, f3]) rfl ⟨rfl, below4g (by omega) hbel3⟩
  · rw [hm] at hk3
    have HF : Hid (Sp.fit4 (k, a, t.data.toList, n) = (2, 0, (⟨#[]⟩ : ByteArray).data.toList, n % 9223372036854775808)) := by show _ = _; rw [fit4_1 hm]
    rw [HF.out, agg4_eq]
    have hmax := and_max n
    clear hm HF hblk0 hcell0 hsz0
    go_enter Tryz.func20, Tryz.ntmps20
    go_wp2
    refine bodyPost_ret (v := .agg #[.int .i64 2, .int .i64 0, .string ⟨#[]⟩, .int .i64 (n % 9223372036854775808)]) (by simp [results, Tryz.results20, go_sem]) rfl ⟨rfl, ?_⟩
    first | exact ((Below.refl _ w).alloc (Nat.le_refl _) _).alloc (by simp) _ | exact below4g (by omega) hbel0
  · rw [hm] at hk3
    have HF : Hid (Sp.fit4 (k, a, t.data.toList, n) = (3, 0, t.data.toList, 0)) := by show _ = _; rw [fit4_2 hm]
    rw [HF.out, agg4_eq]
    clear hm HF hblk0 hcell0 hsz0
    go_enter Tryz.func20, Tryz.ntmps20
    go_wp2
    refine bodyPost_ret (v := .agg #[.int .i64 3, .int .i64 0, .string t, .int .i64 0]) (by simp [results, Tryz.results20, go_sem]) rfl ⟨rfl, ?_⟩
    first | exact ((Below.refl _ w).alloc (Nat.le_refl _) _).alloc (by simp) _ | exact below4g (by omega) hbel0
  · rw [hm] at hk3
    have hkilo := and_kilo n
    obtain ⟨z, HZ⟩ := hid_ex ((n % 1024).toNat)
    have hz : n % 1024 = (z : Int) := by rw [← HZ.out]; omega
    rw [hz] at hkilo
    obtain ⟨y, HY⟩ := hid_ex (z % 28)
    have hy28 : y < 28 := by rw [← HY.out]; omega
    have hmy : (z : Int).tmod 28 = (y : Int) := by rw [← HY.out, Int.tmod_eq_emod_of_nonneg (by omega)]; omega
    have hey : (z : Int) % 28 = (y : Int) := by rw [← HY.out]; omega
    have hl28 : y < Sp.refL.length := hy28
    obtain ⟨l, hll⟩ : ∃ l, Sp.refL[y]? = some l := ⟨_, List.getElem?_eq_getElem hl28⟩
    have hgd : Sp.refL.getD ((n % 1024).toNat % 28) [] = l := by rw [HZ.out, HY.out, List.getD_eq_getElem?_getD, hll]; rfl
    obtain ⟨tb, htb⟩ : ∃ tb : ByteArray, tb = ⟨l.toArray⟩ := ⟨_, rfl⟩
    have htl : tb.data.toList = l := by rw [htb]
    have HF : Hid (Sp.fit4 (k, a, t.data.toList, n) = (4, 0, tb.data.toList, 0)) := by show _ = _; rw [fit4_3 hm]; show (4, 0, Sp.refL.getD ((n % 1024).toNat % 28) [], 0) = _; rw [hgd, htl]
    rw [HF.out, agg4_eq]
    clear hm HF HZ HY hgd htl hz
    go_enter Tryz.func20, Tryz.ntmps20
    go_wp2_with fail
    refine (ops_ref _).mono ?_
    rintro e w1 ⟨rfl, hw1⟩
    have hc := text_cell (boxed w k a n t) refArr Sp.refL ref_list y l hll
    have hb1 : Below (boxed w k a n t).heap.size (boxed w k a n t) w1 := by rw [hw1]; exact (Below.refl _ _).alloc (Nat.le_refl _) _
    rw [← hw1, ← htb] at hc
    simp only [boxed_size] at hc
    have p3 : w1.cell? ⟨w.heap.size, 3, none⟩ = some (.int .i64 n) := (hb1.cell (p := ⟨w.heap.size, 3, none⟩) hlt0).trans (hcell0 3 _ rfl)
    have hT1 := hblk0.below hb1 hlt1
    obtain ⟨c0, c1, c2, c3, f0, f1, f2, f3, z0, z1, z2, z3, hlt⟩ := hT1.facts
    have hbel1 := hbel0.trans (hb1.mono hle0)
    clear hb1 hbel0 hblk0 hT1 hcell0 hsz0 hw1 hll htb
    go_wp2
    refine bodyPost_ret (v := .agg #[.int .i64 4, .int .i64 0, .string tb, .int .i64 0]) (by simp [results, Tryz.results20, go_sem, f0, f1, f2, f3]) rfl ⟨rfl, below4g (by omega) hbel1⟩

set_option maxHeartbeats 4000000 in
theorem text_any (k a n : Int) (t : ByteArray) (ht : t.size ≤ 1000) (hn : k = 2 → 0 ≤ n ∧ n < 9223372036854775808) (w : World) : Calls Tryz.prog 21 #[.agg #[.int .i64 k, .int .i64 a, .string t, .int .i64 n]] w fun e w' => e = .returned (.string ⟨(Sp.textB (k, a, t.data.toList, n)).toArray⟩) ∧ Below w.heap.size w w' := by
  have hbel0 : Below w.heap.size w (w.alloc (Obj.cells #[.int .i64 k, .int .i64 a, .string t, .int .i64 n] 37)) := (Below.refl _ w).alloc (Nat.le_refl _) _
  by_cases h2 : k = 2
  · obtain ⟨hn0, hn1⟩ := hn h2
    subst h2
    obtain ⟨m, rfl⟩ : ∃ m : Nat, n = (m : Int) := ⟨n.toNat, by omega⟩
    have HT : Hid (Sp.textB (2, a, t.data.toList, (m : Int)) = Sp.dec m) := by show _ = _; show Sp.dec (m : Int).toNat = _; rw [Int.toNat_natCast]
    rw [HT.out]
    clear hn HT
    go_enter Tryz.func21, Tryz.ntmps21
    go_wp2_with fail
    refine (decimal_any m (by omega) _).mono ?_
    rintro e w1 ⟨rfl, hb1⟩
    have hbel1 := hbel0.trans (hb1.mono (by simp))
    go_wp2_with fail
    go_ret
    exact ⟨rfl, hbel1⟩
  · have g2 : (k == 2) = false := by simp; exact h2
    by_cases h3 : k = 3
    · subst h3
      have HT : Hid (Sp.textB (3, a, t.data.toList, n) = Sp.quote t.data.toList) := rfl
      rw [HT.out]
      clear hn HT h2
      go_enter Tryz.func21, Tryz.ntmps21
      go_wp2_with fail
      refine (rquote_any t (by omega) _).mono ?_
      rintro e w1 ⟨rfl, hb1⟩
      have hbel1 := hbel0.trans (hb1.mono (by simp))
      go_wp2_with fail
      go_ret
      exact ⟨rfl, hbel1⟩
    · have g3 : (k == 3) = false := by simp; exact h3
      have HT : Hid (Sp.textB (k, a, t.data.toList, n) = t.data.toList) := by
        show _ = _
        unfold Sp.textB
        rw [if_neg h2, if_neg h3]
      rw [HT.out, toArray_data]
      clear hn HT h2 h3
      go_enter Tryz.func21, Tryz.ntmps21
      go_wp2_with fail
      go_ret
      exact ⟨rfl, hbel0⟩
end Go.Proofs.YtbdjccmcdifjcaaGreatDoor
