/-
  How far a text lies upon itself, as the program's package text finds it: longer, borders, at this program.
-/
import Derived.Test.YtcpjogjkjbillaaTxRb
import Derived.Test.YtcpjogjkjbillaaTxK
import Derived.Laws.MakeOwn
set_option linter.unusedVariables false
set_option linter.unusedSimpArgs false
namespace Go.Proofs.Ytcpjogjkjbillaa
open Go.RowKit

theorem get_byte {p : ByteArray} {k : Nat} (h : k < p.size) : p.data.toList[k]? = some p[k] := by
  rw [List.getElem?_eq_getElem (by rw [size_list]; exact h)]; rfl
/-- The table of borders, as far as it is made. -/
def Tab (g : Nat) (p : Tx.Bs) (m : Nat) (w : World) : Prop := ∀ j, j < m → w.cell? ⟨g, j, none⟩ = some (.int .i64 (Tx.bord p j : Int))
theorem byte_eqb {a b : UInt8} (h : a = b) : ((a.toNat : Int) == (b.toNat : Int)) = true := by rw [h]; exact beq_self_eq_true _
theorem byte_neb {a b : UInt8} (h : a ≠ b) : ((a.toNat : Int) == (b.toNat : Int)) = false := beq_eq_false_iff_ne.2 fun e => h (UInt8.toNat_inj.1 (by omega))
set_option maxHeartbeats 8000000 in
set_option maxRecDepth 20000 in
theorem longer_is {p : ByteArray} {T : Tx.Bs} {h m g cap : Nat} {b : UInt8} (hh : h < p.size) (hp : p.size ≤ 1048576) (HS : Hid (p.data.toList.take h <:+ T)) (HC : Hid (Tx.Cand p.data.toList T b h)) (HM : Hid (Tx.lng p.data.toList (T ++ [b]) = m)) (w : World) (HT : Hid (Tab g p.data.toList h w)) :
    Calls Try.prog 51 #[.string p, .slice (some ⟨g, 0, none⟩) p.size cap, .int .i64 (h : Int), .int .u8 (b.toNat : Int)] w fun e' w' => e' = .returned (.int .i64 (m : Int)) ∧ w' = w := by
  go_enter Try.func51, Try.ntmps51
  go_wp2_with fail
  go_loopw [2] (fun v2 wr => ∃ k : Nat, v2 = .int .i64 (k : Int) ∧ k ≤ h ∧ Hid (p.data.toList.take k <:+ T) ∧ Hid (Tx.Cand p.data.toList T b k) ∧ wr = w) (fun v2 _ => (intOf v2).toNat)
  case atStart => exact ⟨h, rfl, Nat.le_refl _, HS, HC, rfl⟩
  case round =>
    clear HS HC
    obtain ⟨k, rfl, hk, HS, HC, rfl⟩ := hrel
    have hkp : k < p.size := by omega
    have hg := get_byte hkp
    cases k with
    | zero =>
      by_cases he : p[0] = b
      · have hr := Tx.lng_hit (by rw [size_list]; exact hkp) HS.out HC.out (by rw [hg, he])
        rw [HM.out] at hr
        subst hr
        have hb := byte_eqb he
        clear hg he HS HC HM HT
        go_wp2_with fail
        go_ret
        exact ⟨rfl, rfl⟩
      · have hr := Tx.lng_miss HC.out (by rw [hg]; intro e; injection e with e; exact he e)
        rw [HM.out] at hr
        subst hr
        have hb := byte_neb he
        clear hg he HS HC HM HT
        go_wp2_with fail
        go_ret
        exact ⟨rfl, rfl⟩
    | succ k =>
      have h0 : (0 : Int) < (k : Int) + 1 := by omega
      by_cases he : p[k + 1] = b
      · have hr := Tx.lng_hit (by rw [size_list]; exact hkp) HS.out HC.out (by rw [hg, he])
        rw [HM.out] at hr
        subst hr
        have hb := byte_eqb he
        have hw : IntKind.i64.wrap ((k : Int) + 1 + 1) = (k : Int) + 1 + 1 := IntWalk.i64_in _ (by omega)
        clear hg he HS HC HM HT
        go_wp2_with fail
        go_ret
        exact ⟨rfl, rfl⟩
      · obtain ⟨hs2, hc2⟩ := Tx.back_step (by rw [size_list]; exact hkp) HS.out HC.out (by rw [hg]; intro e; injection e with e; exact he e)
        have hle := Tx.bord_le p.data.toList k
        have ac := HT.out k (by omega)
        obtain ⟨q, hq⟩ : ∃ q, Tx.bord p.data.toList k = q := ⟨_, rfl⟩
        rw [hq] at hs2 hc2 hle ac
        have HS2 := Lib.hid hs2
        have HC2 := Lib.hid hc2
        have hb := byte_neb he
        have hw : IntKind.i64.wrap ((k : Int) + 1 - 1) = (k : Int) := by rw [IntWalk.i64_in _ (by omega)]; omega
        clear hg he HS HC HM hs2 hc2 hq HT
        go_wp2_with fail
        go_roundw
        case rel => exact ⟨q, rfl, by omega, HS2, HC2, trivial⟩
        case measure => simp [intOf]; omega
theorem infoIntT : (Try.prog.info? 3).map (fun i => (i.zero, i.size, i.bytes)) = some (some (.int .i64 0), 1, 8) := by kernel_rfl
/-- Behind some rounds of borders: which block the table is, and what else is as it was. -/
structure Bst (g : Nat) (p : Tx.Bs) (W : World) (n i : Nat) (w : World) : Prop where
  tab : Tab g p i w
  some_ : ∀ j, j < n → (w.cell? ⟨g, j, none⟩).isSome = true
  fr : ∀ j, w.frozen? ⟨g, j, none⟩ = false
  but : ∀ k, k < W.heap.size → k ≠ g → w.heap[k]? = W.heap[k]?
  below : Below g W w
theorem Bst.put {g : Nat} {p : Tx.Bs} {W w : World} {n i : Nat} (h : Bst g p W n i w) (hi : i < n) {q : Nat} (hq : q = Tx.bord p i) : Bst g p W n (i + 1) (w.setCell ⟨g, i, none⟩ (.int .i64 (q : Int))) := by
  have hs := World.cell?_setCell_same' w ⟨g, i, none⟩ (.int .i64 (q : Int)) (h.some_ i hi)
  have ho : ∀ j, j ≠ i → (w.setCell ⟨g, i, none⟩ (.int .i64 (q : Int))).cell? ⟨g, j, none⟩ = w.cell? ⟨g, j, none⟩ := fun j hj => World.cell?_setCell_other _ _ _ _ (by intro e; injection e with _ e; exact hj e.symm)
  refine ⟨fun j hj => ?_, fun j hj => ?_, fun j => by rw [World.frozen?_setCell]; exact h.fr j, fun k hk hne => (Below.heap_setCell _ _ _ _ (by simpa using hne)).trans (h.but k hk hne), h.below.setCell (p := ⟨g, i, none⟩) (Nat.le_refl _) _⟩
  · by_cases e : j = i
    · rw [e, hs, hq]
    · rw [ho j e]; exact h.tab j (by omega)
  · by_cases e : j = i
    · rw [e, hs]; rfl
    · rw [ho j e]; exact h.some_ j hj
set_option maxHeartbeats 8000000 in
set_option maxRecDepth 20000 in
theorem borders_is {p : ByteArray} (hp : p.size ≤ 1048576) (w : World) :
    Calls Try.prog 50 #[.string p] w fun e' w' => ∃ g, e' = .returned (.slice (some ⟨g, 0, none⟩) p.size p.size) ∧ w.heap.size ≤ g ∧ g < w'.heap.size ∧ Hid (Tab g p.data.toList p.size w') ∧ Below w.heap.size w w' := by
  obtain ⟨i0, hi, hz0, hz1, hz2⟩ := info_three infoIntT
  obtain ⟨M, hM⟩ : ∃ M, M = madeCells (Value.int .i64 0).cells (p.size * i0.size) := ⟨_, rfl⟩
  have hMs : M.size = p.size := by rw [hM, size_madeCells, hz1]; simp
  have hmk : ∀ W : World, (Instr.makeSlice 71 (.int .i64 (p.size : Int)) (.int .i64 (p.size : Int))).run Try.prog W = .ok (.slice (some ⟨W.heap.size, 0, none⟩) p.size p.size) (W.alloc (.cells M 3)) := fun W => by
    have h := run_make (P := Try.prog) W 71 3 i0 (.int .i64 0) Try.underlying71 hi hz0 .i64 .i64 (p.size : Int) (p.size : Int) (by omega) (by omega) (by rw [hz2]; omega) (by omega)
    rw [Int.toNat_natCast, ← hM] at h
    exact h
  obtain ⟨W0, hW0⟩ : ∃ W0, W0 = w.alloc (.cells M 3) := ⟨_, rfl⟩
  obtain ⟨cap, W, hcv, hbW, hsW, hcW⟩ := bytes_conv p W0
  have hs0 : W0.heap.size = w.heap.size + 1 := by rw [hW0]; simp
  have hg0 : W0.heap[w.heap.size]? = some (.cells M 3) := by rw [hW0]; exact heap_alloc_new w _
  have hgW : W.heap[w.heap.size]? = some (.cells M 3) := (hbW.block _ (by omega)).trans hg0
  have HST : Hid (Bst w.heap.size p.data.toList W p.size 0 W) := (show Bst _ _ _ _ _ _ from
    ⟨fun j hj => absurd hj (Nat.not_lt_zero j), fun j hj => by unfold World.cell?; rw [hgW]; simp [hMs, hj], fun j => by unfold World.frozen?; rw [hgW]; simp, fun k _ _ => rfl, Below.refl _ _⟩)
  have HB0 : Hid (Below w.heap.size w W) := (show Below _ _ _ from ((by rw [hW0]; exact (Below.refl _ w).alloc (Nat.le_refl _) _ : Below w.heap.size w W0)).trans (hbW.mono (by omega)))
  have HGW : Hid (w.heap.size + 2 ≤ W.heap.size) := (show _ ≤ _ by omega)
  have HCW := Lib.hid hcW
  have HW0 := Lib.hid hW0
  rw [hW0] at hcv
  have HS0 := Lib.hid hs0
  clear hM hMs hi hz0 hz1 hz2 hbW hsW hcW hW0 hs0 hg0 hgW
  go_enter Try.func50, Try.ntmps50
  go_wp2_with fail
  go_loopw [4, 13] (fun v4 v13 wr => ∃ (i h : Nat), v13 = .int .i64 (i : Int) ∧ v4 = .int .i64 (h : Int) ∧ i ≤ p.size ∧ Hid (Tx.lng p.data.toList ((p.data.toList.take i).drop 1) = h) ∧ Hid (Bst w.heap.size p.data.toList W p.size i wr)) (fun _ v13 _ => p.size - (intOf v13).toNat)
  case atStart => exact ⟨0, 0, rfl, rfl, Nat.zero_le _, (show _ = _ by rw [List.take_zero, List.drop_nil, Tx.lng_nil]), HST⟩
  case round =>
    clear HST
    obtain ⟨i, h, rfl, rfl, hi, HH, HB⟩ := hrel
    by_cases hlt : i < p.size
    · have c0 := (World.cell?_of_block (a := ⟨W0.heap.size, i, none⟩) (HB.out.but W0.heap.size (by have := HGW.out; have := HS0.out; omega) (by have := HS0.out; omega))).trans (HCW.out i hlt)
      rw [HS0.out] at c0
      have hfr := HB.out.fr i
      obtain ⟨us, hsm⟩ := Option.isSome_iff_exists.1 (HB.out.some_ i hlt)
      have hgb := get_byte hlt
      cases i with
      | zero =>
        have hb0 : Tx.bord p.data.toList 0 = 0 := Nat.le_zero.1 (Tx.bord_le _ _)
        obtain rfl : h = 0 := by rw [← HH.out, List.take_zero, List.drop_nil, Tx.lng_nil]
        have HB2 := Lib.hid (HB.out.put hlt hb0.symm)
        have HH2 : Hid (Tx.lng p.data.toList ((p.data.toList.take 1).drop 1) = 0) := (show _ = _ from hb0)
        clear HH HB hgb hb0
        go_wp2_with fail
        go_roundw
        case rel => exact ⟨1, 0, by go_num, by go_num, by omega, HH2, HB2⟩
        case measure => simp [intOf]; omega
      | succ i =>
        have hhl : h < i + 1 := by
          have := Tx.lng_len p.data.toList ((p.data.toList.take (i + 1)).drop 1)
          rw [HH.out, List.length_drop, List.length_take] at this
          omega
        have hn := Tx.bord_next (Nat.succ_pos i) hgb
        obtain ⟨m, hm⟩ : ∃ m, Tx.bord p.data.toList (i + 1) = m := ⟨_, rfl⟩
        have HM : Hid (Tx.lng p.data.toList ((p.data.toList.take (i + 1)).drop 1 ++ [p[i + 1]]) = m) := (show _ = _ by rw [hn]; exact hm)
        have HH2 : Hid (Tx.lng p.data.toList ((p.data.toList.take (i + 1 + 1)).drop 1) = m) := (show _ = _ from hm)
        have HC := Tx.cand_first p.data.toList ((p.data.toList.take (i + 1)).drop 1) p[i + 1]
        have HS := Tx.lng_suf p.data.toList ((p.data.toList.take (i + 1)).drop 1)
        rw [HH.out] at HC HS
        have hc := Lib.hid (longer_is (g := w.heap.size) (cap := p.size) (by omega) hp (Lib.hid HS) (Lib.hid HC) HM wr (show Tab _ _ _ _ from fun j hj => HB.out.tab j (by omega)))
        have HB2 := Lib.hid (HB.out.put hlt hm.symm)
        have h0 : (0 : Int) < (i : Int) + 1 := by omega
        have hlt' : (i : Int) + 1 < (p.size : Int) := by omega
        clear HH HB hgb hn hm HM HC HS hhl
        go_wp2_with (go_at_call 51; refine hc.out.mono ?_; clear hc; rintro e w2 ⟨rfl, rfl⟩)
        go_roundw
        case rel => exact ⟨i + 1 + 1, m, by go_num, rfl, by omega, HH2, HB2⟩
        case measure => simp [intOf]; omega
    · obtain rfl : i = p.size := by omega
      have HR : Hid (w.heap.size < wr.heap.size ∧ Hid (Tab w.heap.size p.data.toList p.size wr) ∧ Below w.heap.size w wr) := (show _ ∧ _ from
        ⟨by have := HB.out.below.size; have := HGW.out; omega, Lib.hid HB.out.tab, HB0.out.trans HB.out.below⟩)
      clear HH HB
      go_wp2_with fail
      go_ret
      exact ⟨_, rfl, Nat.le_refl _, HR.out⟩
end Go.Proofs.Ytcpjogjkjbillaa
