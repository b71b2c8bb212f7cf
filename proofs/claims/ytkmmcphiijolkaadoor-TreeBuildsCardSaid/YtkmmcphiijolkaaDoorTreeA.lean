/-
  Trees that came in; whether all Kids are kids, at this program.
-/
import Derived.Test.YtkmmcphiijolkaaDoorN
import Derived.Below
import Derived.Lib.Hide
import Derived.Deep.OwnRows
import Derived.Laws.MakeOwn
set_option linter.unusedVariables false
set_option linter.unusedSimpArgs false
namespace Go.Proofs.YtkmmcphiijolkaaDoor
open Go.RowKit Go.Shelf
namespace Tr

/-- A node's data: its Op, its At, its S, its N, its Kids. -/
abbrev NodeD := Int × Int × Sp.Bs × Int × List Int
/-- The nodes that stand among the Kids gone over so far, or none if one is no kid, or stands there already. -/
def tieKids (i : Nat) : (Nat → Bool) → List Int → Option (Nat → Bool)
  | st, [] => some st
  | st, k :: ks => if k < 0 ∨ (i : Int) ≤ k then none else if st k.toNat = true then none else tieKids i (fun j => if j = k.toNat then true else st j) ks
def tieAll : Nat → (Nat → Bool) → List NodeD → Option (Nat → Bool)
  | _, st, [] => some st
  | i, st, x :: xs => match tieKids i st x.2.2.2.2 with
    | none => none
    | some st' => tieAll (i + 1) st' xs
def tied (t : List NodeD) : Bool := match tieAll 0 (fun _ => false) t with
  | none => false
  | some st => (List.range (t.length - 1)).all st && decide (0 < t.length)
end Tr
open Tr

/-- A row of numbers. -/
def KRow (v : Value) (l : List Int) (w : World) : Prop := ∃ pa cap, v = .slice pa l.length cap ∧ (∀ k c, l[k]? = some c → ∃ g o, pa = some ⟨g, o, none⟩ ∧ g < w.heap.size ∧ w.cell? ⟨g, o + k, none⟩ = some (.int .i64 c)) ∧ l.length ≤ cap
theorem KRow.below {v : Value} {l : List Int} {w w' : World} (h : KRow v l w) (hb : Below w.heap.size w w') : KRow v l w' := by
  obtain ⟨pa, cap, e, hc⟩ := h
  refine ⟨pa, cap, e, fun k c hk => ?_, hc.2⟩
  obtain ⟨g, o, e2, hg, a0⟩ := hc.1 k c hk
  exact ⟨g, o, e2, Nat.lt_of_lt_of_le hg hb.size, (hb.cell (p := ⟨g, _, none⟩) hg).trans a0⟩
/-- A tree: its nodes lie one behind the other. -/
def ArgT (v : Value) (l : List NodeD) (w : World) : Prop := ∃ pa cap, v = .slice pa l.length cap ∧ ∀ k x, l[k]? = some x → ∃ g o vk, pa = some ⟨g, o, none⟩ ∧ g < w.heap.size ∧
    w.cell? ⟨g, o + k * 5, none⟩ = some (.int .i64 x.1) ∧ w.cell? ⟨g, o + k * 5 + 1, none⟩ = some (.int .i64 x.2.1) ∧ w.cell? ⟨g, o + k * 5 + 2, none⟩ = some (.string ⟨x.2.2.1.toArray⟩) ∧ w.cell? ⟨g, o + k * 5 + 3, none⟩ = some (.int .i64 x.2.2.2.1) ∧ w.cell? ⟨g, o + k * 5 + 4, none⟩ = some vk ∧ KRow vk x.2.2.2.2 w
theorem ArgT.below {v : Value} {l : List NodeD} {w w' : World} (h : ArgT v l w) (hb : Below w.heap.size w w') : ArgT v l w' := by
  obtain ⟨pa, cap, e, hc⟩ := h
  refine ⟨pa, cap, e, fun k x hx => ?_⟩
  obtain ⟨g, o, vk, e2, hg, a0, a1, a2, a3, a4, a5⟩ := hc k x hx
  exact ⟨g, o, vk, e2, Nat.lt_of_lt_of_le hg hb.size, (hb.cell (p := ⟨g, _, none⟩) hg).trans a0, (hb.cell (p := ⟨g, _, none⟩) hg).trans a1, (hb.cell (p := ⟨g, _, none⟩) hg).trans a2, (hb.cell (p := ⟨g, _, none⟩) hg).trans a3, (hb.cell (p := ⟨g, _, none⟩) hg).trans a4, a5.below hb⟩

theorem infoBool : (Tryd.prog.info? 4).map (fun i => (i.zero, i.size, i.bytes)) = some (some (.bool false), 1, 1) := by kernel_rfl
theorem make_bools (n : Nat) (hn : n ≤ 1000000) (w : World) : (Instr.makeSlice 71 (.int .i64 (n : Int)) (.int .i64 (n : Int))).run Tryd.prog w = .ok (.slice (some ⟨w.heap.size, 0, none⟩) n n) (w.alloc (.cells (madeCells #[.bool false] n) 4)) := by
  obtain ⟨i0, hi, hz0, hz1, hz2⟩ := info_parts infoBool
  have h := run_makeSlice (P := Tryd.prog) (w := w) 71 4 i0 _ Tryd.underlying71 hi hz0 .i64 .i64 (n : Int) (n : Int) (by omega) (by omega) (by rw [hz1]; simp; omega) (by rw [hz2]; omega) (by omega)
  rw [hz1] at h
  simp only [Int.toNat_natCast, Nat.mul_one] at h
  exact h

theorem drop_cons {α : Type} (X : List α) (i : Nat) (x : α) (h : X[i]? = some x) : X.drop i = x :: X.drop (i + 1) := by
  obtain ⟨hi, rfl⟩ := List.getElem?_eq_some_iff.1 h
  exact List.drop_eq_getElem_cons hi
theorem tied_none {l : List NodeD} (h : tieAll 0 (fun _ => false) l = none) : tied l = false := by unfold tied; rw [h]

set_option maxHeartbeats 8000000 in
set_option maxRecDepth 100000 in
theorem tied_any (v : Value) (l : List NodeD) (w : World) (ha : ArgT v l w) (hl : l.length ≤ 1000000) (hks : ∀ x ∈ l, x.2.2.2.2.length ≤ maxLen) : Calls Tryd.prog 23 #[v] w fun e w' => e = .returned (.bool (tied l)) ∧ Below w.heap.size w w' := by
  obtain ⟨pa, ca, rfl, fa⟩ := ha
  have FA := Lib.hid fa
  have HKS := Lib.hid hks
  have hmk := make_bools l.length hl
  have hrow0 := World.rowIs_made w (.bool false) l.length 4
  obtain ⟨n, hn⟩ : ∃ n, n = l.length := ⟨_, rfl⟩
  rw [← hn] at hmk hrow0 hl ⊢
  have HN := Lib.hid hn
  clear fa hks hn
  go_enter Tryd.func23, Tryd.ntmps23
  go_wp2_with fail
  go_loopw [14] (fun v14 wr => ∃ (i : Nat) (st : Nat → Bool), v14 = .int .i64 (i : Int) ∧ i ≤ n ∧ wr.rowIs w.heap.size 4 n (fun j => .bool (st j)) ∧ Below w.heap.size w wr ∧ Hid (tieAll 0 (fun _ => false) l = tieAll i st (l.drop i))) (fun v14 _ => n - (intOf v14).toNat)
  case atStart => exact ⟨0, fun _ => false, rfl, Nat.zero_le _, hrow0, (Below.refl _ w).alloc (Nat.le_refl _) _, rfl⟩
  case round =>
    obtain ⟨i, st, rfl, hi, hrow, hbel, HT⟩ := hrel
    by_cases hlt : i < n
    · obtain ⟨x, hx⟩ : ∃ x, l[i]? = some x := ⟨_, List.getElem?_eq_getElem (by rw [← HN.out]; exact hlt)⟩
      have hkl := HKS.out x (List.mem_of_getElem? hx)
      unfold maxLen at hkl
      obtain ⟨g, o, vk, rfl, hg, a0, a1, a2, a3, a4, a5⟩ := FA.out i x hx
      have b0 := (hbel.cell (p := ⟨g, o + i * 5, none⟩) hg).trans a0
      have b1 := (hbel.cell (p := ⟨g, o + i * 5 + 1, none⟩) hg).trans a1
      have b2 := (hbel.cell (p := ⟨g, o + i * 5 + 2, none⟩) hg).trans a2
      have b3 := (hbel.cell (p := ⟨g, o + i * 5 + 3, none⟩) hg).trans a3
      have b4 := (hbel.cell (p := ⟨g, o + i * 5 + 4, none⟩) hg).trans a4
      have hd := drop_cons l i x hx
      have hti := HT.out
      rw [hd, tieAll] at hti
      obtain ⟨x0, x1, x2, x3, ks⟩ := x
      simp only at hkl b0 b1 b2 b3 b4 a5 hti
      obtain ⟨pk, ck, rfl, fk⟩ := a5
      have FK := Lib.hid fk.1
      have HTI := Lib.hid hti
      obtain ⟨m, hm⟩ : ∃ m, m = ks.length := ⟨_, rfl⟩
      rw [← hm] at hkl b4
      have HM := Lib.hid hm
      have hrs := hrow.lt
      have hwr : w.heap.size ≤ wr.heap.size := hbel.size
      clear hx hd hti a0 a1 a2 a3 a4 fk hm HT FA HKS
      go_wp2_with fail
      go_loopw [22] (fun v22 wk => ∃ (j : Nat) (st2 : Nat → Bool), v22 = .int .i64 (j : Int) ∧ j ≤ m ∧ wk.rowIs w.heap.size 4 n (fun j => .bool (st2 j)) ∧ Below w.heap.size w wk ∧ Hid (tieKids i st ks = tieKids i st2 (ks.drop j))) (fun v22 _ => m - (intOf v22).toNat)
      case atStart => exact ⟨0, st, rfl, Nat.zero_le _, hrow.alloc _, hbel.alloc hwr _, rfl⟩
      case round =>
        obtain ⟨j, st2, rfl, hj, hrow2, hbel2, HI⟩ := hrel
        by_cases hjm : j < m
        · obtain ⟨c, hc⟩ : ∃ c, ks[j]? = some c := ⟨_, List.getElem?_eq_getElem (by rw [← HM.out]; exact hjm)⟩
          obtain ⟨gk, ok, rfl, hgk, ac⟩ := FK.out j c hc
          have bc := (hbel2.cell (p := ⟨gk, ok + j, none⟩) hgk).trans ac
          have hd2 := drop_cons ks j c hc
          have hii := HI.out
          rw [hd2, tieKids] at hii
          clear ac hc hd2 FK HI
          by_cases h1 : c < 0
          · rw [if_pos (Or.inl h1)] at hii
            have HF : Hid (tied l = false) := tied_none (by rw [HTI.out, hii])
            clear hii HTI HM HN
            go_wp2_with fail
            go_ret
            exact ⟨ret_bool HF.out.symm, hbel2⟩
          · by_cases h2 : (i : Int) ≤ c
            · rw [if_pos (Or.inr h2)] at hii
              have HF : Hid (tied l = false) := tied_none (by rw [HTI.out, hii])
              clear hii HTI HM HN
              go_wp2_with fail
              go_ret
              exact ⟨ret_bool HF.out.symm, hbel2⟩
            · rw [if_neg (by omega)] at hii
              obtain ⟨k, rfl⟩ : ∃ k : Nat, c = (k : Int) := ⟨c.toNat, by omega⟩
              have hki : k < i := by omega
              have hkn : k < n := by omega
              have hcell := hrow2.cell hkn
              have hfz := hrow2.frozen k
              rw [Int.toNat_natCast] at hii
              cases hb : st2 k with
              | true =>
                rw [if_pos hb] at hii
                rw [hb] at hcell
                have HF : Hid (tied l = false) := tied_none (by rw [HTI.out, hii])
                clear hii HTI HM HN hb
                go_wp2_with fail
                go_ret
                exact ⟨ret_bool HF.out.symm, hbel2⟩
              | false =>
                rw [if_neg (by rw [hb]; simp)] at hii
                rw [hb] at hcell
                have HI2 := Lib.hid hii
                have hrow3 := (hrow2.set k (.bool true)).congr (g := fun j => .bool (if j = k then true else st2 j)) (fun j _ => by by_cases h : j = k <;> simp [h])
                have hbel3 := hbel2.setCell (p := ⟨w.heap.size, k, none⟩) (Nat.le_refl _) (.bool true)
                clear hii HTI HM HN hb hrow2 hbel2
                go_wp2_with fail
                exact ⟨⟨j + 1, _, by go_num, by omega, hrow3, hbel3, HI2⟩, by simp [intOf]; omega⟩
        · obtain rfl : j = m := by omega
          have HT2 : Hid (tieAll 0 (fun _ => false) l = tieAll (i + 1) st2 (l.drop (i + 1))) := by
            show _ = _
            have h := HI.out
            rw [HM.out, List.drop_length] at h
            rw [HTI.out, h]
            cases ks <;> rfl
          clear HI HTI FK HM HN
          go_wp2_with fail
          exact ⟨⟨i + 1, st2, by go_num, by omega, hrow2, hbel2, HT2⟩, by simp [intOf]; omega⟩
    · obtain rfl : i = n := by omega
      have HS : Hid (tieAll 0 (fun _ => false) l = some st) := by
        show _ = _
        rw [HT.out, HN.out, List.drop_length]
        cases l <;> rfl
      have HD : Hid (tied l = ((List.range (i - 1)).all st && decide (0 < i))) := by
        show _ = _
        unfold tied
        rw [HS.out, ← HN.out]
      clear HT HS HN FA HKS
      go_wp2_with fail
      go_loop [47] (fun v47 => ∃ k : Nat, v47 = .int .i64 (k : Int) ∧ k ≤ i ∧ Hid (∀ j, j < k → st j = true)) (fun v47 => i - (intOf v47).toNat)
      case atStart => exact ⟨0, rfl, Nat.zero_le _, fun j hj => by omega⟩
      case round =>
        obtain ⟨k, rfl, hk, HK⟩ := hrel
        by_cases hlt2 : k + 1 < i
        · have hki : k < i := by omega
          have hcell := hrow.cell hki
          have hci : (k : Int) < (i : Int) - 1 := by omega
          cases hb : st k with
          | true =>
            rw [hb] at hcell
            have HK2 : Hid (∀ j, j < k + 1 → st j = true) := by
              intro j hj
              rcases Nat.lt_or_ge j k with h | h
              · exact HK.out j h
              · obtain rfl : j = k := by omega
                exact hb
            clear hb HK HD
            go_wp2_with fail
            exact ⟨⟨k + 1, by go_num, by omega, HK2⟩, by simp [intOf]; omega⟩
          | false =>
            rw [hb] at hcell
            have HF : Hid (tied l = false) := by
              show _ = _
              rw [HD.out]
              have : (List.range (i - 1)).all st = false := by
                rw [Bool.eq_false_iff]
                intro h
                have := List.all_eq_true.1 h k (List.mem_range.2 (by omega))
                rw [hb] at this
                cases this
              rw [this]
              rfl
            clear hb HK HD
            go_wp2_with fail
            go_ret
            exact ⟨ret_bool HF.out.symm, hbel⟩
        · have hci : ¬ (k : Int) < (i : Int) - 1 := by omega
          have HF : Hid (tied l = decide (0 < i)) := by
            show _ = _
            rw [HD.out]
            have : (List.range (i - 1)).all st = true := by
              rw [List.all_eq_true]
              intro j hj
              exact HK.out j (by have := List.mem_range.1 hj; omega)
            rw [this]
            rfl
          clear HK HD
          go_wp2_with fail
          go_ret
          exact ⟨ret_bool (by rw [HF.out]), hbel⟩
end Go.Proofs.YtkmmcphiijolkaaDoor
