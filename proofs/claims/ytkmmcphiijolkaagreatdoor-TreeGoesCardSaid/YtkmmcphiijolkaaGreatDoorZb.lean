/-
  Texts of the tree package put behind one another: TreeA, TreeP, MkA, TreeC, TreeD, TreeE, TreeAA, TreeR.
-/
import Derived.Test.YtkmmcphiijolkaaGreatDoorZa
import Derived.Below
import Derived.Lib.Hide
import Derived.Deep.OwnRows
import Derived.Laws.MakeOwn
import Derived.Laws.EntriesVeiled
import Derived.Deep.DeepCutAuto
import Derived.Shelf.RegionOpen
import Derived.Deep.AppendLies
import Derived.Maps.AppendAt
import Derived.Laws.OwnMore
import Derived.RangeFuncNested
import Derived.RangeFuncBound
import Derived.RangeFuncCalls
import Derived.RangeFuncLeaves
import Derived.Shelf.Abstract
set_option linter.unusedVariables false
set_option linter.unusedSimpArgs false
namespace Go.Proofs.YtkmmcphiijolkaaGreatDoor
open Go.RowKit Go.Shelf
namespace Tr

/-- A node's data: its Op, its At, its S, its N, its Kids. -/
abbrev NodeD := Int × Int × Sp.Bs × Int × List Int
/-- The nodes that stand among the Kids gone over so far, or none if one is no kid, or stands there already. -/
def tieKids (i : Nat) : (Nat → Bool) → List Int → Option (Nat → Bool)
  | st, [] => some st
  | st, k :: ks => if k < 0 ∨ (i : Int) ≤ k then none else if st k.toNat = true then none else tieKids i (fun j => if j = k.toNat then true else st j) ks
def tieAll : Nat → (Nat → Bool) → List NodeD → Option (Nat → Bool)
  | _, st, [] => some st
  | i, st, x :: xs => match tieKids i st x.2.2.2.2 with
    | none => none
    | some st' => tieAll (i + 1) st' xs
def tied (t : List NodeD) : Bool := match tieAll 0 (fun _ => false) t with
  | none => false
  | some st => (List.range (t.length - 1)).all st && decide (0 < t.length)
end Tr
open Tr

/-- A row of numbers. -/
def KRow (v : Value) (l : List Int) (w : World) : Prop := ∃ pa cap, v = .slice pa l.length cap ∧ (∀ k c, l[k]? = some c → ∃ g o, pa = some ⟨g, o, none⟩ ∧ g < w.heap.size ∧ w.cell? ⟨g, o + k, none⟩ = some (.int .i64 c)) ∧ l.length ≤ cap
theorem KRow.below {v : Value} {l : List Int} {w w' : World} (h : KRow v l w) (hb : Below w.heap.size w w') : KRow v l w' := by
  obtain ⟨pa, cap, e, hc⟩ := h
  refine ⟨pa, cap, e, fun k c hk => ?_, hc.2⟩
  obtain ⟨g, o, e2, hg, a0⟩ := hc.1 k c hk
  exact ⟨g, o, e2, Nat.lt_of_lt_of_le hg hb.size, (hb.cell (p := ⟨g, _, none⟩) hg).trans a0⟩
/-- A tree: its nodes lie one behind the other. -/
def ArgT (v : Value) (l : List NodeD) (w : World) : Prop := ∃ pa cap, v = .slice pa l.length cap ∧ ∀ k x, l[k]? = some x → ∃ g o vk, pa = some ⟨g, o, none⟩ ∧ g < w.heap.size ∧
    w.cell? ⟨g, o + k * 5, none⟩ = some (.int .i64 x.1) ∧ w.cell? ⟨g, o + k * 5 + 1, none⟩ = some (.int .i64 x.2.1) ∧ w.cell? ⟨g, o + k * 5 + 2, none⟩ = some (.string ⟨x.2.2.1.toArray⟩) ∧ w.cell? ⟨g, o + k * 5 + 3, none⟩ = some (.int .i64 x.2.2.2.1) ∧ w.cell? ⟨g, o + k * 5 + 4, none⟩ = some vk ∧ KRow vk x.2.2.2.2 w
theorem ArgT.below {v : Value} {l : List NodeD} {w w' : World} (h : ArgT v l w) (hb : Below w.heap.size w w') : ArgT v l w' := by
  obtain ⟨pa, cap, e, hc⟩ := h
  refine ⟨pa, cap, e, fun k x hx => ?_⟩
  obtain ⟨g, o, vk, e2, hg, a0, a1, a2, a3, a4, a5⟩ := hc k x hx
  exact ⟨g, o, vk, e2, Nat.lt_of_lt_of_le hg hb.size, (hb.cell (p := ⟨g, _, none⟩) hg).trans a0, (hb.cell (p := ⟨g, _, none⟩) hg).trans a1, (hb.cell (p := ⟨g, _, none⟩) hg).trans a2, (hb.cell (p := ⟨g, _, none⟩) hg).trans a3, (hb.cell (p := ⟨g, _, none⟩) hg).trans a4, a5.below hb⟩

theorem infoBool : (Tryz.prog.info? 4).map (fun i => (i.zero, i.size, i.bytes)) = some (some (.bool false), 1, 1) := by kernel_rfl
theorem make_bools (n : Nat) (hn : n ≤ 1000000) (w : World) : (Instr.makeSlice 79 (.int .i64 (n : Int)) (.int .i64 (n : Int))).run Tryz.prog w = .ok (.slice (some ⟨w.heap.size, 0, none⟩) n n) (w.alloc (.cells (madeCells #[.bool false] n) 4)) := by
  obtain ⟨i0, hi, hz0, hz1, hz2⟩ := info_parts infoBool
  have h := run_makeSlice (P := Tryz.prog) (w := w) 79 4 i0 _ Tryz.underlying79 hi hz0 .i64 .i64 (n : Int) (n : Int) (by omega) (by omega) (by rw [hz1]; simp; omega) (by rw [hz2]; omega) (by omega)
  rw [hz1] at h
  simp only [Int.toNat_natCast, Nat.mul_one] at h
  exact h

theorem drop_cons {α : Type} (X : List α) (i : Nat) (x : α) (h : X[i]? = some x) : X.drop i = x :: X.drop (i + 1) := by
  obtain ⟨hi, rfl⟩ := List.getElem?_eq_some_iff.1 h
  exact List.drop_eq_getElem_cons hi
theorem tied_none {l : List NodeD} (h : tieAll 0 (fun _ => false) l = none) : tied l = false := by unfold tied; rw [h]

set_option maxHeartbeats 8000000 in
set_option maxRecDepth 100000 in
theorem tied_any (v : Value) (l : List NodeD) (w : World) (ha : ArgT v l w) (hl : l.length ≤ 1000000) (hks : ∀ x ∈ l, x.2.2.2.2.length ≤ maxLen) : Calls Tryz.prog 26 #[v] w fun e w' => e = .returned (.bool (tied l)) ∧ Below w.heap.size w w' := by
  obtain ⟨pa, ca, rfl, fa⟩ := ha
  have FA := Lib.hid fa
  have HKS := Lib.hid hks
  have hmk := make_bools l.length hl
  have hrow0 := World.rowIs_made w (.bool false) l.length 4
  obtain ⟨n, hn⟩ : ∃ n, n = l.length := ⟨_, rfl⟩
  rw [← hn] at hmk hrow0 hl ⊢
  have HN := Lib.hid hn
  clear fa hks hn
  go_enter Tryz.func26, Tryz.ntmps26
  go_wp2_with fail
  go_loopw [14] (fun v14 wr => ∃ (i : Nat) (st : Nat → Bool), v14 = .int .i64 (i : Int) ∧ i ≤ n ∧ wr.rowIs w.heap.size 4 n (fun j => .bool (st j)) ∧ Below w.heap.size w wr ∧ Hid (tieAll 0 (fun _ => false) l = tieAll i st (l.drop i))) (fun v14 _ => n - (intOf v14).toNat)
  case atStart => exact ⟨0, fun _ => false, rfl, Nat.zero_le _, hrow0, (Below.refl _ w).alloc (Nat.le_refl _) _, rfl⟩
  case round =>
    obtain ⟨i, st, rfl, hi, hrow, hbel, HT⟩ := hrel
    by_cases hlt : i < n
    · obtain ⟨x, hx⟩ : ∃ x, l[i]? = some x := ⟨_, List.getElem?_eq_getElem (by rw [← HN.out]; exact hlt)⟩
      have hkl := HKS.out x (List.mem_of_getElem? hx)
      unfold maxLen at hkl
      obtain ⟨g, o, vk, rfl, hg, a0, a1, a2, a3, a4, a5⟩ := FA.out i x hx
      have b0 := (hbel.cell (p := ⟨g, o + i * 5, none⟩) hg).trans a0
      have b1 := (hbel.cell (p := ⟨g, o + i * 5 + 1, none⟩) hg).trans a1
      have b2 := (hbel.cell (p := ⟨g, o + i * 5 + 2, none⟩) hg).trans a2
      have b3 := (hbel.cell (p := ⟨g, o + i * 5 + 3, none⟩) hg).trans a3
      have b4 := (hbel.cell (p := ⟨g, o + i * 5 + 4, none⟩) hg).trans a4
      have hd := drop_cons l i x hx
      have hti := HT.out
      rw [hd, tieAll] at hti
      obtain ⟨x0, x1, x2, x3, ks⟩ := x
      simp only at hkl b0 b1 b2 b3 b4 a5 hti
      obtain ⟨pk, ck, rfl, fk⟩ := a5
      have FK := Lib.hid fk.1
      have HTI := Lib.hid hti
      obtain ⟨m, hm⟩ : ∃ m, m = ks.length := ⟨_, rfl⟩
      rw [← hm] at hkl b4
      have HM := Lib.hid hm
      have hrs := hrow.lt
      have hwr : w.heap.size ≤ wr.heap.size := hbel.size
      clear hx hd hti a0 a1 a2 a3 a4 fk hm HT FA HKS
      go_wp2_with fail
      go_loopw [22] (fun v22 wk => ∃ (j : Nat) (st2 : Nat → Bool), v22 = .int .i64 (j : Int) ∧ j ≤ m ∧ wk.rowIs w.heap.size 4 n (fun j => .bool (st2 j)) ∧ Below w.heap.size w wk ∧ Hid (tieKids i st ks = tieKids i st2 (ks.drop j))) (fun v22 _ => m - (intOf v22).toNat)
      case atStart => exact ⟨0, st, rfl, Nat.zero_le _, hrow.alloc _, hbel.alloc hwr _, rfl⟩
      case round =>
        obtain ⟨j, st2, rfl, hj, hrow2, hbel2, HI⟩ := hrel
        by_cases hjm : j < m
        · obtain ⟨c, hc⟩ : ∃ c, ks[j]? = some c := ⟨_, List.getElem?_eq_getElem (by rw [← HM.out]; exact hjm)⟩
          obtain ⟨gk, ok, rfl, hgk, ac⟩ := FK.out j c hc
          have bc := (hbel2.cell (p := ⟨gk, ok + j, none⟩) hgk).trans ac
          have hd2 := drop_cons ks j c hc
          have hii := HI.out
          rw [hd2, tieKids] at hii
          clear ac hc hd2 FK HI
          by_cases h1 : c < 0
          · rw [if_pos (Or.inl h1)] at hii
            have HF : Hid (tied l = false) := tied_none (by rw [HTI.out, hii])
            clear hii HTI HM HN
            go_wp2_with fail
            go_ret
            exact ⟨ret_bool HF.out.symm, hbel2⟩
          · by_cases h2 : (i : Int) ≤ c
            · rw [if_pos (Or.inr h2)] at hii
              have HF : Hid (tied l = false) := tied_none (by rw [HTI.out, hii])
              clear hii HTI HM HN
              go_wp2_with fail
              go_ret
              exact ⟨ret_bool HF.out.symm, hbel2⟩
            · rw [if_neg (by omega)] at hii
              obtain ⟨k, rfl⟩ : ∃ k : Nat, c = (k : Int) := ⟨c.toNat, by omega⟩
              have hki : k < i := by omega
              have hkn : k < n := by omega
              have hcell := hrow2.cell hkn
              have hfz := hrow2.frozen k
              rw [Int.toNat_natCast] at hii
              cases hb : st2 k with
              | true =>
                rw [if_pos hb] at hii
                rw [hb] at hcell
                have HF : Hid (tied l = false) := tied_none (by rw [HTI.out, hii])
                clear hii HTI HM HN hb
                go_wp2_with fail
                go_ret
                exact ⟨ret_bool HF.out.symm, hbel2⟩
              | false =>
                rw [if_neg (by rw [hb]; simp)] at hii
                rw [hb] at hcell
                have HI2 := Lib.hid hii
                have hrow3 := (hrow2.set k (.bool true)).congr (g := fun j => .bool (if j = k then true else st2 j)) (fun j _ => by by_cases h : j = k <;> simp [h])
                have hbel3 := hbel2.setCell (p := ⟨w.heap.size, k, none⟩) (Nat.le_refl _) (.bool true)
                clear hii HTI HM HN hb hrow2 hbel2
                go_wp2_with fail
                exact ⟨⟨j + 1, _, by go_num, by omega, hrow3, hbel3, HI2⟩, by simp [intOf]; omega⟩
        · obtain rfl : j = m := by omega
          have HT2 : Hid (tieAll 0 (fun _ => false) l = tieAll (i + 1) st2 (l.drop (i + 1))) := by
            show _ = _
            have h := HI.out
            rw [HM.out, List.drop_length] at h
            rw [HTI.out, h]
            cases ks <;> rfl
          clear HI HTI FK HM HN
          go_wp2_with fail
          exact ⟨⟨i + 1, st2, by go_num, by omega, hrow2, hbel2, HT2⟩, by simp [intOf]; omega⟩
    · obtain rfl : i = n := by omega
      have HS : Hid (tieAll 0 (fun _ => false) l = some st) := by
        show _ = _
        rw [HT.out, HN.out, List.drop_length]
        cases l <;> rfl
      have HD : Hid (tied l = ((List.range (i - 1)).all st && decide (0 < i))) := by
        show _ = _
        unfold tied
        rw [HS.out, ← HN.out]
      clear HT HS HN FA HKS
      go_wp2_with fail
      go_loop [47] (fun v47 => ∃ k : Nat, v47 = .int .i64 (k : Int) ∧ k ≤ i ∧ Hid (∀ j, j < k → st j = true)) (fun v47 => i - (intOf v47).toNat)
      case atStart => exact ⟨0, rfl, Nat.zero_le _, fun j hj => by omega⟩
      case round =>
        obtain ⟨k, rfl, hk, HK⟩ := hrel
        by_cases hlt2 : k + 1 < i
        · have hki : k < i := by omega
          have hcell := hrow.cell hki
          have hci : (k : Int) < (i : Int) - 1 := by omega
          cases hb : st k with
          | true =>
            rw [hb] at hcell
            have HK2 : Hid (∀ j, j < k + 1 → st j = true) := by
              intro j hj
              rcases Nat.lt_or_ge j k with h | h
              · exact HK.out j h
              · obtain rfl : j = k := by omega
                exact hb
            clear hb HK HD
            go_wp2_with fail
            exact ⟨⟨k + 1, by go_num, by omega, HK2⟩, by simp [intOf]; omega⟩
          | false =>
            rw [hb] at hcell
            have HF : Hid (tied l = false) := by
              show _ = _
              rw [HD.out]
              have : (List.range (i - 1)).all st = false := by
                rw [Bool.eq_false_iff]
                intro h
                have := List.all_eq_true.1 h k (List.mem_range.2 (by omega))
                rw [hb] at this
                cases this
              rw [this]
              rfl
            clear hb HK HD
            go_wp2_with fail
            go_ret
            exact ⟨ret_bool HF.out.symm, hbel⟩
        · have hci : ¬ (k : Int) < (i : Int) - 1 := by omega
          have HF : Hid (tied l = decide (0 < i)) := by
            show _ = _
            rw [HD.out]
            have : (List.range (i - 1)).all st = true := by
              rw [List.all_eq_true]
              intro j hj
              exact HK.out j (by have := List.mem_range.1 hj; omega)
            rw [this]
            rfl
          clear HK HD
          go_wp2_with fail
          go_ret
          exact ⟨ret_bool (by rw [HF.out]), hbel⟩
end Go.Proofs.YtkmmcphiijolkaaGreatDoor

set_option linter.unusedVariables false
set_option linter.unusedSimpArgs false
namespace Go.Proofs.YtkmmcphiijolkaaGreatDoor
open Go.RowKit Go.Shelf
namespace Tr
abbrev Test := List NodeD → NodeD → Bool
def isExpr (op : Int) : Bool := decide (1 ≤ op) && decide (op ≤ 21)
def isStmt (op : Int) : Bool := (decide (42 ≤ op) && decide (op ≤ 55)) || (decide (58 ≤ op) && decide (op ≤ 62))
def isTarget (op : Int) : Bool := decide (op = 6) || decide (op = 18) || decide (op = 19)
def nodeAt (t : List NodeD) (k : Int) : NodeD := (t[k.toNat]?).getD (0, 0, [], 0, [])
def tExpr : Test := fun _ x => isExpr x.1
def tStmt : Test := fun _ x => isStmt x.1
def tTarget : Test := fun _ x => isTarget x.1
def tOp (k : Int) : Test := fun _ x => decide (x.1 = k)
def tWide : Test := fun t x => if x.1 = 8 then x.2.2.2.2.all (fun k => isTarget (nodeAt t k).1) && decide (0 < x.2.2.2.2.length) else isTarget x.1
def tNumber : Test := fun _ x => decide (x.2.2.1 = []) && decide (0 ≤ x.2.2.2.1) && decide (x.2.2.2.2.length = 0)
def tEven : Test := fun _ x => decide (x.2.2.2.2.length % 2 = 0)
def defs (t : List NodeD) : Bool → List Int → Bool
  | _, [] => true
  | seen, k :: ks => if seen = true ∧ (nodeAt t k).2.2.2.2.length = 0 then false else defs t (decide (0 < (nodeAt t k).2.2.2.2.length)) ks
def tDefs : Test := fun t x => defs t false x.2.2.2.2.dropLast
def guards (t : List NodeD) : Bool → List Int → Bool
  | _, [] => true
  | ta, k :: ks => if ta = true ∧ (nodeAt t k).1 = 56 then false else guards t (decide ((nodeAt t k).2.2.2.2.length = 1)) ks
def tGuard : Test := fun t x => guards t false (x.2.2.2.2.drop 1) && decide (1 < x.2.2.2.2.length)
def tBoth (a b : Test) : Test := fun t x => a t x && b t x
def tEither (a b : Test) : Test := fun t x => a t x || b t x
/-- How many of a row's first ones are such, so many at most. -/
def greedy (ok : Int → Bool) : Nat → List Int → Nat
  | _, [] => 0
  | m, k :: ks => if 0 < m ∧ ok k = true then greedy ok (m - 1) ks + 1 else 0
/-- A part: what each is; how many at least; how many at most. -/
abbrev PartD := Test × Nat × Nat
def fits (t : List NodeD) : List PartD → List Int → Bool
  | [], r => decide (r.length = 0)
  | p :: ps, r => if greedy (fun k => p.1 t (nodeAt t k)) p.2.2 r < p.2.1 then false else fits t ps (r.drop (greedy (fun k => p.1 t (nodeAt t k)) p.2.2 r))
def tOf (f : Sp.Bs → Bool) (ps : List PartD) : Test := fun t x => decide (x.2.2.2.1 = 0) && f x.2.2.1 && fits t ps x.2.2.2.2
def pOne (T : Test) : PartD := (T, 1, 1)
def pMay (T : Test) : PartD := (T, 0, 1)
def pMany (T : Test) : PartD := (T, 0, 9223372036854775807)
def sEmpty (s : Sp.Bs) : Bool := decide (s = [])
def sShort (s : Sp.Bs) : Bool := decide (s.length ≤ 65536)
def sName (s : Sp.Bs) : Bool := Sp.nm s
def sNameE (s : Sp.Bs) : Bool := decide (s = []) || Sp.nm s
def sArith (s : Sp.Bs) : Bool := decide (s = [43]) || decide (s = [45]) || decide (s = [42]) || decide (s = [47, 47]) || decide (s = [37]) || decide (s = [42, 42])
def sComp (s : Sp.Bs) : Bool := decide (s = [61, 61]) || decide (s = [33, 61]) || decide (s = [60]) || decide (s = [60, 61]) || decide (s = [62]) || decide (s = [62, 61]) || decide (s = [105, 110]) || decide (s = [110, 111, 116, 32, 105, 110]) || decide (s = [105, 115]) || decide (s = [105, 115, 32, 110, 111, 116])
def cutAt (c : UInt8) : Sp.Bs → Sp.Bs × Option Sp.Bs
  | [] => ([], none)
  | x :: l => if x = c then ([], some l) else (x :: (cutAt c l).1, (cutAt c l).2)
def kBare := tOf sEmpty []
def kUnary := tOf sEmpty [pOne tExpr]
def kBinary := tOf sEmpty [pOne tExpr, pOne tExpr]
def kTernary := tOf sEmpty [pOne tExpr, pOne tExpr, pOne tExpr]
def kRow := tOf sEmpty [pMany tExpr]
def tParam := tOp 22
def tBlock := tOp 41
def tHandler := tOp 56
def tFinal := tOp 57
/-- What a node of a kind must be; sNames: whether a text is names. -/
def kindOf (sNames : Sp.Bs → Bool) : List (Int × Test) := [
  (1, kBare), (2, kBare), (3, kBare), (4, tNumber), (5, tOf sShort []), (6, tOf sName []), (7, kRow), (8, kRow), (9, tBoth kRow tEven), (10, kUnary), (11, kUnary),
  (12, tOf sArith [pOne tExpr, pOne tExpr]), (13, tOf sComp [pOne tExpr, pOne tExpr]), (14, kBinary), (15, kBinary), (16, kTernary), (17, tOf sEmpty [pOne tExpr, pMany tExpr]),
  (18, tOf sName [pOne tExpr]), (19, kBinary), (20, kTernary), (21, tBoth (tOf sEmpty [pMany tParam, pOne tExpr]) tDefs), (22, tOf sName [pMay tExpr]),
  (40, tOf sEmpty [pMany tStmt]), (41, tOf sEmpty [pOne tStmt, pMany tStmt]), (42, kUnary), (43, tOf sEmpty [pOne tWide, pOne tExpr]), (44, tOf sArith [pOne tTarget, pOne tExpr]),
  (45, tOf sEmpty [pOne tExpr, pOne tBlock, pMay tBlock]), (46, tOf sEmpty [pOne tExpr, pOne tBlock]), (47, tOf sEmpty [pOne tWide, pOne tExpr, pOne tBlock]), (48, kBare), (49, kBare), (50, kBare),
  (51, tBoth (tOf sName [pMany tParam, pOne tBlock]) tDefs), (52, tOf sName [pMany tExpr, pOne tBlock]), (53, tOf sEmpty [pMay tExpr]), (54, tOf sEmpty [pMay tExpr]),
  (55, tBoth (tOf sEmpty [pOne tBlock, pMany tHandler, pMay tFinal]) tGuard), (56, tEither (tOf sNameE [pOne tExpr, pOne tBlock]) (tOf sEmpty [pOne tBlock])), (57, tOf sEmpty [pOne tBlock]),
  (58, tOf sNames []), (59, tOf sNames []), (60, tOf sEmpty [pOne tTarget]), (61, tOf sEmpty [pOne tExpr, pMay tExpr]), (62, kUnary)]
def look {α : Type} : List (Int × α) → Int → Option α
  | [], _ => none
  | (k, a) :: r, x => if x = k then some a else look r x
def upd (f : Nat → Int) (k : Nat) (v : Int) : Nat → Int := fun j => if j = k then v else f j
/-- The greatest of a start and of those of kids. -/
def deepest (f : Nat → Nat) : Nat → List Int → Nat
  | a, [] => a
  | a, k :: ks => deepest f (max a (f k.toNat)) ks
/-- Are expressions and blocks not too deep, from a node on? -/
def shalGo : Nat → (Nat → Nat) → (Nat → Nat) → List NodeD → Bool
  | _, _, _, [] => true
  | i, dp, bl, x :: xs =>
    if 40 < deepest bl 0 x.2.2.2.2 + (if x.1 = 41 then 1 else 0) ∨ (40 < deepest dp 0 x.2.2.2.2 + 1 ∧ isExpr x.1 = true) then false
    else shalGo (i + 1) (fun j => if j = i then deepest dp 0 x.2.2.2.2 + 1 else dp j) (fun j => if j = i then deepest bl 0 x.2.2.2.2 + (if x.1 = 41 then 1 else 0) else bl j) xs
def shallow (t : List NodeD) : Bool := shalGo 0 (fun _ => 0) (fun _ => 0) t
def kinded (sNames : Sp.Bs → Bool) (t : List NodeD) (x : NodeD) : Bool := match look (kindOf sNames) x.1 with
  | none => false
  | some T => T t x
/-- Is a tree right? -/
def rightT (sNames : Sp.Bs → Bool) (t : List NodeD) : Bool :=
  tied t && decide ((t.getLast?.map (fun x => x.1)) = some 40) && t.all (kinded sNames t) && shallow t
end Tr
open Tr
def awakeT : List NodeD := [(6, 0, [97], 0, []), (4, 0, [], 2, []), (12, 0, [43], 0, [0, 1]), (42, 0, [], 0, [2]), (40, 0, [], 0, [3])]
theorem right_awake (f : Sp.Bs → Bool) : rightT f awakeT = true := by rfl
end Go.Proofs.YtkmmcphiijolkaaGreatDoor

set_option linter.unusedVariables false
set_option linter.unusedSimpArgs false
namespace Go.Proofs.YtkmmcphiijolkaaGreatDoor
open Go.RowKit Go.Shelf
namespace Tr
/-- A tree by itself: a kind, a text, a number, and what is below. -/
inductive Ast where
  | mk (op : Int) (s : List UInt8) (n : Int) (ks : List Ast)
def Ast.op : Ast → Int | .mk op _ _ _ => op
def Ast.txt : Ast → List UInt8 | .mk _ s _ _ => s
def Ast.num : Ast → Int | .mk _ _ n _ => n
def Ast.kids : Ast → List Ast | .mk _ _ _ ks => ks
mutual
def Ast.size : Ast → Nat
  | .mk _ _ _ ks => sizes ks + 1
def sizes : List Ast → Nat
  | [] => 0
  | a :: al => a.size + sizes al
end
/-- The numbers of nodes that stand behind each other, each the last of its own, from i on. -/
def rootsA : Nat → List Ast → List Int
  | _, [] => []
  | i, a :: al => ((i + a.size - 1 : Nat) : Int) :: rootsA (i + a.size) al
mutual
/-- The nodes of a tree, kids ahead, from number i on. -/
def Ast.flat : Nat → Ast → List NodeD
  | i, .mk op s n ks => flats i ks ++ [(op, 0, s, n, rootsA i ks)]
def flats : Nat → List Ast → List NodeD
  | _, [] => []
  | i, a :: al => a.flat i ++ flats (i + a.size) al
end
theorem Ast.size_pos : ∀ a : Ast, 0 < a.size
  | .mk _ _ _ ks => by simp [Ast.size]
mutual
theorem Ast.flat_length : ∀ (i : Nat) (a : Ast), (a.flat i).length = a.size
  | i, .mk op s n ks => by simp [Ast.flat, Ast.size, flats_length i ks]
theorem flats_length : ∀ (i : Nat) (l : List Ast), (flats i l).length = sizes l
  | i, [] => by simp [flats, sizes]
  | i, a :: al => by simp [flats, sizes, Ast.flat_length i a, flats_length (i + a.size) al]
end
theorem sizes_append : ∀ (al bl : List Ast), sizes (al ++ bl) = sizes al + sizes bl
  | [], bl => by simp [sizes]
  | a :: al, bl => by simp [sizes, sizes_append al bl]; omega
theorem flats_append : ∀ (i : Nat) (al bl : List Ast), flats i (al ++ bl) = flats i al ++ flats (i + sizes al) bl
  | i, [], bl => by simp [flats, sizes]
  | i, a :: al, bl => by simp [flats, sizes, flats_append _ al bl, Nat.add_assoc]
theorem rootsA_append : ∀ (i : Nat) (al bl : List Ast), rootsA i (al ++ bl) = rootsA i al ++ rootsA (i + sizes al) bl
  | i, [], bl => by simp [rootsA, sizes]
  | i, a :: al, bl => by simp [rootsA, sizes, rootsA_append _ al bl, Nat.add_assoc]
theorem flats_one (i : Nat) (a : Ast) : flats i [a] = a.flat i := by simp [flats]
theorem rootsA_one (i : Nat) (a : Ast) : rootsA i [a] = [((i + a.size - 1 : Nat) : Int)] := by simp [rootsA]
theorem rootsA_length : ∀ (i : Nat) (al : List Ast), (rootsA i al).length = al.length
  | i, [] => rfl
  | i, a :: al => by simp [rootsA, rootsA_length _ al]
theorem rootsA_lt : ∀ (i : Nat) (al : List Ast), ∀ k ∈ rootsA i al, (i : Int) ≤ k ∧ k < ((i + sizes al : Nat) : Int)
  | i, [], k, h => by simp [rootsA] at h
  | i, a :: al, k, h => by
    have hp := a.size_pos
    rcases List.mem_cons.1 h with rfl | h
    · simp only [sizes]; omega
    · have := rootsA_lt (i + a.size) al k h
      simp only [sizes]; omega
end Tr
end Go.Proofs.YtkmmcphiijolkaaGreatDoor

set_option linter.unusedVariables false
set_option linter.unusedSimpArgs false
namespace Go.Proofs.YtkmmcphiijolkaaGreatDoor
open Go.RowKit Go.Shelf
open Tr

/-- A node that is handed over. -/
def NodeV (nv : Value) (x : NodeD) (w : World) : Prop := ∃ vk, nv = .agg #[.int .i64 x.1, .int .i64 x.2.1, .string ⟨x.2.2.1.toArray⟩, .int .i64 x.2.2.2.1, vk] ∧ KRow vk x.2.2.2.2 w
theorem box5 {w wr : World} {a b c d e : Value} {T : TypeId} {N : Nat} {fr : Nat × Nat} (h : wr.heap[N]? = some (.cells #[a, b, c, d, e] T fr)) : wr.cell? ⟨N, 0, none⟩ = some a ∧ wr.cell? ⟨N, 1, none⟩ = some b ∧ wr.cell? ⟨N, 2, none⟩ = some c ∧ wr.cell? ⟨N, 3, none⟩ = some d ∧ wr.cell? ⟨N, 4, none⟩ = some e := by
  simp [World.cell?, h]

theorem NodeV.below {nv : Value} {x : NodeD} {w w' : World} (h : NodeV nv x w) (hb : Below w.heap.size w w') : NodeV nv x w' := by
  obtain ⟨vk, e, h⟩ := h
  exact ⟨vk, e, h.below hb⟩

set_option maxHeartbeats 4000000 in
theorem expr_any (tv nv : Value) (x : NodeD) (w : World) (hn : NodeV nv x w) : Calls Tryz.prog 55 #[tv, nv] w fun e w' => e = .returned (.bool (isExpr x.1)) ∧ Below w.heap.size w w' := by
  obtain ⟨vk, rfl, pk, ck, rfl, fk⟩ := hn
  clear fk
  obtain ⟨x0, x1, x2, x3, ks⟩ := x
  simp only
  obtain ⟨m, hm⟩ : ∃ m, m = ks.length := ⟨_, rfl⟩
  rw [← hm]
  have HM := Lib.hid hm
  clear hm
  by_cases h0 : 1 ≤ x0
  · skip
    by_cases h1 : x0 ≤ 21
    · skip
      have HR : Hid (isExpr x0 = true) := by show _ = _; simp [isExpr, h0, h1]
      rw [HR.out]
      clear HR
      go_enter Tryz.func55, Tryz.ntmps55
      go_wp2_with fail
      go_ret
      exact ⟨ret_bool (by first | rfl | simp [*] | (simp; omega)), (Below.refl _ _).alloc (Nat.le_refl _) _⟩
    · skip
      have HR : Hid (isExpr x0 = false) := by show _ = _; simp [isExpr, h0, h1]
      rw [HR.out]
      clear HR
      go_enter Tryz.func55, Tryz.ntmps55
      go_wp2_with fail
      go_ret
      exact ⟨ret_bool (by first | rfl | simp [*] | (simp; omega)), (Below.refl _ _).alloc (Nat.le_refl _) _⟩
  · skip
    have HR : Hid (isExpr x0 = false) := by show _ = _; simp [isExpr, h0]
    rw [HR.out]
    clear HR
    go_enter Tryz.func55, Tryz.ntmps55
    go_wp2_with fail
    go_ret
    exact ⟨ret_bool (by first | rfl | simp [*] | (simp; omega)), (Below.refl _ _).alloc (Nat.le_refl _) _⟩

set_option maxHeartbeats 4000000 in
theorem target_any (tv nv : Value) (x : NodeD) (w : World) (hn : NodeV nv x w) : Calls Tryz.prog 69 #[tv, nv] w fun e w' => e = .returned (.bool (isTarget x.1)) ∧ Below w.heap.size w w' := by
  obtain ⟨vk, rfl, pk, ck, rfl, fk⟩ := hn
  clear fk
  obtain ⟨x0, x1, x2, x3, ks⟩ := x
  simp only
  obtain ⟨m, hm⟩ : ∃ m, m = ks.length := ⟨_, rfl⟩
  rw [← hm]
  have HM := Lib.hid hm
  clear hm
  by_cases h0 : x0 = 6
  · skip
    have HR : Hid (isTarget x0 = true) := by show _ = _; simp [isTarget, h0]
    rw [HR.out]
    clear HR
    go_enter Tryz.func69, Tryz.ntmps69
    go_wp2_with fail
    go_ret
    exact ⟨ret_bool (by first | rfl | simp [*] | (simp; omega)), (Below.refl _ _).alloc (Nat.le_refl _) _⟩
  · skip
    by_cases h1 : x0 = 18
    · skip
      have HR : Hid (isTarget x0 = true) := by show _ = _; simp [isTarget, h0, h1]
      rw [HR.out]
      clear HR
      go_enter Tryz.func69, Tryz.ntmps69
      go_wp2_with fail
      go_ret
      exact ⟨ret_bool (by first | rfl | simp [*] | (simp; omega)), (Below.refl _ _).alloc (Nat.le_refl _) _⟩
    · skip
      by_cases h2 : x0 = 19
      · skip
        have HR : Hid (isTarget x0 = true) := by show _ = _; simp [isTarget, h0, h1, h2]
        rw [HR.out]
        clear HR
        go_enter Tryz.func69, Tryz.ntmps69
        go_wp2_with fail
        go_ret
        exact ⟨ret_bool (by first | rfl | simp [*] | (simp; omega)), (Below.refl _ _).alloc (Nat.le_refl _) _⟩
      · skip
        have HR : Hid (isTarget x0 = false) := by show _ = _; simp [isTarget, h0, h1, h2]
        rw [HR.out]
        clear HR
        go_enter Tryz.func69, Tryz.ntmps69
        go_wp2_with fail
        go_ret
        exact ⟨ret_bool (by first | rfl | simp [*] | (simp; omega)), (Below.refl _ _).alloc (Nat.le_refl _) _⟩

set_option maxHeartbeats 4000000 in
theorem statement_any (tv nv : Value) (x : NodeD) (w : World) (hn : NodeV nv x w) : Calls Tryz.prog 67 #[tv, nv] w fun e w' => e = .returned (.bool (isStmt x.1)) ∧ Below w.heap.size w w' := by
  obtain ⟨vk, rfl, pk, ck, rfl, fk⟩ := hn
  clear fk
  obtain ⟨x0, x1, x2, x3, ks⟩ := x
  simp only
  obtain ⟨m, hm⟩ : ∃ m, m = ks.length := ⟨_, rfl⟩
  rw [← hm]
  have HM := Lib.hid hm
  clear hm
  by_cases h0 : 42 ≤ x0
  · by_cases h1 : x0 ≤ 55
    · skip
      have HR : Hid (isStmt x0 = true) := by show _ = _; simp [isStmt, h0, h1]
      rw [HR.out]
      clear HR
      go_enter Tryz.func67, Tryz.ntmps67
      go_wp2_with fail
      go_ret
      exact ⟨ret_bool (by first | rfl | simp [*] | (simp; omega)), (Below.refl _ _).alloc (Nat.le_refl _) _⟩
    · by_cases h2 : 58 ≤ x0
      · by_cases h3 : x0 ≤ 62
        · skip
          have HR : Hid (isStmt x0 = true) := by show _ = _; simp [isStmt, h0, h1, h2, h3]
          rw [HR.out]
          clear HR
          go_enter Tryz.func67, Tryz.ntmps67
          go_wp2_with fail
          go_ret
          exact ⟨ret_bool (by first | rfl | simp [*] | (simp; omega)), (Below.refl _ _).alloc (Nat.le_refl _) _⟩
        · skip
          have HR : Hid (isStmt x0 = false) := by show _ = _; simp [isStmt, h0, h1, h2, h3]
          rw [HR.out]
          clear HR
          go_enter Tryz.func67, Tryz.ntmps67
          go_wp2_with fail
          go_ret
          exact ⟨ret_bool (by first | rfl | simp [*] | (simp; omega)), (Below.refl _ _).alloc (Nat.le_refl _) _⟩
      · skip
        have HR : Hid (isStmt x0 = false) := by show _ = _; simp [isStmt, h0, h1, h2]
        rw [HR.out]
        clear HR
        go_enter Tryz.func67, Tryz.ntmps67
        go_wp2_with fail
        go_ret
        exact ⟨ret_bool (by first | rfl | simp [*] | (simp; omega)), (Below.refl _ _).alloc (Nat.le_refl _) _⟩
  · have h2 : ¬ 58 ≤ x0 := by omega
    have HR : Hid (isStmt x0 = false) := by show _ = _; simp [isStmt, h0, h2]
    rw [HR.out]
    clear HR
    go_enter Tryz.func67, Tryz.ntmps67
    go_wp2_with fail
    go_ret
    exact ⟨ret_bool (by first | rfl | simp [*] | (simp; omega)), (Below.refl _ _).alloc (Nat.le_refl _) _⟩

set_option maxHeartbeats 4000000 in
theorem even_any (tv nv : Value) (x : NodeD) (w : World) (hn : NodeV nv x w) : Calls Tryz.prog 62 #[tv, nv] w fun e w' => e = .returned (.bool (tEven [] x)) ∧ Below w.heap.size w w' := by
  obtain ⟨vk, rfl, pk, ck, rfl, fk⟩ := hn
  clear fk
  obtain ⟨x0, x1, x2, x3, ks⟩ := x
  simp only
  obtain ⟨m, hm⟩ : ∃ m, m = ks.length := ⟨_, rfl⟩
  rw [← hm]
  have HM := Lib.hid hm
  clear hm
  by_cases h0 : m % 2 = 0
  · have h1 : (m : Int).tmod 2 = 0 := by rw [show (m : Int).tmod 2 = ((m % 2 : Nat) : Int) from rfl, h0]; rfl
    have HR : Hid (tEven [] (x0, x1, x2, x3, ks) = true) := by show _ = _; simp [tEven, ← HM.out, h0]
    rw [HR.out]
    clear HR
    go_enter Tryz.func62, Tryz.ntmps62
    go_wp2_with fail
    go_ret
    exact ⟨ret_bool (by first | rfl | simp [*] | (simp; omega)), (Below.refl _ _).alloc (Nat.le_refl _) _⟩
  · have h1 : (m : Int).tmod 2 = 1 := by rw [show (m : Int).tmod 2 = ((m % 2 : Nat) : Int) from rfl, show m % 2 = 1 by omega]; rfl
    have HR : Hid (tEven [] (x0, x1, x2, x3, ks) = false) := by show _ = _; simp [tEven, ← HM.out, h0]
    rw [HR.out]
    clear HR
    go_enter Tryz.func62, Tryz.ntmps62
    go_wp2_with fail
    go_ret
    exact ⟨ret_bool (by first | rfl | simp [*] | (simp; omega)), (Below.refl _ _).alloc (Nat.le_refl _) _⟩

theorem strEmpty (l : Sp.Bs) : (⟨l.toArray⟩ : ByteArray).toList = l := by rw [Sp.toList_data]

set_option maxHeartbeats 4000000 in
theorem number_any (tv nv : Value) (x : NodeD) (w : World) (hn : NodeV nv x w) : Calls Tryz.prog 58 #[tv, nv] w fun e w' => e = .returned (.bool (tNumber [] x)) ∧ Below w.heap.size w w' := by
  obtain ⟨vk, rfl, pk, ck, rfl, fk⟩ := hn
  clear fk
  obtain ⟨x0, x1, x2, x3, ks⟩ := x
  simp only
  obtain ⟨m, hm⟩ : ∃ m, m = ks.length := ⟨_, rfl⟩
  rw [← hm]
  have HM := Lib.hid hm
  clear hm
  obtain ⟨s, hs⟩ : ∃ s : ByteArray, s = ⟨x2.toArray⟩ := ⟨_, rfl⟩
  have hl : s.toList = x2 := by rw [hs]; exact strEmpty x2
  rw [← hs]
  clear hs
  have HL := Lib.hid hl
  clear hl
  by_cases h0 : x2 = []
  · have e0 : s.toList.isEmpty = true := by rw [HL.out, h0]; rfl
    have H0 := Lib.hid h0
    clear h0
    by_cases h1 : 0 ≤ x3
    · by_cases h2 : m = 0
      · subst h2
        have HR : Hid (tNumber [] (x0, x1, x2, x3, ks) = true) := by show _ = _; simp [tNumber, ← HM.out, H0.out, h1]
        rw [HR.out]
        clear HR
        go_enter Tryz.func58, Tryz.ntmps58
        go_wp2_with fail
        go_ret
        exact ⟨ret_bool (by first | rfl | simp [*] | (simp; omega)), (Below.refl _ _).alloc (Nat.le_refl _) _⟩
      · skip
        have HR : Hid (tNumber [] (x0, x1, x2, x3, ks) = false) := by show _ = _; simp [tNumber, ← HM.out, h2]
        rw [HR.out]
        clear HR
        go_enter Tryz.func58, Tryz.ntmps58
        go_wp2_with fail
        go_ret
        exact ⟨ret_bool (by first | rfl | simp [*] | (simp; omega)), (Below.refl _ _).alloc (Nat.le_refl _) _⟩
    · skip
      have HR : Hid (tNumber [] (x0, x1, x2, x3, ks) = false) := by show _ = _; simp [tNumber, h1]
      rw [HR.out]
      clear HR
      go_enter Tryz.func58, Tryz.ntmps58
      go_wp2_with fail
      go_ret
      exact ⟨ret_bool (by first | rfl | simp [*] | (simp; omega)), (Below.refl _ _).alloc (Nat.le_refl _) _⟩
  · have e0 : s.toList.isEmpty = false := by rw [HL.out]; cases x2; exact absurd rfl h0; rfl
    have H0 := Lib.hid h0
    clear h0
    have HR : Hid (tNumber [] (x0, x1, x2, x3, ks) = false) := by show _ = _; simp [tNumber, H0.out]
    rw [HR.out]
    clear HR
    go_enter Tryz.func58, Tryz.ntmps58
    go_wp2_with fail
    go_ret
    exact ⟨ret_bool (by first | rfl | simp [*] | (simp; omega)), (Below.refl _ _).alloc (Nat.le_refl _) _⟩

set_option maxHeartbeats 4000000 in
theorem empty_any (s : ByteArray) (w : World) (hs : s.size ≤ 1000000) : Calls Tryz.prog 53 #[.string s] w fun e w' => e = .returned (.bool (sEmpty s.data.toList)) ∧ Below w.heap.size w w' := by
  have hl := Sp.toList_data s
  by_cases h0 : s.data.toList = []
  · have e0 : s.toList.isEmpty = true := by rw [hl, h0]; rfl
    have HR : Hid (sEmpty s.data.toList = true) := by show _ = _; simp [sEmpty, h0]
    rw [HR.out]
    clear HR hl h0
    go_enter Tryz.func53, Tryz.ntmps53
    go_wp2_with fail
    go_ret
    exact ⟨ret_bool (by first | rfl | simp [*] | (simp; omega)), Below.refl _ _⟩
  · have e0 : s.toList.isEmpty = false := by rw [hl]; cases h : s.data.toList; exact absurd h h0; rfl
    have HR : Hid (sEmpty s.data.toList = false) := by show _ = _; simp [sEmpty, h0]
    rw [HR.out]
    clear HR hl h0
    go_enter Tryz.func53, Tryz.ntmps53
    go_wp2_with fail
    go_ret
    exact ⟨ret_bool (by first | rfl | simp [*] | (simp; omega)), Below.refl _ _⟩

set_option maxHeartbeats 4000000 in
theorem short_any (s : ByteArray) (w : World) (hs : s.size ≤ 1000000) : Calls Tryz.prog 59 #[.string s] w fun e w' => e = .returned (.bool (sShort s.data.toList)) ∧ Below w.heap.size w w' := by
  have hl := size_list s
  by_cases h0 : s.size ≤ 65536
  · skip
    have HR : Hid (sShort s.data.toList = true) := by show _ = _; unfold sShort; rw [hl]; simp [h0]
    rw [HR.out]
    clear HR hl
    go_enter Tryz.func59, Tryz.ntmps59
    go_wp2_with fail
    go_ret
    exact ⟨ret_bool (by simp; omega), Below.refl _ _⟩
  · skip
    have HR : Hid (sShort s.data.toList = false) := by show _ = _; unfold sShort; rw [hl]; simp [h0]
    rw [HR.out]
    clear HR hl
    go_enter Tryz.func59, Tryz.ntmps59
    go_wp2_with fail
    go_ret
    exact ⟨ret_bool (by simp; omega), Below.refl _ _⟩

set_option maxHeartbeats 4000000 in
theorem nameOrEmpty_any (s : ByteArray) (w : World) (hs : s.size ≤ 1000000) : Calls Tryz.prog 72 #[.string s] w fun e w' => e = .returned (.bool (sNameE s.data.toList)) ∧ Below w.heap.size w w' := by
  have hl := Sp.toList_data s
  by_cases h0 : s.data.toList = []
  · have e0 : s.toList.isEmpty = true := by rw [hl, h0]; rfl
    have HR : Hid (sNameE s.data.toList = true) := by show _ = _; simp [sNameE, h0]
    rw [HR.out]
    clear HR hl h0
    go_enter Tryz.func72, Tryz.ntmps72
    go_wp2_with fail
    go_ret
    exact ⟨ret_bool (by first | rfl | simp [*] | (simp; omega)), Below.refl _ _⟩
  · have e0 : s.toList.isEmpty = false := by rw [hl]; cases h : s.data.toList; exact absurd h h0; rfl
    have HR : Hid (sNameE s.data.toList = Sp.nm s.data.toList) := by show _ = _; simp [sNameE, h0]
    rw [HR.out]
    clear HR hl h0
    obtain ⟨b, HB⟩ := hid_ex (Sp.nm s.data.toList)
    have hc : ∀ w : World, Calls Tryz.prog 60 #[.string s] w fun e w' => e = .returned (.bool b) ∧ Below w.heap.size w w' := fun w => by rw [← HB.out]; exact name_any s w hs
    rw [HB.out]
    clear HB
    go_enter Tryz.func72, Tryz.ntmps72
    go_wp2_with (go_at_call 60; refine (hc _).mono ?_; rintro e w' ⟨rfl, hb⟩)
    go_ret
    exact ⟨rfl, hb⟩

set_option maxHeartbeats 4000000 in
theorem arithmetic_any (s : ByteArray) (w : World) (hs : s.size ≤ 1000000) : Calls Tryz.prog 63 #[.string s] w fun e w' => e = .returned (.bool (sArith s.data.toList)) ∧ Below w.heap.size w w' := by
  have hl := Sp.toList_data s
  by_cases h0 : s.data.toList = [43]
  · have e0 : (s.toList == [43]) = true := by rw [hl, h0]; rfl
    have HR : Hid (sArith s.data.toList = true) := by show _ = _; rw [h0]; rfl
    rw [HR.out]
    clear HR hl h0
    go_enter Tryz.func63, Tryz.ntmps63
    go_wp2_with fail
    go_ret
    exact ⟨ret_bool (by first | rfl | simp [*] | (simp; omega)), Below.refl _ _⟩
  have e0 : (s.toList == [43]) = false := by rw [hl]; exact beq_eq_false_iff_ne.2 h0
  by_cases h1 : s.data.toList = [45]
  · have e1 : (s.toList == [45]) = true := by rw [hl, h1]; rfl
    have HR : Hid (sArith s.data.toList = true) := by show _ = _; rw [h1]; rfl
    rw [HR.out]
    clear HR hl h0 h1
    go_enter Tryz.func63, Tryz.ntmps63
    go_wp2_with fail
    go_ret
    exact ⟨ret_bool (by first | rfl | simp [*] | (simp; omega)), Below.refl _ _⟩
  have e1 : (s.toList == [45]) = false := by rw [hl]; exact beq_eq_false_iff_ne.2 h1
  by_cases h2 : s.data.toList = [42]
  · have e2 : (s.toList == [42]) = true := by rw [hl, h2]; rfl
    have HR : Hid (sArith s.data.toList = true) := by show _ = _; rw [h2]; rfl
    rw [HR.out]
    clear HR hl h0 h1 h2
    go_enter Tryz.func63, Tryz.ntmps63
    go_wp2_with fail
    go_ret
    exact ⟨ret_bool (by first | rfl | simp [*] | (simp; omega)), Below.refl _ _⟩
  have e2 : (s.toList == [42]) = false := by rw [hl]; exact beq_eq_false_iff_ne.2 h2
  by_cases h3 : s.data.toList = [47, 47]
  · have e3 : (s.toList == [47, 47]) = true := by rw [hl, h3]; rfl
    have HR : Hid (sArith s.data.toList = true) := by show _ = _; rw [h3]; rfl
    rw [HR.out]
    clear HR hl h0 h1 h2 h3
    go_enter Tryz.func63, Tryz.ntmps63
    go_wp2_with fail
    go_ret
    exact ⟨ret_bool (by first | rfl | simp [*] | (simp; omega)), Below.refl _ _⟩
  have e3 : (s.toList == [47, 47]) = false := by rw [hl]; exact beq_eq_false_iff_ne.2 h3
  by_cases h4 : s.data.toList = [37]
  · have e4 : (s.toList == [37]) = true := by rw [hl, h4]; rfl
    have HR : Hid (sArith s.data.toList = true) := by show _ = _; rw [h4]; rfl
    rw [HR.out]
    clear HR hl h0 h1 h2 h3 h4
    go_enter Tryz.func63, Tryz.ntmps63
    go_wp2_with fail
    go_ret
    exact ⟨ret_bool (by first | rfl | simp [*] | (simp; omega)), Below.refl _ _⟩
  have e4 : (s.toList == [37]) = false := by rw [hl]; exact beq_eq_false_iff_ne.2 h4
  by_cases h5 : s.data.toList = [42, 42]
  · have e5 : (s.toList == [42, 42]) = true := by rw [hl, h5]; rfl
    have HR : Hid (sArith s.data.toList = true) := by show _ = _; rw [h5]; rfl
    rw [HR.out]
    clear HR hl h0 h1 h2 h3 h4 h5
    go_enter Tryz.func63, Tryz.ntmps63
    go_wp2_with fail
    go_ret
    exact ⟨ret_bool (by first | rfl | simp [*] | (simp; omega)), Below.refl _ _⟩
  have e5 : (s.toList == [42, 42]) = false := by rw [hl]; exact beq_eq_false_iff_ne.2 h5
  have HR : Hid (sArith s.data.toList = false) := by show _ = _; simp only [sArith, h0, h1, h2, h3, h4, h5, decide_false, Bool.or_self]
  rw [HR.out]
  clear HR hl h0 h1 h2 h3 h4 h5
  go_enter Tryz.func63, Tryz.ntmps63
  go_wp2_with fail
  go_ret
  exact ⟨ret_bool (by first | rfl | simp [*] | (simp; omega)), Below.refl _ _⟩

set_option maxHeartbeats 4000000 in
theorem comparison_any (s : ByteArray) (w : World) (hs : s.size ≤ 1000000) : Calls Tryz.prog 64 #[.string s] w fun e w' => e = .returned (.bool (sComp s.data.toList)) ∧ Below w.heap.size w w' := by
  have hl := Sp.toList_data s
  by_cases h0 : s.data.toList = [61, 61]
  · have e0 : (s.toList == [61, 61]) = true := by rw [hl, h0]; rfl
    have HR : Hid (sComp s.data.toList = true) := by show _ = _; rw [h0]; rfl
    rw [HR.out]
    clear HR hl h0
    go_enter Tryz.func64, Tryz.ntmps64
    go_wp2_with fail
    go_ret
    exact ⟨ret_bool (by first | rfl | simp [*] | (simp; omega)), Below.refl _ _⟩
  have e0 : (s.toList == [61, 61]) = false := by rw [hl]; exact beq_eq_false_iff_ne.2 h0
  by_cases h1 : s.data.toList = [33, 61]
  · have e1 : (s.toList == [33, 61]) = true := by rw [hl, h1]; rfl
    have HR : Hid (sComp s.data.toList = true) := by show _ = _; rw [h1]; rfl
    rw [HR.out]
    clear HR hl h0 h1
    go_enter Tryz.func64, Tryz.ntmps64
    go_wp2_with fail
    go_ret
    exact ⟨ret_bool (by first | rfl | simp [*] | (simp; omega)), Below.refl _ _⟩
  have e1 : (s.toList == [33, 61]) = false := by rw [hl]; exact beq_eq_false_iff_ne.2 h1
  by_cases h2 : s.data.toList = [60]
  · have e2 : (s.toList == [60]) = true := by rw [hl, h2]; rfl
    have HR : Hid (sComp s.data.toList = true) := by show _ = _; rw [h2]; rfl
    rw [HR.out]
    clear HR hl h0 h1 h2
    go_enter Tryz.func64, Tryz.ntmps64
    go_wp2_with fail
    go_ret
    exact ⟨ret_bool (by first | rfl | simp [*] | (simp; omega)), Below.refl _ _⟩
  have e2 : (s.toList == [60]) = false := by rw [hl]; exact beq_eq_false_iff_ne.2 h2
  by_cases h3 : s.data.toList = [60, 61]
  · have e3 : (s.toList == [60, 61]) = true := by rw [hl, h3]; rfl
    have HR : Hid (sComp s.data.toList = true) := by show _ = _; rw [h3]; rfl
    rw [HR.out]
    clear HR hl h0 h1 h2 h3
    go_enter Tryz.func64, Tryz.ntmps64
    go_wp2_with fail
    go_ret
    exact ⟨ret_bool (by first | rfl | simp [*] | (simp; omega)), Below.refl _ _⟩
  have e3 : (s.toList == [60, 61]) = false := by rw [hl]; exact beq_eq_false_iff_ne.2 h3
  by_cases h4 : s.data.toList = [62]
  · have e4 : (s.toList == [62]) = true := by rw [hl, h4]; rfl
    have HR : Hid (sComp s.data.toList = true) := by show _ = _; rw [h4]; rfl
    rw [HR.out]
    clear HR hl h0 h1 h2 h3 h4
    go_enter Tryz.func64, Tryz.ntmps64
    go_wp2_with fail
    go_ret
    exact ⟨ret_bool (by first | rfl | simp [*] | (simp; omega)), Below.refl _ _⟩
  have e4 : (s.toList == [62]) = false := by rw [hl]; exact beq_eq_false_iff_ne.2 h4
  by_cases h5 : s.data.toList = [62, 61]
  · have e5 : (s.toList == [62, 61]) = true := by rw [hl, h5]; rfl
    have HR : Hid (sComp s.data.toList = true) := by show _ = _; rw [h5]; rfl
    rw [HR.out]
    clear HR hl h0 h1 h2 h3 h4 h5
    go_enter Tryz.func64, Tryz.ntmps64
    go_wp2_with fail
    go_ret
    exact ⟨ret_bool (by first | rfl | simp [*] | (simp; omega)), Below.refl _ _⟩
  have e5 : (s.toList == [62, 61]) = false := by rw [hl]; exact beq_eq_false_iff_ne.2 h5
  by_cases h6 : s.data.toList = [105, 110]
  · have e6 : (s.toList == [105, 110]) = true := by rw [hl, h6]; rfl
    have HR : Hid (sComp s.data.toList = true) := by show _ = _; rw [h6]; rfl
    rw [HR.out]
    clear HR hl h0 h1 h2 h3 h4 h5 h6
    go_enter Tryz.func64, Tryz.ntmps64
    go_wp2_with fail
    go_ret
    exact ⟨ret_bool (by first | rfl | simp [*] | (simp; omega)), Below.refl _ _⟩
  have e6 : (s.toList == [105, 110]) = false := by rw [hl]; exact beq_eq_false_iff_ne.2 h6
  by_cases h7 : s.data.toList = [110, 111, 116, 32, 105, 110]
  · have e7 : (s.toList == [110, 111, 116, 32, 105, 110]) = true := by rw [hl, h7]; rfl
    have HR : Hid (sComp s.data.toList = true) := by show _ = _; rw [h7]; rfl
    rw [HR.out]
    clear HR hl h0 h1 h2 h3 h4 h5 h6 h7
    go_enter Tryz.func64, Tryz.ntmps64
    go_wp2_with fail
    go_ret
    exact ⟨ret_bool (by first | rfl | simp [*] | (simp; omega)), Below.refl _ _⟩
  have e7 : (s.toList == [110, 111, 116, 32, 105, 110]) = false := by rw [hl]; exact beq_eq_false_iff_ne.2 h7
  by_cases h8 : s.data.toList = [105, 115]
  · have e8 : (s.toList == [105, 115]) = true := by rw [hl, h8]; rfl
    have HR : Hid (sComp s.data.toList = true) := by show _ = _; rw [h8]; rfl
    rw [HR.out]
    clear HR hl h0 h1 h2 h3 h4 h5 h6 h7 h8
    go_enter Tryz.func64, Tryz.ntmps64
    go_wp2_with fail
    go_ret
    exact ⟨ret_bool (by first | rfl | simp [*] | (simp; omega)), Below.refl _ _⟩
  have e8 : (s.toList == [105, 115]) = false := by rw [hl]; exact beq_eq_false_iff_ne.2 h8
  by_cases h9 : s.data.toList = [105, 115, 32, 110, 111, 116]
  · have e9 : (s.toList == [105, 115, 32, 110, 111, 116]) = true := by rw [hl, h9]; rfl
    have HR : Hid (sComp s.data.toList = true) := by show _ = _; rw [h9]; rfl
    rw [HR.out]
    clear HR hl h0 h1 h2 h3 h4 h5 h6 h7 h8 h9
    go_enter Tryz.func64, Tryz.ntmps64
    go_wp2_with fail
    go_ret
    exact ⟨ret_bool (by first | rfl | simp [*] | (simp; omega)), Below.refl _ _⟩
  have e9 : (s.toList == [105, 115, 32, 110, 111, 116]) = false := by rw [hl]; exact beq_eq_false_iff_ne.2 h9
  have HR : Hid (sComp s.data.toList = false) := by show _ = _; simp only [sComp, h0, h1, h2, h3, h4, h5, h6, h7, h8, h9, decide_false, Bool.or_self]
  rw [HR.out]
  clear HR hl h0 h1 h2 h3 h4 h5 h6 h7 h8 h9
  go_enter Tryz.func64, Tryz.ntmps64
  go_wp2_with fail
  go_ret
  exact ⟨ret_bool (by first | rfl | simp [*] | (simp; omega)), Below.refl _ _⟩

theorem exprV_any (tv : Value) (x0 x1 : Int) (x2 : Sp.Bs) (x3 : Int) (pk : Option Addr) (m ck : Nat) (w : World) : Calls Tryz.prog 55 #[tv, .agg #[.int .i64 x0, .int .i64 x1, .string ⟨x2.toArray⟩, .int .i64 x3, .slice pk m ck]] w fun e w' => e = .returned (.bool (isExpr x0)) ∧ Below w.heap.size w w' := by
  by_cases h0 : 1 ≤ x0
  · skip
    by_cases h1 : x0 ≤ 21
    · skip
      have HR : Hid (isExpr x0 = true) := by show _ = _; simp [isExpr, h0, h1]
      rw [HR.out]
      clear HR
      go_enter Tryz.func55, Tryz.ntmps55
      go_wp2_with fail
      go_ret
      exact ⟨ret_bool (by first | rfl | simp [*] | (simp; omega)), (Below.refl _ _).alloc (Nat.le_refl _) _⟩
    · skip
      have HR : Hid (isExpr x0 = false) := by show _ = _; simp [isExpr, h0, h1]
      rw [HR.out]
      clear HR
      go_enter Tryz.func55, Tryz.ntmps55
      go_wp2_with fail
      go_ret
      exact ⟨ret_bool (by first | rfl | simp [*] | (simp; omega)), (Below.refl _ _).alloc (Nat.le_refl _) _⟩
  · skip
    have HR : Hid (isExpr x0 = false) := by show _ = _; simp [isExpr, h0]
    rw [HR.out]
    clear HR
    go_enter Tryz.func55, Tryz.ntmps55
    go_wp2_with fail
    go_ret
    exact ⟨ret_bool (by first | rfl | simp [*] | (simp; omega)), (Below.refl _ _).alloc (Nat.le_refl _) _⟩

end Go.Proofs.YtkmmcphiijolkaaGreatDoor

set_option linter.unusedVariables false
set_option linter.unusedSimpArgs false
namespace Go.Proofs.YtkmmcphiijolkaaGreatDoor
open Go.RowKit Go.Shelf
open Tr

/-- Cells are as they were; no block has gone. -/
structure Kept (w w' : World) : Prop where
  size : w.heap.size ≤ w'.heap.size
  cells : ∀ (k : Nat) (cs : Array Value) (t : TypeId) (fr : Nat × Nat), w.heap[k]? = some (Obj.cells cs t fr) → w'.heap[k]? = some (Obj.cells cs t fr)
theorem Kept.refl (w : World) : Kept w w := ⟨Nat.le_refl _, fun _ _ _ _ h => h⟩
theorem Kept.trans {a b c : World} (h : Kept a b) (k : Kept b c) : Kept a c := ⟨Nat.le_trans h.size k.size, fun i cs t fr e => k.cells i cs t fr (h.cells i cs t fr e)⟩
theorem Kept.of_below {w w' : World} (h : Below w.heap.size w w') : Kept w w' := ⟨h.size, fun k cs t fr e => (h.block k (Array.getElem?_eq_some_iff.1 e).1).trans e⟩
theorem Kept.alloc (w : World) (o : Obj) : Kept w (w.alloc o) := Kept.of_below ((Below.refl _ w).alloc (Nat.le_refl _) o)
theorem Kept.grown {w w' : World} {b : Nat} (h : w.grownBy w' (some b)) (hb : ∀ (cs : Array Value) (t : TypeId) (fr : Nat × Nat), w.heap[b]? ≠ some (Obj.cells cs t fr)) : Kept w w' :=
  ⟨h.size, fun k cs t fr e => (h.block k (Array.getElem?_eq_some_iff.1 e).1 (by intro e2; cases e2; exact hb cs t fr e)).trans e⟩
theorem Kept.cell {w w' : World} (h : Kept w w') {a : Addr} {v : Value} (hc : w.cell? a = some v) : w'.cell? a = some v := by
  unfold World.cell? at hc ⊢
  cases hb : w.heap[a.block]? with
  | none => rw [hb] at hc; simp at hc
  | some o =>
    cases o with
    | cells cs t fr => rw [h.cells _ _ _ _ hb]; rw [hb] at hc; exact hc
    | _ => rw [hb] at hc; simp at hc

theorem KRow.kept {v : Value} {l : List Int} {w w' : World} (h : KRow v l w) (hb : Kept w w') : KRow v l w' := by
  obtain ⟨pa, cap, e, hc⟩ := h
  refine ⟨pa, cap, e, fun k c hk => ?_, hc.2⟩
  obtain ⟨g, o, e2, hg, a0⟩ := hc.1 k c hk
  exact ⟨g, o, e2, Nat.lt_of_lt_of_le hg hb.size, hb.cell a0⟩
theorem ArgT.kept {v : Value} {l : List NodeD} {w w' : World} (h : ArgT v l w) (hb : Kept w w') : ArgT v l w' := by
  obtain ⟨pa, cap, e, hc⟩ := h
  refine ⟨pa, cap, e, fun k x hx => ?_⟩
  obtain ⟨g, o, vk, e2, hg, a0, a1, a2, a3, a4, a5⟩ := hc k x hx
  exact ⟨g, o, vk, e2, Nat.lt_of_lt_of_le hg hb.size, hb.cell a0, hb.cell a1, hb.cell a2, hb.cell a3, hb.cell a4, a5.kept hb⟩
theorem NodeV.kept {nv : Value} {x : NodeD} {w w' : World} (h : NodeV nv x w) (hb : Kept w w') : NodeV nv x w' := by
  obtain ⟨vk, e, h⟩ := h
  exact ⟨vk, e, h.kept hb⟩

/-- All nodes are such as may be looked at: texts and rows are short, all Kids are numbers of nodes. -/
def AllIn (t : List NodeD) : Prop := t.length ≤ 1000000 ∧ ∀ y ∈ t, y.2.2.1.length ≤ 1000000 ∧ y.2.2.2.2.length ≤ maxLen ∧ ∀ k ∈ y.2.2.2.2, 0 ≤ k ∧ k < (t.length : Int)
theorem nodeAt_mem {t : List NodeD} {k : Int} (h : 0 ≤ k ∧ k < (t.length : Int)) : nodeAt t k ∈ t ∧ t[k.toNat]? = some (nodeAt t k) := by
  have hk : k.toNat < t.length := by omega
  have : t[k.toNat]? = some t[k.toNat] := List.getElem?_eq_getElem hk
  unfold nodeAt
  rw [this]
  exact ⟨List.getElem_mem hk, rfl⟩

/-- A value that is a test of texts. -/
def IsText (f : Sp.Bs → Bool) (v : Value) (w : World) : Prop := ∃ k caps, v = .func (.func k) #[] caps ∧ (∀ args w, (callFunc k args).run Tryz.prog w = .ok (.enter k args) w) ∧ ∀ w' (s : ByteArray), Kept w w' → s.size ≤ 1000000 → Calls Tryz.prog k (#[.string s] ++ caps) w' fun e w'' => e = .returned (.bool (f s.data.toList)) ∧ Below w'.heap.size w' w''
/-- A value that is a test of nodes, where pre holds. -/
def IsTest (pre : List NodeD → NodeD → Prop) (T : Test) (v : Value) (w : World) : Prop := ∃ k caps, v = .func (.func k) #[] caps ∧ (∀ args w, (callFunc k args).run Tryz.prog w = .ok (.enter k args) w) ∧ ∀ w' tv nv t x, Kept w w' → ArgT tv t w' → NodeV nv x w' → AllIn t → x ∈ t → pre t x → Calls Tryz.prog k (#[tv, nv] ++ caps) w' fun e w'' => e = .returned (.bool (T t x)) ∧ Below w'.heap.size w' w''
theorem IsText.kept {f : Sp.Bs → Bool} {v : Value} {w w' : World} (h : IsText f v w) (hk : Kept w w') : IsText f v w' := by
  obtain ⟨k, caps, e, he, h⟩ := h
  exact ⟨k, caps, e, he, fun w2 s h2 => h w2 s (hk.trans h2)⟩
theorem IsTest.kept {pre : List NodeD → NodeD → Prop} {T : Test} {v : Value} {w w' : World} (h : IsTest pre T v w) (hk : Kept w w') : IsTest pre T v w' := by
  obtain ⟨k, caps, e, he, h⟩ := h
  exact ⟨k, caps, e, he, fun w2 tv nv t x h2 => h w2 tv nv t x (hk.trans h2)⟩
theorem IsTest.imp {pre pre' : List NodeD → NodeD → Prop} {T : Test} {v : Value} {w : World} (h : IsTest pre T v w) (hp : ∀ t x, AllIn t → x ∈ t → pre' t x → pre t x) : IsTest pre' T v w := by
  obtain ⟨k, caps, e, he, h⟩ := h
  exact ⟨k, caps, e, he, fun w2 tv nv t x h2 h3 h4 h5 h6 h7 => h w2 tv nv t x h2 h3 h4 h5 h6 (hp t x h5 h6 h7)⟩
def All2 : List NodeD → NodeD → Prop := fun _ _ => True
/-- A row of parts. -/
def PartsIs (ps : List PartD) (v : Value) (w : World) : Prop := ∃ pa cap, v = .slice pa ps.length cap ∧ ∀ (i : Nat) (p : PartD), ps[i]? = some p → ∃ g o u, pa = some ⟨g, o, none⟩ ∧ w.cell? ⟨g, o + i * 3, none⟩ = some u ∧ IsTest All2 p.1 u w ∧ w.cell? ⟨g, o + i * 3 + 1, none⟩ = some (.int .i64 (p.2.1 : Int)) ∧ w.cell? ⟨g, o + i * 3 + 2, none⟩ = some (.int .i64 (p.2.2 : Int))
theorem PartsIs.kept {ps : List PartD} {v : Value} {w w' : World} (h : PartsIs ps v w) (hk : Kept w w') : PartsIs ps v w' := by
  obtain ⟨pa, cap, e, h⟩ := h
  refine ⟨pa, cap, e, fun i p hp => ?_⟩
  obtain ⟨g, o, u, e1, h0, h1, h2, h3⟩ := h i p hp
  exact ⟨g, o, u, e1, hk.cell h0, h1.kept hk, hk.cell h2, hk.cell h3⟩

theorem text_of {f : Sp.Bs → Bool} {k : Nat} (w : World) (he : ∀ args w, (callFunc k args).run Tryz.prog w = .ok (.enter k args) w) (h : ∀ (s : ByteArray) (w : World), s.size ≤ 1000000 → Calls Tryz.prog k #[.string s] w fun e w' => e = .returned (.bool (f s.data.toList)) ∧ Below w.heap.size w w') : IsText f (.func (.func k) #[] #[]) w :=
  ⟨k, #[], rfl, he, fun w' s _ hs => h s w' hs⟩
theorem test_of {pre : List NodeD → NodeD → Prop} {T : Test} {k : Nat} (w : World) (he : ∀ args w, (callFunc k args).run Tryz.prog w = .ok (.enter k args) w) (h : ∀ w' tv nv t x, ArgT tv t w' → NodeV nv x w' → AllIn t → x ∈ t → pre t x → Calls Tryz.prog k #[tv, nv] w' fun e w'' => e = .returned (.bool (T t x)) ∧ Below w'.heap.size w' w'') : IsTest pre T (.func (.func k) #[] #[]) w :=
  ⟨k, #[], rfl, he, fun w' tv nv t x _ => h w' tv nv t x⟩
theorem text_empty (w : World) : IsText sEmpty (.func (.func 53) #[] #[]) w := text_of w (enters_of Tryz.func53 (by kernel_rfl) rfl) empty_any
theorem text_short (w : World) : IsText sShort (.func (.func 59) #[] #[]) w := text_of w (enters_of Tryz.func59 (by kernel_rfl) rfl) short_any
theorem text_name (w : World) : IsText sName (.func (.func 60) #[] #[]) w := text_of w (enters_of Tryz.func60 (by kernel_rfl) rfl) fun s w hs => name_any s w hs
theorem text_nameE (w : World) : IsText sNameE (.func (.func 72) #[] #[]) w := text_of w (enters_of Tryz.func72 (by kernel_rfl) rfl) nameOrEmpty_any
theorem text_arith (w : World) : IsText sArith (.func (.func 63) #[] #[]) w := text_of w (enters_of Tryz.func63 (by kernel_rfl) rfl) arithmetic_any
theorem text_comp (w : World) : IsText sComp (.func (.func 64) #[] #[]) w := text_of w (enters_of Tryz.func64 (by kernel_rfl) rfl) comparison_any
theorem test_expr (w : World) : IsTest All2 tExpr (.func (.func 55) #[] #[]) w := test_of w (enters_of Tryz.func55 (by kernel_rfl) rfl) fun w' tv nv t x _ hn _ _ _ => expr_any tv nv x w' hn
theorem test_stmt (w : World) : IsTest All2 tStmt (.func (.func 67) #[] #[]) w := test_of w (enters_of Tryz.func67 (by kernel_rfl) rfl) fun w' tv nv t x _ hn _ _ _ => statement_any tv nv x w' hn
theorem test_target (w : World) : IsTest All2 tTarget (.func (.func 69) #[] #[]) w := test_of w (enters_of Tryz.func69 (by kernel_rfl) rfl) fun w' tv nv t x _ hn _ _ _ => target_any tv nv x w' hn
theorem test_even (w : World) : IsTest All2 tEven (.func (.func 62) #[] #[]) w := test_of w (enters_of Tryz.func62 (by kernel_rfl) rfl) fun w' tv nv t x _ hn _ _ _ => even_any tv nv x w' hn
theorem test_number (w : World) : IsTest All2 tNumber (.func (.func 58) #[] #[]) w := test_of w (enters_of Tryz.func58 (by kernel_rfl) rfl) fun w' tv nv t x _ hn _ _ _ => number_any tv nv x w' hn

set_option maxHeartbeats 2000000 in
theorem op_any (k : Int) (w : World) : Calls Tryz.prog 57 #[.int .i64 k] w fun e w' => ∃ v, e = .returned v ∧ IsTest All2 (tOp k) v w' ∧ Below w.heap.size w w' := by
  go_enter Tryz.func57, Tryz.ntmps57
  go_wp2_with fail
  go_ret
  refine ⟨_, rfl, ⟨96, _, rfl, enters_of Tryz.func96 (by kernel_rfl) rfl, ?_⟩, (Below.refl _ _).alloc (Nat.le_refl _) _⟩
  intro w' tv nv t x hk _ hn _ _ _
  have hc : w'.cell? ⟨w.heap.size, 0, none⟩ = some (.int .i64 k) := hk.cell (by simp)
  have hlt : w.heap.size < w'.heap.size := by have := hk.size; simp at this; omega
  obtain ⟨b, hb⟩ : ∃ b, b = w.heap.size := ⟨_, rfl⟩
  rw [← hb] at hc hlt ⊢
  clear hb
  obtain ⟨vk, rfl, pk, ck, rfl, fk⟩ := hn
  clear fk hk
  obtain ⟨x0, x1, x2, x3, ks⟩ := x
  simp only
  obtain ⟨m, hm⟩ : ∃ m, m = ks.length := ⟨_, rfl⟩
  rw [← hm]
  clear hm
  by_cases h0 : x0 = k
  · have HR : Hid (tOp k t (x0, x1, x2, x3, ks) = true) := by show _ = _; simp [tOp, h0]
    rw [HR.out]
    clear HR
    show Calls Tryz.prog 96 #[tv, _, .pointer (some ⟨b, 0, none⟩)] w' _
    go_enter Tryz.func96, Tryz.ntmps96
    go_wp2_with fail
    go_ret
    exact ⟨ret_bool (by simp [*]), (Below.refl _ _).alloc (Nat.le_refl _) _⟩
  · have HR : Hid (tOp k t (x0, x1, x2, x3, ks) = false) := by show _ = _; simp [tOp, h0]
    rw [HR.out]
    clear HR
    show Calls Tryz.prog 96 #[tv, _, .pointer (some ⟨b, 0, none⟩)] w' _
    go_enter Tryz.func96, Tryz.ntmps96
    go_wp2_with fail
    go_ret
    exact ⟨ret_bool (by simp [*]), (Below.refl _ _).alloc (Nat.le_refl _) _⟩

set_option maxHeartbeats 4000000 in
theorem both_any (Ta Tb : Test) (va vb : Value) (w : World) (ha : IsTest All2 Ta va w) (hb : IsTest (fun t x => Ta t x = true) Tb vb w) : Calls Tryz.prog 61 #[va, vb] w fun e w' => ∃ v, e = .returned v ∧ IsTest All2 (tBoth Ta Tb) v w' ∧ Below w.heap.size w w' := by
  obtain ⟨ka, ca, rfl, ea, ha⟩ := ha
  obtain ⟨kb, cb, rfl, eb, hb⟩ := hb
  have HA := Lib.hid ha
  have HB := Lib.hid hb
  clear ha hb
  go_enter Tryz.func61, Tryz.ntmps61
  go_wp2_with fail
  go_ret
  refine ⟨_, rfl, ⟨100, _, rfl, enters_of Tryz.func100 (by kernel_rfl) rfl, ?_⟩, ((Below.refl _ _).alloc (Nat.le_refl _) _).alloc (by simp) _⟩
  intro w' tv nv t x hk hat hn hal hx _
  have hc1 : w'.cell? ⟨w.heap.size, 0, none⟩ = some (.func (.func ka) #[] ca) := hk.cell (by rw [World.cell?_alloc_past _ _ _ (by simp), World.cell?_alloc_at _ _ _ _ rfl]; rfl)
  have hc2 : w'.cell? ⟨w.heap.size + 1, 0, none⟩ = some (.func (.func kb) #[] cb) := hk.cell (by rw [World.cell?_alloc_at _ _ _ _ (by simp)]; rfl)
  have hlt : w.heap.size + 1 < w'.heap.size := by have := hk.size; simp at this; omega
  have hk0 : Kept w w' := ((Kept.alloc _ _).trans (Kept.alloc _ _)).trans hk
  obtain ⟨b, hb⟩ : ∃ b, b = w.heap.size := ⟨_, rfl⟩
  rw [← hb] at hc1 hc2 hlt ⊢
  have hlt0 : b < w'.heap.size := by omega
  have hcA : ∀ w2, Kept w' w2 → Calls Tryz.prog ka (#[tv, nv] ++ ca) w2 fun e w'' => e = .returned (.bool (Ta t x)) ∧ Below w2.heap.size w2 w'' ∧ Kept w' w'' := fun w2 h2 =>
    (HA.out w2 tv nv t x (hk0.trans h2) (hat.kept h2) (hn.kept h2) hal hx trivial).mono (fun e w3 h => ⟨h.1, h.2, h2.trans (Kept.of_below h.2)⟩)
  have hcB : Ta t x = true → ∀ w2, Kept w' w2 → Calls Tryz.prog kb (#[tv, nv] ++ cb) w2 fun e w'' => e = .returned (.bool (Tb t x)) ∧ Below w2.heap.size w2 w'' := fun hT w2 h2 =>
    HB.out w2 tv nv t x (hk0.trans h2) (hat.kept h2) (hn.kept h2) hal hx hT
  clear hb HA HB hk hk0 hal hx
  obtain ⟨vk, rfl, pk, ck, rfl, fk⟩ := hn
  obtain ⟨pa, cat, rfl, fa⟩ := hat
  clear fk fa
  obtain ⟨x0, x1, x2, x3, ks⟩ := x
  simp only at hcA hcB ⊢
  obtain ⟨m, hm⟩ : ∃ m, m = ks.length := ⟨_, rfl⟩
  obtain ⟨q, hq⟩ : ∃ q, q = t.length := ⟨_, rfl⟩
  rw [← hm, ← hq] at hcA hcB
  rw [← hm, ← hq]
  clear hm hq
  obtain ⟨W1, hW1⟩ : ∃ W1, W1 = w'.alloc (.cells #[.int .i64 x0, .int .i64 x1, .string ⟨x2.toArray⟩, .int .i64 x3, .slice pk m ck] 39) := ⟨_, rfl⟩
  have hb1 : Below w'.heap.size w' W1 := by rw [hW1]; exact (Below.refl _ _).alloc (Nat.le_refl _) _
  have hN1 : W1.heap[w'.heap.size]? = some (.cells #[.int .i64 x0, .int .i64 x1, .string ⟨x2.toArray⟩, .int .i64 x3, .slice pk m ck] 39) := by rw [hW1]; show (w'.heap.push _)[_]? = _; simp
  obtain ⟨Bt, hBt⟩ := hid_ex (Ta t (x0, x1, x2, x3, ks))
  have hca := hcA W1 (Kept.of_below hb1)
  rw [hBt.out] at hca
  have HW1 := Lib.hid hW1
  show Calls Tryz.prog 100 #[.slice pa q cat, .agg #[.int .i64 x0, .int .i64 x1, .string ⟨x2.toArray⟩, .int .i64 x3, .slice pk m ck], .pointer (some ⟨b, 0, none⟩), .pointer (some ⟨b + 1, 0, none⟩)] w' _
  rw [hW1] at hca
  have hNx : ∀ w3, Below W1.heap.size W1 w3 → w3.heap[w'.heap.size]? = some (.cells #[.int .i64 x0, .int .i64 x1, .string ⟨x2.toArray⟩, .int .i64 x3, .slice pk m ck] 39) ∧ Below w'.heap.size w' w3 := fun w3 h3 =>
    ⟨(h3.block w'.heap.size (Array.getElem?_eq_some_iff.1 hN1).1).trans hN1, hb1.trans (h3.mono hb1.size)⟩
  rw [hW1] at hNx
  cases hB : Bt with
  | false =>
    have HR : Hid (tBoth Ta Tb t (x0, x1, x2, x3, ks) = false) := by show _ = _; unfold tBoth; rw [hBt.out, hB]; rfl
    rw [HR.out]
    rw [hB] at hca
    clear hcA hcB HR hBt hB hN1 hW1
    go_enter Tryz.func100, Tryz.ntmps100
    go_wp2_with (refine hca.mono ?_; clear hca; rintro e w3 ⟨rfl, hb3, hk3⟩)
    go_ret
    exact ⟨rfl, (hNx w3 hb3).2⟩
  | true =>
    obtain ⟨Bb, hBb⟩ := hid_ex (Tb t (x0, x1, x2, x3, ks))
    have hcb := hcB (hBt.out.trans hB)
    have HR : Hid (tBoth Ta Tb t (x0, x1, x2, x3, ks) = Bb) := by show _ = _; unfold tBoth; rw [hBt.out, hB, hBb.out]; rfl
    rw [HR.out]
    rw [hB] at hca
    rw [hBb.out] at hcb
    clear hcA hcB HR hBt hB hN1 hW1 hBb
    go_enter Tryz.func100, Tryz.ntmps100
    go_wp2_with (first
      | (refine hca.mono ?_; clear hca; rintro e w3 ⟨rfl, hb3, hk3⟩; have d2 := hk3.cell hc2; have hcb3 := hcb w3 hk3; obtain ⟨c0, c1, c2, c3, c4⟩ := box5 (w := w3) (hNx w3 hb3).1; have hbw3 := Lib.hid (hNx w3 hb3).2)
      | (refine hcb3.mono ?_; clear hcb3; rintro e w4 ⟨rfl, hb4⟩))
    go_ret
    exact ⟨rfl, hbw3.out.trans (hb4.mono hbw3.out.size)⟩

set_option maxHeartbeats 4000000 in
theorem either_any (Ta Tb : Test) (va vb : Value) (w : World) (ha : IsTest All2 Ta va w) (hb : IsTest All2 Tb vb w) : Calls Tryz.prog 71 #[va, vb] w fun e w' => ∃ v, e = .returned v ∧ IsTest All2 (tEither Ta Tb) v w' ∧ Below w.heap.size w w' := by
  obtain ⟨ka, ca, rfl, ea, ha⟩ := ha
  obtain ⟨kb, cb, rfl, eb, hb⟩ := hb
  have HA := Lib.hid ha
  have HB := Lib.hid hb
  clear ha hb
  go_enter Tryz.func71, Tryz.ntmps71
  go_wp2_with fail
  go_ret
  refine ⟨_, rfl, ⟨101, _, rfl, enters_of Tryz.func101 (by kernel_rfl) rfl, ?_⟩, ((Below.refl _ _).alloc (Nat.le_refl _) _).alloc (by simp) _⟩
  intro w' tv nv t x hk hat hn hal hx _
  have hc1 : w'.cell? ⟨w.heap.size, 0, none⟩ = some (.func (.func ka) #[] ca) := hk.cell (by rw [World.cell?_alloc_past _ _ _ (by simp), World.cell?_alloc_at _ _ _ _ rfl]; rfl)
  have hc2 : w'.cell? ⟨w.heap.size + 1, 0, none⟩ = some (.func (.func kb) #[] cb) := hk.cell (by rw [World.cell?_alloc_at _ _ _ _ (by simp)]; rfl)
  have hlt : w.heap.size + 1 < w'.heap.size := by have := hk.size; simp at this; omega
  have hk0 : Kept w w' := ((Kept.alloc _ _).trans (Kept.alloc _ _)).trans hk
  obtain ⟨b, hb⟩ : ∃ b, b = w.heap.size := ⟨_, rfl⟩
  rw [← hb] at hc1 hc2 hlt ⊢
  have hlt0 : b < w'.heap.size := by omega
  have hcA : ∀ w2, Kept w' w2 → Calls Tryz.prog ka (#[tv, nv] ++ ca) w2 fun e w'' => e = .returned (.bool (Ta t x)) ∧ Below w2.heap.size w2 w'' ∧ Kept w' w'' := fun w2 h2 =>
    (HA.out w2 tv nv t x (hk0.trans h2) (hat.kept h2) (hn.kept h2) hal hx trivial).mono (fun e w3 h => ⟨h.1, h.2, h2.trans (Kept.of_below h.2)⟩)
  have hcB : ∀ w2, Kept w' w2 → Calls Tryz.prog kb (#[tv, nv] ++ cb) w2 fun e w'' => e = .returned (.bool (Tb t x)) ∧ Below w2.heap.size w2 w'' := fun w2 h2 =>
    HB.out w2 tv nv t x (hk0.trans h2) (hat.kept h2) (hn.kept h2) hal hx trivial
  clear hb HA HB hk hk0 hal hx
  obtain ⟨vk, rfl, pk, ck, rfl, fk⟩ := hn
  obtain ⟨pa, cat, rfl, fa⟩ := hat
  clear fk fa
  obtain ⟨x0, x1, x2, x3, ks⟩ := x
  simp only at hcA hcB ⊢
  obtain ⟨m, hm⟩ : ∃ m, m = ks.length := ⟨_, rfl⟩
  obtain ⟨q, hq⟩ : ∃ q, q = t.length := ⟨_, rfl⟩
  rw [← hm, ← hq] at hcA hcB
  rw [← hm, ← hq]
  clear hm hq
  obtain ⟨W1, hW1⟩ : ∃ W1, W1 = w'.alloc (.cells #[.int .i64 x0, .int .i64 x1, .string ⟨x2.toArray⟩, .int .i64 x3, .slice pk m ck] 39) := ⟨_, rfl⟩
  have hb1 : Below w'.heap.size w' W1 := by rw [hW1]; exact (Below.refl _ _).alloc (Nat.le_refl _) _
  have hN1 : W1.heap[w'.heap.size]? = some (.cells #[.int .i64 x0, .int .i64 x1, .string ⟨x2.toArray⟩, .int .i64 x3, .slice pk m ck] 39) := by rw [hW1]; show (w'.heap.push _)[_]? = _; simp
  obtain ⟨Bt, hBt⟩ := hid_ex (Ta t (x0, x1, x2, x3, ks))
  have hca := hcA W1 (Kept.of_below hb1)
  rw [hBt.out] at hca
  have HW1 := Lib.hid hW1
  show Calls Tryz.prog 101 #[.slice pa q cat, .agg #[.int .i64 x0, .int .i64 x1, .string ⟨x2.toArray⟩, .int .i64 x3, .slice pk m ck], .pointer (some ⟨b, 0, none⟩), .pointer (some ⟨b + 1, 0, none⟩)] w' _
  rw [hW1] at hca
  have hNx : ∀ w3, Below W1.heap.size W1 w3 → w3.heap[w'.heap.size]? = some (.cells #[.int .i64 x0, .int .i64 x1, .string ⟨x2.toArray⟩, .int .i64 x3, .slice pk m ck] 39) ∧ Below w'.heap.size w' w3 := fun w3 h3 =>
    ⟨(h3.block w'.heap.size (Array.getElem?_eq_some_iff.1 hN1).1).trans hN1, hb1.trans (h3.mono hb1.size)⟩
  rw [hW1] at hNx
  cases hB : Bt with
  | true =>
    have HR : Hid (tEither Ta Tb t (x0, x1, x2, x3, ks) = true) := by show _ = _; unfold tEither; rw [hBt.out, hB]; rfl
    rw [HR.out]
    rw [hB] at hca
    clear hcA hcB HR hBt hB hN1 hW1
    go_enter Tryz.func101, Tryz.ntmps101
    go_wp2_with (refine hca.mono ?_; clear hca; rintro e w3 ⟨rfl, hb3, hk3⟩)
    go_ret
    exact ⟨rfl, (hNx w3 hb3).2⟩
  | false =>
    obtain ⟨Bb, hBb⟩ := hid_ex (Tb t (x0, x1, x2, x3, ks))
    have hcb := hcB
    have HR : Hid (tEither Ta Tb t (x0, x1, x2, x3, ks) = Bb) := by show _ = _; unfold tEither; rw [hBt.out, hB, hBb.out]; rfl
    rw [HR.out]
    rw [hB] at hca
    rw [hBb.out] at hcb
    clear hcA hcB HR hBt hB hN1 hW1 hBb
    go_enter Tryz.func101, Tryz.ntmps101
    go_wp2_with (first
      | (refine hca.mono ?_; clear hca; rintro e w3 ⟨rfl, hb3, hk3⟩; have d2 := hk3.cell hc2; have hcb3 := hcb w3 hk3; obtain ⟨c0, c1, c2, c3, c4⟩ := box5 (w := w3) (hNx w3 hb3).1; have hbw3 := Lib.hid (hNx w3 hb3).2)
      | (refine hcb3.mono ?_; clear hcb3; rintro e w4 ⟨rfl, hb4⟩))
    go_ret
    exact ⟨rfl, hbw3.out.trans (hb4.mono hbw3.out.size)⟩
end Go.Proofs.YtkmmcphiijolkaaGreatDoor

set_option linter.unusedVariables false
set_option linter.unusedSimpArgs false
namespace Go.Proofs.YtkmmcphiijolkaaGreatDoor
open Go.RowKit Go.Shelf
open Tr

theorem infoNode : (Tryz.prog.info? 39).map (fun i => (i.zero, i.size, i.bytes)) = some (some (.agg #[.int .i64 0, .int .i64 0, .string ⟨#[]⟩, .int .i64 0, .slice none 0 0]), 5, 64) := by kernel_rfl
/-- A node's five cells. -/
def flatN (p : NodeD × Value) : List Value := [.int .i64 p.1.1, .int .i64 p.1.2.1, .string ⟨p.1.2.2.1.toArray⟩, .int .i64 p.1.2.2.2.1, p.2]
def flatT (P : List (NodeD × Value)) : List Value := P.flatMap flatN
theorem flatT_append (P Q : List (NodeD × Value)) : flatT (P ++ Q) = flatT P ++ flatT Q := by simp [flatT]
theorem flatT_length : ∀ P : List (NodeD × Value), (flatT P).length = P.length * 5
  | [] => rfl
  | p :: P => by
    have := flatT_length P
    simp only [flatT, List.flatMap_cons, List.length_append, List.length_cons] at this ⊢
    rw [this]
    simp only [flatN, List.length_cons, List.length_nil]
    omega
theorem flatT_get : ∀ (P : List (NodeD × Value)) (k : Nat) (p : NodeD × Value) (i : Nat), P[k]? = some p → i < 5 → (flatT P)[k * 5 + i]? = (flatN p)[i]?
  | [], k, p, i, h, _ => by simp at h
  | q :: P, 0, p, i, h, hi => by
    simp only [List.getElem?_cons_zero, Option.some.injEq] at h
    subst h
    simp only [flatT, List.flatMap_cons, Nat.zero_mul, Nat.zero_add]
    rw [List.getElem?_append_left (by simp [flatN]; omega)]
  | q :: P, k + 1, p, i, h, hi => by
    simp only [List.getElem?_cons_succ] at h
    have := flatT_get P k p i h hi
    simp only [flatT, List.flatMap_cons] at this ⊢
    rw [List.getElem?_append_right (by simp [flatN]; omega)]
    rw [← this]
    congr 1
    simp [flatN]
    omega
/-- A node's kids, in a block that is not own. -/
def KRowX (own : Option Nat) (vk : Value) (ks : List Int) (w : World) : Prop := KRow vk ks w ∧ (ks ≠ [] → ∀ g, vk.ownBlock = some g → own ≠ some g)
/-- A row of nodes of the call's own. -/
def TRow (base : Nat) (v : Value) (P : List (NodeD × Value)) (w : World) : Prop := w.ownsRow base 39 5 v P.length (flatT P) ∧ ∀ p ∈ P, KRowX v.ownBlock p.2 p.1.2.2.2.2 w
theorem TRow.argT {base : Nat} {v : Value} {P : List (NodeD × Value)} {w : World} (h : TRow base v P w) : ArgT v (P.map (·.1)) w := by
  obtain ⟨ho, hk⟩ := h
  rcases ho.2 with ⟨rfl, hn⟩ | ⟨g, cap, cur, rfl, hg, hgb, hnc, hcm, hcs, htk⟩
  · have hx : P = [] := by cases P with
      | nil => rfl
      | cons a l => simp at hn
    subst hx
    exact ⟨none, 0, rfl, fun k x hx => by simp at hx⟩
  · refine ⟨_, cap, by rw [List.length_map], fun k x hx => ?_⟩
    rw [List.getElem?_map] at hx
    cases hp : P[k]? with
    | none => rw [hp] at hx; simp at hx
    | some p =>
      rw [hp] at hx
      simp only [Option.map_some, Option.some.injEq] at hx
      subst hx
      have hlt := (List.getElem?_eq_some_iff.1 hp).1
      have hcell : ∀ i, i < 5 → w.cell? ⟨g, 0 + (k * 5 + i), none⟩ = (flatN p)[i]? := fun i hi => by
        rw [Nat.zero_add]
        have := ho.cellAt (g := g) (cap := cap) (k * 5 + i) (by omega)
        rw [this]
        exact flatT_get P k p i hp hi
      refine ⟨g, 0, p.2, rfl, (Array.getElem?_eq_some_iff.1 hgb).1, hcell 0 (by omega), hcell 1 (by omega), hcell 2 (by omega), hcell 3 (by omega), hcell 4 (by omega), (hk p (List.mem_of_getElem? hp)).1⟩
theorem KRow.same {v : Value} {l : List Int} {w w' : World} (h : KRow v l w) (hs : w.heap.size ≤ w'.heap.size) (hb : l ≠ [] → ∀ g, v.ownBlock = some g → g < w.heap.size → w'.heap[g]? = w.heap[g]?) : KRow v l w' := by
  obtain ⟨pa, cap, e, hc⟩ := h
  refine ⟨pa, cap, e, fun k c hk => ?_, hc.2⟩
  obtain ⟨g, o, e2, hg, a0⟩ := hc.1 k c hk
  refine ⟨g, o, e2, Nat.lt_of_lt_of_le hg hs, ?_⟩
  rw [World.cell?_of_block (w := w) (hb (fun e => by rw [e] at hk; simp at hk) g (by rw [e, e2]; rfl) hg)]
  exact a0
theorem TRow.grow {base : Nat} {v v' : Value} {P Q : List (NodeD × Value)} {w w' : World} (h : TRow base v P w) (hown : w'.ownsRow base 39 5 v' (P.length + Q.length) (flatT P ++ flatT Q)) (hg : w.grownBy w' v.ownBlock)
    (hl : v'.ownBlock = v.ownBlock ∨ v'.ownBlock = some w.heap.size) (hq : ∀ q ∈ Q, KRowX v.ownBlock q.2 q.1.2.2.2.2 w) : TRow base v' (P ++ Q) w' := by
  refine ⟨by rw [List.length_append, flatT_append]; exact hown, fun p hp => ?_⟩
  have hx : KRowX v.ownBlock p.2 p.1.2.2.2.2 w := by
    rcases List.mem_append.1 hp with hp | hp
    · exact h.2 p hp
    · exact hq p hp
  refine ⟨hx.1.same hg.size (fun hne g e hlt => hg.block g hlt (fun e2 => hx.2 hne g e e2.symm)), fun hne g e => ?_⟩
  rcases hl with hl | hl
  · rw [hl]; exact hx.2 hne g e
  · rw [hl]
    intro e2
    injection e2 with e2
    obtain ⟨pa, cap, ev, hc⟩ := hx.1
    obtain ⟨c, hc0⟩ : ∃ c, p.1.2.2.2.2[0]? = some c := by
      cases hks : p.1.2.2.2.2 with
      | nil => exact absurd hks hne
      | cons a l => exact ⟨a, rfl⟩
    obtain ⟨g', o, e3, hg', _⟩ := hc.1 0 c hc0
    rw [ev, e3] at e
    simp only [Value.ownBlock, Option.some.injEq] at e
    omega
theorem TRow.below {base : Nat} {v : Value} {P : List (NodeD × Value)} {w w' : World} (h : TRow base v P w) (hb : Below w.heap.size w w') : TRow base v P w' := by
  refine ⟨?_, fun p hp => ⟨(h.2 p hp).1.below hb, (h.2 p hp).2⟩⟩
  refine ⟨h.1.1, ?_⟩
  rcases h.1.2 with h2 | ⟨g, cap, cur, e, hg, hgb, r⟩
  · exact Or.inl h2
  · exact Or.inr ⟨g, cap, cur, e, hg, (hb.block g (Array.getElem?_eq_some_iff.1 hgb).1).trans hgb, r⟩
/-- A row written out. -/
theorem TRow.lit (base : Nat) (P : List (NodeD × Value)) (w : World) (cs : Array Value) (hcs : cs.toList = flatT P) (hb : base ≤ w.heap.size) (hl : P.length ≤ maxLen) (hk : ∀ p ∈ P, KRow p.2 p.1.2.2.2.2 w) : TRow base (.slice (some ⟨w.heap.size, 0, none⟩) P.length P.length) P (w.alloc (.cells cs 39)) := by
  have hbel := (Below.refl w.heap.size w).alloc (Nat.le_refl _) (.cells cs 39)
  refine ⟨⟨flatT_length P, Or.inr ⟨w.heap.size, P.length, cs, rfl, hb, heap_alloc_new w _, Nat.le_refl _, hl, by rw [← Array.length_toList, hcs, flatT_length], ?_⟩⟩, fun p hp => ⟨(hk p hp).below hbel, fun hne g e => ?_⟩⟩
  · rw [hcs]
    exact List.take_of_length_le (by rw [flatT_length]; exact Nat.le_refl _)
  · obtain ⟨pa, cap, ev, hc⟩ := hk p hp
    obtain ⟨c, hc0⟩ : ∃ c, p.1.2.2.2.2[0]? = some c := by
      cases hks : p.1.2.2.2.2 with
      | nil => exact absurd hks hne
      | cons a l => exact ⟨a, rfl⟩
    obtain ⟨g', o, e3, hg', _⟩ := hc.1 0 c hc0
    rw [ev, e3] at e
    simp only [Value.ownBlock, Option.some.injEq] at e
    intro e2
    simp only [Value.ownBlock, Option.some.injEq] at e2
    omega
/-- A row of kids written out. -/
theorem KRow.lit (w : World) (cs : Array Value) (ks : List Int) (hcs : cs.toList = ks.map (Value.int .i64)) : KRow (.slice (some ⟨w.heap.size, 0, none⟩) ks.length ks.length) ks (w.alloc (.cells cs 3)) :=
  ⟨_, _, rfl, fun k c hk => ⟨w.heap.size, 0, rfl, by simp, by
    rw [Nat.zero_add, cell_of_row _ w.heap.size k cs 3 (0, 0) (heap_alloc_new w _), ← Array.getElem?_toList, hcs, List.getElem?_map, hk]
    rfl⟩, Nat.le_refl _⟩
theorem KRow.nil_ (w : World) : KRow (.slice none 0 0) [] w := ⟨none, 0, rfl, fun k c hk => by simp at hk, Nat.le_refl _⟩
end Go.Proofs.YtkmmcphiijolkaaGreatDoor

set_option linter.unusedVariables false
set_option linter.unusedSimpArgs false
namespace Go.Proofs.YtkmmcphiijolkaaGreatDoor
open Go.RowKit Go.Shelf
open Tr

theorem TRow.app {base : Nat} {v v' : Value} {P Q : List (NodeD × Value)} {w w2 w1 : World} (h : TRow base v P w) (hb : Below w.heap.size w w2) (hown : w1.ownsRow base 39 5 v' (P.length + Q.length) (flatT P ++ flatT Q)) (hg : w2.grownBy w1 v.ownBlock)
    (hl : v'.ownBlock = v.ownBlock ∨ v'.ownBlock = some w2.heap.size) (hq : ∀ q ∈ Q, KRow q.2 q.1.2.2.2.2 w2 ∧ (q.1.2.2.2.2 ≠ [] → ∀ g, q.2.ownBlock = some g → w.heap.size ≤ g)) : TRow base v' (P ++ Q) w1 :=
  (h.below hb).grow hown hg hl fun q hq2 => ⟨(hq q hq2).1, fun hne g e e2 => by
    have h1 := (hq q hq2).2 hne g e
    have h2 := (h.1.lt g e2).2
    omega⟩
theorem TRow.wide {base : Nat} {v : Value} {P : List (NodeD × Value)} {w w2 w1 w0 : World} (h : TRow base v P w) (h0 : Below base w0 w) (hb : Below w.heap.size w w2) (hbase : base ≤ w.heap.size) (hg : w2.grownBy w1 v.ownBlock) : Below base w0 w1 :=
  (h0.trans (hb.mono hbase)).grown hg (Nat.le_trans hbase hb.size) (fun k e => (h.1.lt k e).1)
theorem TRow.form {base : Nat} {v : Value} {P : List (NodeD × Value)} {w : World} (h : TRow base v P w) (hn : 0 < P.length) : ∃ g c, v = .slice (some ⟨g, 0, none⟩) P.length c := by
  obtain ⟨g, c, e, _⟩ := h.1.form hn
  exact ⟨g, c, e⟩
theorem kid_lit1 (w : World) (o : Obj) (a : Int) : KRow (.slice (some ⟨w.heap.size, 0, none⟩) 1 1) [a] ((w.alloc (.cells #[.int .i64 a] 3)).alloc o) :=
  (KRow.lit w #[.int .i64 a] [a] rfl).below ((Below.refl _ _).alloc (Nat.le_refl _) _)
theorem nodesL (w : World) (Q : List (NodeD × Value)) (cs : Array Value) (hcs : cs.toList = flatT Q) : ∀ (j : Nat) (u : Value), (flatT Q)[j]? = some u → (w.alloc (.cells cs 39)).cell? ((⟨w.heap.size, 0, none⟩ : Addr).add j) = some u := by
  intro j u h
  have e : ((⟨w.heap.size, 0, none⟩ : Addr).add j) = ⟨w.heap.size, j, none⟩ := by unfold Addr.add; split <;> simp_all
  rw [e, cell_of_row _ w.heap.size j _ 39 (0, 0) (heap_alloc_new w _), ← Array.getElem?_toList, hcs]
  exact h
theorem flatT_one (Q : List (NodeD × Value)) : ∀ u ∈ flatT Q, (∃ i, u = .int .i64 i) ∨ (∃ s, u = .string s) ∨ ∃ q ∈ Q, u = q.2 := by
  intro u hu
  simp only [flatT, List.mem_flatMap] at hu
  obtain ⟨q, hq, hu⟩ := hu
  simp only [flatN, List.mem_cons, List.not_mem_nil, or_false] at hu
  rcases hu with rfl | rfl | rfl | rfl | rfl
  · exact .inl ⟨_, rfl⟩
  · exact .inl ⟨_, rfl⟩
  · exact .inr (.inl ⟨_, rfl⟩)
  · exact .inl ⟨_, rfl⟩
  · exact .inr (.inr ⟨q, hq, rfl⟩)
/-- Nodes that are written out are appended to a row of the call's own. -/
theorem wpList_tapp {ops : Array Oper} {rest : List Oper} {o : Oper} {a : Act} {Q' : Exit → Act → World → Prop} (hgd : o.guard = none) (s x : Operand)
    (ho : o.op = .call { callee := .builtin .append, args := #[s, x], argTypes := #[23, 23] }) (base : Nat) (v : Value) (P : List (NodeD × Value)) (w : World) (hT : TRow base v P w) (hbase : base ≤ w.heap.size) (w2 : World) (hb : Below w.heap.size w w2)
    (Q : List (NodeD × Value)) (n m : Nat) (hn : P.length = n) (hm : Q.length = m) (hQ : 0 < m) (cs : Array Value) (hcs : cs.toList = flatT Q) (hs : a.eval s = v) (hx : a.eval x = .slice (some ⟨w2.heap.size, 0, none⟩) m m)
    (hq : ∀ q ∈ Q, KRow q.2 q.1.2.2.2.2 w2 ∧ (q.1.2.2.2.2 ≠ [] → ∀ g, q.2.ownBlock = some g → w.heap.size ≤ g)) (hlen : n + m ≤ 1000000)
    (h : ∀ g c w', Hid (TRow base (.slice (some ⟨g, 0, none⟩) (n + m) c) (P ++ Q) w') → Hid ((P ++ Q).length = n + m) → (∀ w0, Below base w0 w → Below base w0 w') → wpList Tryz.prog ops Q' rest (a.put o.dst (.slice (some ⟨g, 0, none⟩) (n + m) c)) w') :
    wpList Tryz.prog ops Q' (o :: rest) a (w2.alloc (.cells cs 39)) := by
  subst hn
  subst hm
  obtain ⟨i0, hi, hz0, hz1, hz2⟩ := info_parts infoNode
  have hb2 : Below w.heap.size w (w2.alloc (.cells cs 39)) := hb.alloc hb.size _
  have hown : (w2.alloc (.cells cs 39)).ownsRow base 39 5 v P.length (flatT P) := (hT.below hb2).1
  refine wpList_append_own_at _ hgd s x 23 ho base 39 i0 _ 5 64 Tryz.underlying23 hi hz0 hz1 hz2 rfl (by decide) v P.length (flatT P) hs hown ⟨w2.heap.size, 0, none⟩ Q.length Q.length (flatT Q) hx (flatT_length Q) (nodesL w2 Q cs hcs) ?_ (by unfold maxLen; omega) (by omega) (by have := hb.size; simp; omega) ?_
  · intro u hu
    rcases flatT_one Q u hu with ⟨i, rfl⟩ | ⟨s, rfl⟩ | ⟨q, hqm, rfl⟩
    · rfl
    · rfl
    · obtain ⟨pa, cap, e, _⟩ := (hq q hqm).1
      rw [e]; rfl
  · intro v' w' hown' hgrow _ hloc
    have hT' := hT.app hb2 hown' hgrow hloc (fun q hqm => ⟨(hq q hqm).1.below ((Below.refl _ _).alloc (Nat.le_refl _) _), (hq q hqm).2⟩)
    obtain ⟨g, c, rfl⟩ := hT'.form (by rw [List.length_append]; omega)
    rw [List.length_append] at hT' ⊢
    exact h g c w' hT' (show _ = _ by rw [List.length_append]) (fun w0 h0 => hT.wide h0 hb2 hbase hgrow)
end Go.Proofs.YtkmmcphiijolkaaGreatDoor

set_option linter.unusedVariables false
set_option linter.unusedSimpArgs false
namespace Go.Proofs.YtkmmcphiijolkaaGreatDoor
open Go.RowKit Go.Shelf

/-- What may turn hangs on blocks below B alone. -/
def Dyn (R : World → Nat → Prop) (B : Nat) : Prop := ∀ A A', Below B A A' → ∀ k, R A' k → R A k
theorem Dyn.mono {R : World → Nat → Prop} {B B' : Nat} (h : Dyn R B) (hB : B ≤ B') : Dyn R B' := fun A A' hb k hk => h A A' (hb.mono hB) k hk
theorem Dyn.or {R : World → Nat → Prop} {B : Nat} (h : Dyn R B) (p : Nat → Prop) : Dyn (fun A k => R A k ∨ p k) B := fun A A' hb k hk => hk.elim (fun e => Or.inl (h A A' hb k e)) Or.inr
theorem Dyn.const (p : Nat → Prop) (B : Nat) : Dyn (fun _ k => p k) B := fun A A' hb k hk => hk
/-- What was there is as it was, but for blocks that may turn; and no other one may turn later. -/
structure Chg (R : World → Nat → Prop) (w w' : World) : Prop where
  os : w'.os = w.os
  tape : w'.tape = w.tape
  output : w'.output = w.output
  size : w.heap.size ≤ w'.heap.size
  both : ∀ k, k < w.heap.size → ¬ R w k → w'.heap[k]? = w.heap[k]? ∧ ¬ R w' k
theorem Chg.block {R : World → Nat → Prop} {w w' : World} (h : Chg R w w') (k : Nat) (hk : k < w.heap.size) (hr : ¬ R w k) : w'.heap[k]? = w.heap[k]? := (h.both k hk hr).1
theorem Chg.refl (R : World → Nat → Prop) (w : World) : Chg R w w := ⟨rfl, rfl, rfl, Nat.le_refl _, fun _ _ h => ⟨rfl, h⟩⟩
theorem Chg.trans {R : World → Nat → Prop} {a b c : World} (h : Chg R a b) (k : Chg R b c) : Chg R a c :=
  ⟨k.os.trans h.os, k.tape.trans h.tape, k.output.trans h.output, Nat.le_trans h.size k.size, fun i hi hr => ⟨((k.both i (Nat.lt_of_lt_of_le hi h.size) (h.both i hi hr).2).1).trans (h.both i hi hr).1, (k.both i (Nat.lt_of_lt_of_le hi h.size) (h.both i hi hr).2).2⟩⟩
/-- A change of what may turn: of what was there no more. -/
theorem Chg.mono {R R' : World → Nat → Prop} {a b : World} (h : Chg R a b) (hr : ∀ i, i < a.heap.size → R a i → R' a i) (hr' : ∀ i, i < a.heap.size → R' b i → R b i ∨ R' a i) : Chg R' a b :=
  ⟨h.os, h.tape, h.output, h.size, fun i hi hn => ⟨(h.both i hi (fun e => hn (hr i hi e))).1, fun e => (hr' i hi e).elim (h.both i hi (fun e => hn (hr i hi e))).2 hn⟩⟩
/-- .. where what may turn differs by blocks that never change their part. -/
theorem Chg.more {R : World → Nat → Prop} {p q : Nat → Prop} {a b : World} (h : Chg (fun A k => R A k ∨ p k) a b) (hr : ∀ i, i < a.heap.size → p i → q i) : Chg (fun A k => R A k ∨ q k) a b :=
  h.mono (fun i hi e => e.elim Or.inl (fun e => Or.inr (hr i hi e))) (fun i hi e => e.elim (fun e => Or.inl (Or.inl e)) (fun e => Or.inr (Or.inr e)))
theorem Chg.add {R : World → Nat → Prop} {q : Nat → Prop} {a b : World} (h : Chg R a b) : Chg (fun A k => R A k ∨ q k) a b :=
  h.mono (fun i hi e => Or.inl e) (fun i hi e => e.elim (fun e => Or.inl e) (fun e => Or.inr (Or.inr e)))
theorem Chg.drop {R : World → Nat → Prop} {q : Nat → Prop} {a b : World} (h : Chg (fun A k => R A k ∨ q k) a b) (hq : ∀ i, i < a.heap.size → ¬ q i) : Chg R a b :=
  h.mono (fun i hi e => e.elim id (fun e => absurd e (hq i hi))) (fun i hi e => Or.inl (Or.inl e))
/-- Two steps, of which the second one may turn more, but of what was there ahead of both no more. -/
theorem Chg.then {R : World → Nat → Prop} {p q : Nat → Prop} {a b c : World} (h : Chg (fun A k => R A k ∨ p k) a b) (k : Chg (fun A k => R A k ∨ q k) b c) (hr : ∀ i, i < a.heap.size → q i → p i) : Chg (fun A k => R A k ∨ p k) a c :=
  ⟨k.os.trans h.os, k.tape.trans h.tape, k.output.trans h.output, Nat.le_trans h.size k.size, fun i hi hn => by
    obtain ⟨h1, h2⟩ := h.both i hi hn
    obtain ⟨h3, h4⟩ := k.both i (Nat.lt_of_lt_of_le hi h.size) (fun e => e.elim (fun e => h2 (Or.inl e)) (fun e => h2 (Or.inr (hr i hi e))))
    exact ⟨h3.trans h1, fun e => e.elim (fun e => h4 (Or.inl e)) (fun e => hn (Or.inr e))⟩⟩
theorem Chg.of_below {R : World → Nat → Prop} {a w w' : World} (h : Chg R a w) {B B0 : Nat} (hD : Dyn R B0) (hb : Below B w w') (hB : a.heap.size ≤ B) (hB0 : B0 ≤ B) : Chg R a w' :=
  ⟨hb.os.trans h.os, hb.tape.trans h.tape, hb.output.trans h.output, Nat.le_trans h.size hb.size, fun k hk hn => ⟨(hb.block k (by omega)).trans (h.both k hk hn).1, fun e => (h.both k hk hn).2 (hD w w' (hb.mono hB0) k e)⟩⟩
/-- A turn of one block alone, that may turn, or that was not there. -/
theorem Chg.one {R : World → Nat → Prop} {a w w' : World} (h : Chg R a w) {B0 b : Nat} (hD : Dyn R B0) (hB0 : B0 ≤ b) (ho : w'.os = w.os) (ht : w'.tape = w.tape) (hp : w'.output = w.output) (hs : w.heap.size ≤ w'.heap.size) (hk : ∀ k, k < w.heap.size → k ≠ b → w'.heap[k]? = w.heap[k]?) (hsz : B0 ≤ w.heap.size) (hr : b < a.heap.size → R a b) : Chg R a w' :=
  ⟨ho.trans h.os, ht.trans h.tape, hp.trans h.output, Nat.le_trans h.size hs, fun k hka hn => ⟨(hk k (Nat.lt_of_lt_of_le hka h.size) (fun e => by subst e; exact hn (hr hka))).trans (h.both k hka hn).1,
    fun e => (h.both k hka hn).2 (hD w w' ⟨ho, ht, hp, hs, fun i hi => hk i (by omega) (by omega)⟩ k e)⟩⟩
theorem Chg.setCell {R : World → Nat → Prop} {a w : World} (h : Chg R a w) {B0 : Nat} (hD : Dyn R B0) {p : Addr} (hB0 : B0 ≤ p.block) (hsz : B0 ≤ w.heap.size) (hp : p.block < a.heap.size → R a p.block) (u : Value) : Chg R a (w.setCell p u) :=
  h.one (b := p.block) hD hB0 rfl rfl rfl (by simp [World.setCell]) (fun k hk hne => Below.heap_setCell _ _ _ _ hne) hsz hp
theorem Chg.putObj {R : World → Nat → Prop} {a w : World} (h : Chg R a w) {B0 : Nat} (hD : Dyn R B0) {l : Nat} (hB0 : B0 ≤ l) (hsz : B0 ≤ w.heap.size) (hp : l < a.heap.size → R a l) (o : Obj) : Chg R a (w.putObj l o) :=
  h.one (b := l) hD hB0 rfl rfl rfl (by rw [World.putObj_size]; exact Nat.le_refl _) (fun k hk hne => World.putObj_heap_other hne) hsz hp
theorem Chg.grown {R : World → Nat → Prop} {a w w' : World} (h : Chg R a w) {B0 b : Nat} (hD : Dyn R B0) (hB0 : B0 ≤ b) (hsz : B0 ≤ w.heap.size) (hg : w.grownBy w' (some b)) (hr : b < a.heap.size → R a b) : Chg R a w' :=
  h.one (b := b) hD hB0 hg.os hg.tape hg.output hg.size (fun k hk hne => hg.block k hk (by simpa using hne)) hsz hr
theorem Chg.below {R : World → Nat → Prop} {a w : World} (h : Chg R a w) {B : Nat} (hB : B ≤ a.heap.size) (hR : ∀ i, i < B → ¬ R a i) : Below B a w := ⟨h.os, h.tape, h.output, h.size, fun k hk => h.block k (by omega) (hR k hk)⟩

/-- A step of an iterator's own: of what rounds may turn nothing. -/
structure Stp (R : World → Nat → Prop) (B : Nat) (A A' : World) : Prop where
  b : Below B A A'
  k : ∀ k, k < A.heap.size → R A k → A'.heap[k]? = A.heap[k]?
theorem Stp.all {R : World → Nat → Prop} {B : Nat} {A A' : World} (h : Below A.heap.size A A') (hB : B ≤ A.heap.size) : Stp R B A A' := ⟨h.mono hB, fun k hk _ => h.block k hk⟩
theorem Stp.one {R : World → Nat → Prop} {B b : Nat} {A A' : World} (h : Below B A A') (hk : ∀ k, k < A.heap.size → k ≠ b → A'.heap[k]? = A.heap[k]?) (hn : ¬ R A b) : Stp R B A A' := ⟨h, fun k hka hr => hk k hka (fun e => hn (e ▸ hr))⟩
theorem Stp.setCell {R : World → Nat → Prop} {B : Nat} {A : World} {p : Addr} (hB : B ≤ p.block) (hn : ¬ R A p.block) (u : Value) : Stp R B A (A.setCell p u) :=
  Stp.one (b := p.block) ((Below.refl B A).setCell hB u) (fun k hk hne => Below.heap_setCell _ _ _ _ hne) hn
theorem below_putObj {B l : Nat} (A : World) (hB : B ≤ l) (o : Obj) : Below B A (A.putObj l o) := ⟨rfl, rfl, rfl, by rw [World.putObj_size]; exact Nat.le_refl _, fun k hk => World.putObj_heap_other (by omega)⟩
theorem Stp.putObj {R : World → Nat → Prop} {B l : Nat} {A : World} (hB : B ≤ l) (hn : ¬ R A l) (o : Obj) : Stp R B A (A.putObj l o) :=
  Stp.one (b := l) (below_putObj A hB o) (fun k hk hne => World.putObj_heap_other hne) hn
theorem Stp.grown {R : World → Nat → Prop} {B b : Nat} {A A' : World} (hB : B ≤ b) (hs : B ≤ A.heap.size) (hg : A.grownBy A' (some b)) (hn : ¬ R A b) : Stp R B A A' :=
  Stp.one (b := b) ((Below.refl B A).grown hg hs (fun k e => by cases e; exact hB)) (fun k hk hne => hg.block k hk (by simpa using hne)) hn
theorem Stp.less {R R' : World → Nat → Prop} {B B' : Nat} {A A' : World} (h : Stp R' B' A A') (hB : B ≤ B') (hr : ∀ k, R A k → R' A k) : Stp R B A A' := ⟨h.b.mono hB, fun k hk e => h.k k hk (hr k e)⟩

def roundPostR {α : Type} (R : World → Nat → Prop) (I : List α → World → Prop) (Ix : Code → List α → World → Prop) (xs : List α) (W : World) : Exit → Act → World → Prop
  | .normal, _, W' => Chg R W W' ∧ I xs W'
  | .ret, _, W' => Chg R W W' ∧ Ix .ret xs W'
  | .exit id, _, W' => Chg R W W' ∧ Ix (.exit id) xs W'
  | .goto t, _, W' => Chg R W W' ∧ Ix (.goto t) xs W'
  | .panic _, _, _ => False
  | .outgrown, _, _ => False

/-- What an iterator owes to rounds: J between two rounds, Jx behind a round that said no; rounds may turn what R says. -/
def GivesR {α : Type} (F : Fence) (n : Nat) (P : Program) (g : Nat) (lb : Array Value) (enc : α → Array Value) (S Sd : List α → Prop) (R : World → Nat → Prop) (w : World) : Prop :=
  ∀ (l : Nat) (J Jx : List α → World → Prop) (W : World), w.heap.size ≤ l → l < W.heap.size → Below w.heap.size w W → ¬ R W l → (∀ pre A, J pre A → W.heap.size ≤ A.heap.size → ∀ k, R A k → k < A.heap.size) →
    (∀ pre A B, J pre A → Stp R W.heap.size A B → W.heap.size ≤ A.heap.size → J pre B) → (∀ pre A B, Jx pre A → Below W.heap.size A B → W.heap.size ≤ A.heap.size → Jx pre B) →
    (∀ pre x A, J pre A → W.heap.size ≤ A.heap.size → S (pre ++ [x]) → YieldAt F (n - 1) P l (enc x) A fun e B => Chg (fun A k => R A k ∨ k = l) A B ∧ ((e = .returned (.bool true) ∧ J (pre ++ [x]) B) ∨ (e = .returned (.bool false) ∧ Jx (pre ++ [x]) B))) →
    J [] W →
    CallsIn F n P g (#[.func (.yield l) #[] #[]] ++ lb) W fun e B => (∃ v, e = .returned v) ∧ Chg (fun A k => R A k ∨ k = l) W B ∧ ((∃ xs, Sd xs ∧ J xs B) ∨ (∃ pre, Jx pre B))

variable {F : Fence} {n : Nat} {P : Program}
theorem wpIn_rangeFunc_R {α : Type} {g : Operand} {ps : Array Tmp} {assign body : Code} {Q : Exit → Act → World → Prop} {a : Act} {w : World}
    (hro : F.round = none) (h1 : F.depth.isSome = true → 1 ≤ n) {gf : Nat} {lb : Array Value} (hg : a.eval g = .func (.func gf) #[] lb) (hFg : F.fn gf) (eg : ∀ args w, (callFunc gf args).run P w = .ok (.enter gf args) w)
    {enc : α → Array Value} {S Sd : List α → Prop} {R : World → Nat → Prop} (hD : Dyn R w.heap.size) (hseq : GivesR F (n - 1) P gf lb enc S Sd R w) (hps : ∀ x, (enc x).size = ps.size)
    (I : List α → World → Prop) (Ix : Code → List α → World → Prop) (hR : ∀ pre A, I pre A → w.heap.size ≤ A.heap.size → ∀ k, R A k → k < A.heap.size)
    (hI : ∀ pre A B, I pre A → Stp R w.heap.size A B → w.heap.size ≤ A.heap.size → I pre B) (hIx : ∀ c pre A B, Ix c pre A → Below w.heap.size A B → w.heap.size ≤ A.heap.size → Ix c pre B) (h0 : I [] w) (a₁ : α → Act)
    (hassign : ∀ (l : Nat) (x : α) (W : World) (K : Act → World → Prop), K (a₁ x) W →
      assign.wpIn (F.inRound l) (n - 1 - 1) P (Exit.then K (fun _ _ _ => False)) { tmps := (ps.zip (enc x)).foldl (fun t (p, v) => t.setIfInBounds p v) a.tmps, defers := [] } W)
    (hbody : ∀ (l : Nat) (pre : List α) (x : α) (W : World), I pre W → S (pre ++ [x]) → w.heap.size + 2 ≤ W.heap.size → body.wpIn (F.inRound l) (n - 1 - 1) P (roundPostR R I Ix (pre ++ [x]) W) (a₁ x) W)
    (hdone : ∀ (xs : List α) (W : World), Sd xs → I xs W → Chg R w W → W.heap[w.heap.size]? = some (.deferred (some [])) → ¬ R W w.heap.size → Q .normal { a with defers := { target := .collected w.heap.size, args := #[] } :: a.defers } W)
    (hstop : ∀ (c : Code) (pre : List α) (W : World), Ix c pre W → Chg R w W → W.heap[w.heap.size]? = some (.deferred (some [])) → c.wpIn F n P Q { a with defers := { target := .collected w.heap.size, args := #[] } :: a.defers } W) :
    (Code.rangeFunc g ps assign body).wpIn F n P Q a w := by
  refine wpIn_rangeFunc ?_
  intro fn hfn
  rw [hro]
  obtain ⟨rec, hrec⟩ : ∃ rec : LoopState → Option Code → Loop, rec = fun st pe => { state := st, pending := pe, fn, tmps := a.tmps, params := ps, assign, body, defers := w.heap.size } := ⟨_, rfl⟩
  obtain ⟨W1, hW1⟩ : ∃ W1, (w.alloc (.deferred (some []))).alloc (.loop (rec .ready none)) = W1 := ⟨_, rfl⟩
  have hs1 : W1.heap.size = w.heap.size + 2 := by rw [← hW1]; simp
  have hL1 : W1.heap[w.heap.size + 1]? = some (.loop (rec .ready none)) := by
    rw [← hW1]; have := World.alloc_heap_new (w.alloc (.deferred (some []))) (.loop (rec .ready none)); rwa [World.size_alloc] at this
  have hK1 : W1.heap[w.heap.size]? = some (.deferred (some [])) := by
    rw [← hW1]; exact (Below.heap_alloc _ _ _ (by simp)).trans (World.alloc_heap_new w _)
  have hb1 : Below w.heap.size w W1 := by
    rw [← hW1]; exact ((Below.refl _ w).alloc (Nat.le_refl _) _).alloc (by simp) _
  have hI1 : I [] W1 := hI _ _ _ h0 (Stp.all hb1 (Nat.le_refl _)) (Nat.le_refl _)
  have hn1 : ∀ k, w.heap.size ≤ k → ¬ R W1 k := fun k hk e => by have := hR _ _ h0 (Nat.le_refl _) k (hD w W1 hb1 k e); omega
  -- what a turn of the loop's own record keeps
  have hput : ∀ (A : World) (o' : Obj), Below w.heap.size A (A.putObj (w.heap.size + 1) o') := fun A o' =>
    ⟨rfl, rfl, rfl, by rw [World.putObj_size]; exact Nat.le_refl _, fun k hk => World.putObj_heap_other (by omega)⟩
  refine ⟨w.heap.size + 1, [{ target := .collected w.heap.size, args := #[] }], W1, { target := .fn (.func gf) lb, args := #[.func (.yield (w.heap.size + 1)) #[] #[]] }, W1, gf,
    #[.func (.yield (w.heap.size + 1)) #[] #[]] ++ lb, W1, ?_, ?_, ?_, ?_, h1, ?_⟩
  · rw [← hW1, hrec]; exact run_enterLoop_outer _ _ _ _ _
  · simp only [resolve, hg]
    simp [go_sem]
  · intro f' hf'; simp [Target.leads] at hf'; subst hf'; exact hFg
  · simp [invoke, go_sem, eg]
  · refine (hseq (w.heap.size + 1)
      (fun pre W => I pre W ∧ Chg R w W ∧ W.heap[w.heap.size + 1]? = some (.loop (rec .ready none)) ∧ W.heap[w.heap.size]? = some (.deferred (some [])) ∧ ¬ R W w.heap.size ∧ ¬ R W (w.heap.size + 1))
      (fun pre W => ∃ c, Ix c pre W ∧ Chg R w W ∧ W.heap[w.heap.size + 1]? = some (.loop (rec .done (some c))) ∧ W.heap[w.heap.size]? = some (.deferred (some [])))
      W1 (by omega) (by omega) hb1 (hn1 _ (by omega)) ?_ ?_ ?_ ?_ ⟨hI1, (Chg.refl R w).of_below hD hb1 (Nat.le_refl _) (Nat.le_refl _), hL1, hK1, hn1 _ (by omega), hn1 _ (by omega)⟩).mono ?_
    · rintro pre A ⟨hi, _⟩ hs k hk
      exact hR _ _ hi (by omega) k hk
    · rintro pre A B ⟨hi, hc, hl, hk, hn, hn'⟩ hST hs
      have hB := hST.b
      have hB' : Below w.heap.size A B := hB.mono (by omega)
      exact ⟨hI _ _ _ hi (hST.less (by omega) (fun _ e => e)) (by omega), hc.of_below hD hB (by omega) (by omega), (hB.block _ (by omega)).trans hl, (hB.block _ (by omega)).trans hk, fun e => hn (hD _ _ hB' _ e), fun e => hn' (hD _ _ hB' _ e)⟩
    · rintro pre A B ⟨c, hi, hc, hl, hk⟩ hB hs
      exact ⟨c, hIx _ _ _ _ hi (hB.mono (by omega)) (by omega), hc.of_below hD hB (by omega) (by omega), (hB.block _ (by omega)).trans hl, (hB.block _ (by omega)).trans hk⟩
    · -- ONE ROUND
      rintro pre x W ⟨hi, hc, hl, hk, hn, hn'⟩ hsz hS
      have hsz2 : w.heap.size + 2 ≤ W.heap.size := by omega
      have hlt : w.heap.size + 1 < W.heap.size := by omega
      have hy := run_yield (P := P) (args := enc x) hl (by rw [hrec]; exact hps x)
      rw [hrec] at hy
      refine ⟨fn, _, assign, body, hy, roundIn_of_wpIn hfn (hassign _ x W _ ⟨_, run_beginRound hl (by rw [hrec]), ?_⟩)⟩
      obtain ⟨W2, hW2⟩ : ∃ W2, W2 = W.putObj (w.heap.size + 1) (.loop { rec .ready none with state := .busy }) := ⟨_, rfl⟩
      rw [← hW2]
      have hl2 : W2.heap[w.heap.size + 1]? = some (.loop { rec .ready none with state := .busy }) := by rw [hW2]; exact World.putObj_heap_same hlt
      have hk2 : W2.heap[w.heap.size]? = some (.deferred (some [])) := by rw [hW2]; exact (World.putObj_heap_other (by omega)).trans hk
      have hs2 : W2.heap.size = W.heap.size := by rw [hW2]; exact World.putObj_size
      have hb2 : Below w.heap.size W W2 := by rw [hW2]; exact hput W _
      have hc2 : Chg (fun A k => R A k ∨ k = w.heap.size + 1) W W2 := by rw [hW2]; exact (Chg.refl (fun A k => R A k ∨ k = w.heap.size + 1) W).putObj (hD.or fun k => k = w.heap.size + 1) (B0 := w.heap.size) (l := w.heap.size + 1) (by omega) (by omega) (fun _ => Or.inr rfl) _
      have hc3 : Chg R w W2 := by rw [hW2]; exact hc.putObj hD (by omega) (by omega) (fun h => by omega) _
      have hn2 : ¬ R W2 w.heap.size := fun e => hn (hD _ _ hb2 _ e)
      have hn2' : ¬ R W2 (w.heap.size + 1) := fun e => hn' (hD _ _ hb2 _ e)
      have hW2' := hW2
      clear hW2
      refine wpIn_mono (hbody _ pre x _ (hI _ _ _ hi (by rw [hW2'] ; exact Stp.putObj (by omega) hn' _) (by omega)) hS (by rw [hs2]; exact hsz2)) ?_
      have fin : ∀ (jump : Option Code) (W3 : World), Chg R W2 W3 → ∃ W4,
          (Instr.endRound (w.heap.size + 1) jump).run P W3 = .ok (.bool jump.isNone) W4 ∧
          W4.heap[w.heap.size + 1]? = some (.loop (rec (if jump.isNone then .ready else .done) jump)) ∧ W4.heap[w.heap.size]? = some (.deferred (some [])) ∧
          Chg (fun A k => R A k ∨ k = w.heap.size + 1) W W4 ∧ Chg R w W4 ∧ Below w.heap.size W3 W4 ∧ Stp R w.heap.size W3 W4 ∧ w.heap.size ≤ W3.heap.size ∧ ¬ R W4 w.heap.size ∧ ¬ R W4 (w.heap.size + 1) := fun jump W3 hk3 => by
        have hs3 := hk3.size
        rw [hs2] at hs3
        obtain ⟨hl3, hn3'⟩ := hk3.both (w.heap.size + 1) (by rw [hs2]; omega) hn2'
        obtain ⟨hk4, hn3⟩ := hk3.both w.heap.size (by rw [hs2]; omega) hn2
        rw [hl2] at hl3
        rw [hk2] at hk4
        have := run_endRound (P := P) jump hl3
        have hb4 := hput W3 (.loop (rec (if jump.isNone then .ready else .done) jump))
        rw [hrec] at this hb4 ⊢
        exact ⟨_, this, World.putObj_heap_same (by omega), (World.putObj_heap_other (by omega)).trans hk4,
          (hc2.trans hk3.add).putObj (hD.or fun k => k = w.heap.size + 1) (B0 := w.heap.size) (by omega) (by omega) (fun _ => Or.inr rfl) _, (hc3.trans hk3).putObj hD (by omega) (by omega) (fun h => by omega) _, hb4, Stp.putObj (by omega) hn3' _, by omega, fun e => hn3 (hD _ _ hb4 _ e), fun e => hn3' (hD _ _ hb4 _ e)⟩
      rintro e a3 W3 hp
      cases e with
      | normal =>
        obtain ⟨hk3, hi3⟩ := hp
        obtain ⟨W4, hr, hl4, hk4, hc4, hc5, hb4, ht4, hs4, hn4, hn4'⟩ := fin none W3 hk3
        exact ⟨_, _, hr, hc4, .inl ⟨rfl, hI _ _ _ hi3 ht4 hs4, hc5, hl4, hk4, hn4, hn4'⟩⟩
      | ret =>
        obtain ⟨hk3, hi3⟩ := hp
        obtain ⟨W4, hr, hl4, hk4, hc4, hc5, hb4, ht4, hs4, hn4, hn4'⟩ := fin (some .ret) W3 hk3
        exact ⟨_, _, hr, hc4, .inr ⟨rfl, .ret, hIx _ _ _ _ hi3 hb4 hs4, hc5, hl4, hk4⟩⟩
      | exit id =>
        obtain ⟨hk3, hi3⟩ := hp
        obtain ⟨W4, hr, hl4, hk4, hc4, hc5, hb4, ht4, hs4, hn4, hn4'⟩ := fin (some (.exit id)) W3 hk3
        exact ⟨_, _, hr, hc4, .inr ⟨rfl, .exit id, hIx _ _ _ _ hi3 hb4 hs4, hc5, hl4, hk4⟩⟩
      | goto t =>
        obtain ⟨hk3, hi3⟩ := hp
        obtain ⟨W4, hr, hl4, hk4, hc4, hc5, hb4, ht4, hs4, hn4, hn4'⟩ := fin (some (.goto t)) W3 hk3
        exact ⟨_, _, hr, hc4, .inr ⟨rfl, .goto t, hIx _ _ _ _ hi3 hb4 hs4, hc5, hl4, hk4⟩⟩
      | panic ch => exact hp.elim
      | outgrown => exact hp.elim
    · -- BEHIND THE ITERATOR
      rintro e W2 ⟨⟨v, rfl⟩, hch, (⟨xs, hS, hi, hc, hl, hk, hn, hn'⟩ | ⟨pre, c, hi, hc, hl, hk⟩)⟩
      · have hsz : w.heap.size + 2 ≤ W2.heap.size := by have := hch.size; omega
        exact ⟨none, _, by have := run_endLoop (P := P) hl (by rw [hrec]; simp); rw [hrec] at this; exact this, hdone xs _ hS (hI _ _ _ hi (Stp.putObj (by omega) hn' _) (by omega)) (hc.putObj hD (by omega) (by omega) (fun h => by omega) _) ((World.putObj_heap_other (by omega)).trans hk) (fun e => hn (hD _ _ (hput W2 _) _ e))⟩
      · have hsz : w.heap.size + 2 ≤ W2.heap.size := by have := hch.size; omega
        exact ⟨some c, _, by have := run_endLoop (P := P) hl (by rw [hrec]; simp); rw [hrec] at this; exact this, hstop c pre _ (hIx _ _ _ _ hi (hput W2 _) (by omega)) (hc.putObj hD (by omega) (by omega) (fun h => by omega) _) ((World.putObj_heap_other (by omega)).trans hk)⟩
end Go.Proofs.YtkmmcphiijolkaaGreatDoor
