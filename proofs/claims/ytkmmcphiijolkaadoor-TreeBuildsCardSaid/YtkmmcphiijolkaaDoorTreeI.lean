/-
  The kids of a node, gone over, at this program.
-/
import Derived.Test.YtkmmcphiijolkaaDoorTreeA
import Derived.Test.YtkmmcphiijolkaaDoorTreeR
import Derived.Shelf.RegionOpen
import Derived.WalkKit
import Derived.OwnWalkIn
import Derived.TacticsInMore
import Derived.LoopNIn
import Derived.LoopIn
set_option linter.unusedVariables false
set_option linter.unusedSimpArgs false
namespace Go.Proofs.YtkmmcphiijolkaaDoor
open Go.RowKit Go.Shelf
open Tr
attribute [local go_sem] Oper.semAt_some

theorem depthless {F : Fence} (hd : F.depth = none) (k : Nat) : F.depth.isSome = true → 1 ≤ k := fun h => by rw [hd] at h; cases h
theorem roomAny {F : Fence} (hd : F.depth = none) (k : Nat) : F.room k := fun d h => by rw [hd] at h; cases h
theorem roundAny {F : Fence} (hd : F.depth = none) {m m' : Nat} {P : Program} {l f : Nat} {tmps : Array Value} {assign body : Code} {w : World} {R : Ending → World → Prop} (h : RoundIn F m P l f tmps assign body w R) : RoundIn F m' P l f tmps assign body w R :=
  ⟨h.1, fun c cs _ => h.2 c cs (roomAny hd _)⟩
theorem yieldAny {F : Fence} (hd : F.depth = none) {m : Nat} (m' : Nat) {P : Program} {l : Nat} {args : Array Value} {W : World} {R : Ending → World → Prop} (h : YieldAt F m P l args W R) : YieldAt F m' P l args W R := by
  obtain ⟨fn, tmps, assign, body, hy, hR⟩ := h
  exact ⟨fn, tmps, assign, body, hy, roundAny hd hR⟩

namespace Tr
/-- The kids of node i, from the left. -/
def kidsOf (i : Nat) : List Int → List Nat
  | [] => []
  | k :: r => if 0 ≤ k ∧ k < (i : Int) then k.toNat :: kidsOf i r else kidsOf i r
end Tr
theorem kidsOf_snoc (i : Nat) (k : Int) : ∀ l : List Int, kidsOf i (l ++ [k]) = kidsOf i l ++ (if 0 ≤ k ∧ k < (i : Int) then [k.toNat] else [])
  | [] => by simp only [List.nil_append, kidsOf]
  | x :: l => by
    simp only [List.cons_append, kidsOf, kidsOf_snoc i k l]
    split <;> simp
theorem kidsOf_take (i : Nat) (l : List Int) (j : Nat) (c : Int) (h : l[j]? = some c) : kidsOf i (l.take (j + 1)) = kidsOf i (l.take j) ++ (if 0 ≤ c ∧ c < (i : Int) then [c.toNat] else []) := by
  rw [List.take_add_one, h]
  exact kidsOf_snoc i c _
theorem kidsOf_prefix (i : Nat) : ∀ (l r : List Int), kidsOf i l <+: kidsOf i (l ++ r)
  | [], r => List.nil_prefix
  | x :: l, r => by
    simp only [List.cons_append, kidsOf]
    split
    · exact List.cons_prefix_cons.2 ⟨rfl, kidsOf_prefix i l r⟩
    · exact kidsOf_prefix i l r
theorem kidsOf_pre (i : Nat) (l : List Int) (j : Nat) : kidsOf i (l.take j) <+: kidsOf i l := by
  have := kidsOf_prefix i (l.take j) (l.drop j)
  rwa [List.take_append_drop] at this

set_option maxHeartbeats 4000000 in
theorem ahead_gives (F : Fence) (hd : F.depth = none) (hro : F.round = none) (n : Nat) (hF : F.fn 68) (w0 : World) (v : Value) (ks : List Int) (hv : KRow v ks w0) (hkl : ks.length ≤ maxLen) (i : Nat) (b1 b2 : Nat) (R : World → Nat → Prop) (w : World) (hD : Dyn R w.heap.size)
    (hb0 : Below w0.heap.size w0 w) (hR0 : ∀ A k, R A k → w0.heap.size ≤ k) (hb1 : b1 < w.heap.size) (hb2 : b2 < w.heap.size) (hn2 : ¬ R w b2)
    (h1 : w.cell? ⟨b1, 0, none⟩ = some v) (h2 : w.cell? ⟨b2, 0, none⟩ = some (.int .i64 (i : Int))) :
    GivesR F n Tryd.prog 68 #[.pointer (some ⟨b1, 0, none⟩), .pointer (some ⟨b2, 0, none⟩)] (fun x : Nat => #[.int .i64 (x : Int)]) (fun pre => pre <+: kidsOf i ks) (fun xs => xs = kidsOf i ks) R w := by
  intro l J Jx W hl hlW hW hnl hr1 hJ hJx hY h0
  have hnW2 : ¬ R W b2 := fun e => hn2 (hD _ _ hW _ e)
  obtain ⟨pk, ck, rfl, fk⟩ := hv
  unfold maxLen at hkl
  have FK := Lib.hid fk.1
  obtain ⟨m, hm⟩ : ∃ m, m = ks.length := ⟨_, rfl⟩
  rw [← hm] at h1 hkl
  have HM := Lib.hid hm
  have hw0 := hb0.size
  have hWs := hW.size
  have c1 : W.cell? ⟨b1, 0, none⟩ = some (.slice pk m ck) := (hW.cell (p := ⟨b1, 0, none⟩) hb1).trans h1
  have c2 : W.cell? ⟨b2, 0, none⟩ = some (.int .i64 (i : Int)) := (hW.cell (p := ⟨b2, 0, none⟩) hb2).trans h2
  have hbW : Below w0.heap.size w0 W := hb0.trans (hW.mono hw0)
  clear h1 h2 hm fk
  refine callsIn_of_wp Tryd.func68 rfl hF ?_ hro
  simp only [Tryd.ntmps68, List.size_toArray, List.length_cons, List.length_nil, Nat.reduceAdd, Nat.reduceSub, Array.replicate_succ, Array.replicate_zero, List.push_toArray, List.append_toArray, List.nil_append, List.cons_append]
  gi_wp2
  gi_loopw [8] (fun v8 wr => ∃ (j : Nat), v8 = .int .i64 (j : Int) ∧ j ≤ m ∧ J (kidsOf i (ks.take j)) wr ∧ Chg (fun A k => R A k ∨ k = l) W wr) (fun v8 _ => m - (intOf v8).toNat)
  case atStart => exact ⟨0, rfl, Nat.zero_le _, h0, Chg.refl _ _⟩
  case round =>
    obtain ⟨j, rfl, hj, hJj, hch⟩ := hrel
    have hbr : Below w0.heap.size w0 wr := hbW.trans (hch.below (by omega) (fun k hk h => h.elim (fun h => by have := hR0 _ k h; omega) (fun h => by omega)))
    have d2 : wr.cell? ⟨b2, 0, none⟩ = some (.int .i64 (i : Int)) := (World.cell?_of_block (w := W) (hch.block b2 (by omega) (fun h => h.elim hnW2 (fun h => by omega)))).trans c2
    by_cases hjm : j < m
    · obtain ⟨c, hc⟩ : ∃ c, ks[j]? = some c := ⟨_, List.getElem?_eq_getElem (by rw [← HM.out]; exact hjm)⟩
      obtain ⟨gk, ok, rfl, hgk, ac⟩ := FK.out j c hc
      have bc := (hbr.cell (p := ⟨gk, ok + j, none⟩) hgk).trans ac
      have hks := kidsOf_take i ks j c hc
      have HWS : Hid (W.heap.size ≤ wr.heap.size) := hch.size
      have HC : Hid (c1 = c1) := rfl
      clear ac hc FK c1 c2 hbW HC
      by_cases h0c : 0 ≤ c
      · by_cases hci : c < (i : Int)
        · rw [if_pos ⟨h0c, hci⟩] at hks
          obtain ⟨k, rfl⟩ : ∃ k : Nat, c = (k : Int) := ⟨c.toNat, by omega⟩
          rw [Int.toNat_natCast] at hks
          have hpre : kidsOf i (ks.take j) ++ [k] <+: kidsOf i ks := by rw [← hks]; exact kidsOf_pre i ks _
          obtain ⟨fn, tmps, assign, body, hy, hRd⟩ := hY _ k wr hJj HWS.out hpre
          rw [← hks] at hRd
          clear hY hpre hks hJj
          gi_wp2_with ((try refine ⟨depthless hd _, ?_⟩); refine hRd.mono ?_; clear hRd; rintro e W3 ⟨hc3, (⟨rfl, hJ3⟩ | ⟨rfl, hJx3⟩)⟩)
          · gi_wp2
            go_roundw
            case rel => exact ⟨j + 1, by go_num, by omega, hJ3, hch.trans hc3⟩
            case measure => simp [intOf]; omega
          · gi_wp2
            refine bodyPost_ret (results_none rfl _ _ _) rfl ?_
            exact ⟨⟨_, rfl⟩, hch.trans hc3, .inr ⟨_, hJx3⟩⟩
        · rw [if_neg (by omega), List.append_nil] at hks
          rw [← hks] at hJj
          clear hY hks
          gi_wp2
          refine ⟨fun _ h => (by cases h), ?_⟩
          gi_wp2
          go_roundw
          case rel => exact ⟨j + 1, by go_num, by omega, hJj, hch⟩
          case measure => simp [intOf]; omega
      · rw [if_neg (by omega), List.append_nil] at hks
        rw [← hks] at hJj
        clear hY hks
        gi_wp2
        refine ⟨fun _ h => (by cases h), ?_⟩
        gi_wp2
        go_roundw
        case rel => exact ⟨j + 1, by go_num, by omega, hJj, hch⟩
        case measure => simp [intOf]; omega
    · obtain rfl : j = m := by omega
      clear hY FK
      have hJe : J (kidsOf i ks) wr := by rw [HM.out, List.take_length] at hJj; exact hJj
      clear HM
      gi_wp2
      go_end0
      exact ⟨⟨_, rfl⟩, hch, .inl ⟨_, rfl, hJe⟩⟩
end Go.Proofs.YtkmmcphiijolkaaDoor
