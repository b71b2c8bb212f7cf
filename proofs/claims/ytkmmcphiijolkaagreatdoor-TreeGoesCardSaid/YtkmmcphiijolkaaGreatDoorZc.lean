/-
  Texts of the tree package put behind one another: TreeI, TreeM, TreeF, TreeG, TreeH, TreeS.
-/
import Derived.Test.YtkmmcphiijolkaaGreatDoorZb
import Derived.Shelf.RegionOpen
import Derived.WalkKit
import Derived.OwnWalkIn
import Derived.TacticsInMore
import Derived.LoopNIn
import Derived.LoopIn
import Derived.Maps.OwnIn
import Derived.Maps.OwnSet
import Derived.Laws.EntriesVeiled
set_option linter.unusedVariables false
set_option linter.unusedSimpArgs false
namespace Go.Proofs.YtkmmcphiijolkaaGreatDoor
open Go.RowKit Go.Shelf
open Tr
attribute [local go_sem] Oper.semAt_some

theorem depthless {F : Fence} (hd : F.depth = none) (k : Nat) : F.depth.isSome = true → 1 ≤ k := fun h => by rw [hd] at h; cases h
theorem roomAny {F : Fence} (hd : F.depth = none) (k : Nat) : F.room k := fun d h => by rw [hd] at h; cases h
theorem roundAny {F : Fence} (hd : F.depth = none) {m m' : Nat} {P : Program} {l f : Nat} {tmps : Array Value} {assign body : Code} {w : World} {R : Ending → World → Prop} (h : RoundIn F m P l f tmps assign body w R) : RoundIn F m' P l f tmps assign body w R :=
  ⟨h.1, fun c cs _ => h.2 c cs (roomAny hd _)⟩
theorem yieldAny {F : Fence} (hd : F.depth = none) {m : Nat} (m' : Nat) {P : Program} {l : Nat} {args : Array Value} {W : World} {R : Ending → World → Prop} (h : YieldAt F m P l args W R) : YieldAt F m' P l args W R := by
  obtain ⟨fn, tmps, assign, body, hy, hR⟩ := h
  exact ⟨fn, tmps, assign, body, hy, roundAny hd hR⟩

namespace Tr
/-- The kids of node i, from the left. -/
def kidsOf (i : Nat) : List Int → List Nat
  | [] => []
  | k :: r => if 0 ≤ k ∧ k < (i : Int) then k.toNat :: kidsOf i r else kidsOf i r
end Tr
theorem kidsOf_snoc (i : Nat) (k : Int) : ∀ l : List Int, kidsOf i (l ++ [k]) = kidsOf i l ++ (if 0 ≤ k ∧ k < (i : Int) then [k.toNat] else [])
  | [] => by simp only [List.nil_append, kidsOf]
  | x :: l => by
    simp only [List.cons_append, kidsOf, kidsOf_snoc i k l]
    split <;> simp
theorem kidsOf_take (i : Nat) (l : List Int) (j : Nat) (c : Int) (h : l[j]? = some c) : kidsOf i (l.take (j + 1)) = kidsOf i (l.take j) ++ (if 0 ≤ c ∧ c < (i : Int) then [c.toNat] else []) := by
  rw [List.take_add_one, h]
  exact kidsOf_snoc i c _
theorem kidsOf_prefix (i : Nat) : ∀ (l r : List Int), kidsOf i l <+: kidsOf i (l ++ r)
  | [], r => List.nil_prefix
  | x :: l, r => by
    simp only [List.cons_append, kidsOf]
    split
    · exact List.cons_prefix_cons.2 ⟨rfl, kidsOf_prefix i l r⟩
    · exact kidsOf_prefix i l r
theorem kidsOf_pre (i : Nat) (l : List Int) (j : Nat) : kidsOf i (l.take j) <+: kidsOf i l := by
  have := kidsOf_prefix i (l.take j) (l.drop j)
  rwa [List.take_append_drop] at this

set_option maxHeartbeats 4000000 in
theorem ahead_gives (F : Fence) (hd : F.depth = none) (hro : F.round = none) (n : Nat) (hF : F.fn 87) (w0 : World) (v : Value) (ks : List Int) (hv : KRow v ks w0) (hkl : ks.length ≤ maxLen) (i : Nat) (b1 b2 : Nat) (R : World → Nat → Prop) (w : World) (hD : Dyn R w.heap.size)
    (hb0 : Below w0.heap.size w0 w) (hR0 : ∀ A k, R A k → w0.heap.size ≤ k) (hb1 : b1 < w.heap.size) (hb2 : b2 < w.heap.size) (hn2 : ¬ R w b2)
    (h1 : w.cell? ⟨b1, 0, none⟩ = some v) (h2 : w.cell? ⟨b2, 0, none⟩ = some (.int .i64 (i : Int))) :
    GivesR F n Tryz.prog 87 #[.pointer (some ⟨b1, 0, none⟩), .pointer (some ⟨b2, 0, none⟩)] (fun x : Nat => #[.int .i64 (x : Int)]) (fun pre => pre <+: kidsOf i ks) (fun xs => xs = kidsOf i ks) R w := by
  intro l J Jx W hl hlW hW hnl hr1 hJ hJx hY h0
  have hnW2 : ¬ R W b2 := fun e => hn2 (hD _ _ hW _ e)
  obtain ⟨pk, ck, rfl, fk⟩ := hv
  unfold maxLen at hkl
  have FK := Lib.hid fk.1
  obtain ⟨m, hm⟩ : ∃ m, m = ks.length := ⟨_, rfl⟩
  rw [← hm] at h1 hkl
  have HM := Lib.hid hm
  have hw0 := hb0.size
  have hWs := hW.size
  have c1 : W.cell? ⟨b1, 0, none⟩ = some (.slice pk m ck) := (hW.cell (p := ⟨b1, 0, none⟩) hb1).trans h1
  have c2 : W.cell? ⟨b2, 0, none⟩ = some (.int .i64 (i : Int)) := (hW.cell (p := ⟨b2, 0, none⟩) hb2).trans h2
  have hbW : Below w0.heap.size w0 W := hb0.trans (hW.mono hw0)
  clear h1 h2 hm fk
  refine callsIn_of_wp Tryz.func87 rfl hF ?_ hro
  simp only [Tryz.ntmps87, List.size_toArray, List.length_cons, List.length_nil, Nat.reduceAdd, Nat.reduceSub, Array.replicate_succ, Array.replicate_zero, List.push_toArray, List.append_toArray, List.nil_append, List.cons_append]
  gi_wp2
  gi_loopw [8] (fun v8 wr => ∃ (j : Nat), v8 = .int .i64 (j : Int) ∧ j ≤ m ∧ J (kidsOf i (ks.take j)) wr ∧ Chg (fun A k => R A k ∨ k = l) W wr) (fun v8 _ => m - (intOf v8).toNat)
  case atStart => exact ⟨0, rfl, Nat.zero_le _, h0, Chg.refl _ _⟩
  case round =>
    obtain ⟨j, rfl, hj, hJj, hch⟩ := hrel
    have hbr : Below w0.heap.size w0 wr := hbW.trans (hch.below (by omega) (fun k hk h => h.elim (fun h => by have := hR0 _ k h; omega) (fun h => by omega)))
    have d2 : wr.cell? ⟨b2, 0, none⟩ = some (.int .i64 (i : Int)) := (World.cell?_of_block (w := W) (hch.block b2 (by omega) (fun h => h.elim hnW2 (fun h => by omega)))).trans c2
    by_cases hjm : j < m
    · obtain ⟨c, hc⟩ : ∃ c, ks[j]? = some c := ⟨_, List.getElem?_eq_getElem (by rw [← HM.out]; exact hjm)⟩
      obtain ⟨gk, ok, rfl, hgk, ac⟩ := FK.out j c hc
      have bc := (hbr.cell (p := ⟨gk, ok + j, none⟩) hgk).trans ac
      have hks := kidsOf_take i ks j c hc
      have HWS : Hid (W.heap.size ≤ wr.heap.size) := hch.size
      have HC : Hid (c1 = c1) := rfl
      clear ac hc FK c1 c2 hbW HC
      by_cases h0c : 0 ≤ c
      · by_cases hci : c < (i : Int)
        · rw [if_pos ⟨h0c, hci⟩] at hks
          obtain ⟨k, rfl⟩ : ∃ k : Nat, c = (k : Int) := ⟨c.toNat, by omega⟩
          rw [Int.toNat_natCast] at hks
          have hpre : kidsOf i (ks.take j) ++ [k] <+: kidsOf i ks := by rw [← hks]; exact kidsOf_pre i ks _
          obtain ⟨fn, tmps, assign, body, hy, hRd⟩ := hY _ k wr hJj HWS.out hpre
          rw [← hks] at hRd
          clear hY hpre hks hJj
          gi_wp2_with ((try refine ⟨depthless hd _, ?_⟩); refine hRd.mono ?_; clear hRd; rintro e W3 ⟨hc3, (⟨rfl, hJ3⟩ | ⟨rfl, hJx3⟩)⟩)
          · gi_wp2
            go_roundw
            case rel => exact ⟨j + 1, by go_num, by omega, hJ3, hch.trans hc3⟩
            case measure => simp [intOf]; omega
          · gi_wp2
            refine bodyPost_ret (results_none rfl _ _ _) rfl ?_
            exact ⟨⟨_, rfl⟩, hch.trans hc3, .inr ⟨_, hJx3⟩⟩
        · rw [if_neg (by omega), List.append_nil] at hks
          rw [← hks] at hJj
          clear hY hks
          gi_wp2
          refine ⟨fun _ h => (by cases h), ?_⟩
          gi_wp2
          go_roundw
          case rel => exact ⟨j + 1, by go_num, by omega, hJj, hch⟩
          case measure => simp [intOf]; omega
      · rw [if_neg (by omega), List.append_nil] at hks
        rw [← hks] at hJj
        clear hY hks
        gi_wp2
        refine ⟨fun _ h => (by cases h), ?_⟩
        gi_wp2
        go_roundw
        case rel => exact ⟨j + 1, by go_num, by omega, hJj, hch⟩
        case measure => simp [intOf]; omega
    · obtain rfl : j = m := by omega
      clear hY FK
      have hJe : J (kidsOf i ks) wr := by rw [HM.out, List.take_length] at hJj; exact hJj
      clear HM
      gi_wp2
      go_end0
      exact ⟨⟨_, rfl⟩, hch, .inl ⟨_, rfl, hJe⟩⟩
end Go.Proofs.YtkmmcphiijolkaaGreatDoor

set_option linter.unusedVariables false
set_option linter.unusedSimpArgs false
namespace Go.Proofs.YtkmmcphiijolkaaGreatDoor
open Go.RowKit Go.Shelf

def heldR (v : Value) : Option (DataW Value × List MemPlace) := some (.held v, [])
/-- Block b is a map of numbers, of n entries at most, that holds what f says. -/
def MapI (w : World) (b n : Nat) (f : Int → Option Value) : Prop :=
  ∃ D : DataW Value, w.ownsMap Tryz.prog 3 heldR b n D ∧ Maps.IsMap D ∧ ∀ x, (Lit.int .i64 x).wf = true → Maps.has D (.int .i64 x) = (f x).isSome ∧ ∀ z, D.atKey (.int .i64 x) (.held z) = .held ((f x).getD z)
theorem MapI.lt {w : World} {b n : Nat} {f : Int → Option Value} (h : MapI w b n f) : b < w.heap.size := by obtain ⟨D, h, _⟩ := h; exact h.lt
theorem MapI.alloc {w : World} {b n : Nat} {f : Int → Option Value} (h : MapI w b n f) (o : Obj) : MapI (w.alloc o) b n f := by obtain ⟨D, h, r⟩ := h; exact ⟨D, h.alloc o, r⟩
theorem MapI.drew {w : World} {b n : Nat} {f : Int → Option Value} (h : MapI w b n f) : MapI w.drew b n f := by obtain ⟨D, h, r⟩ := h; exact ⟨D, h.drew, r⟩
theorem MapI.mono {w : World} {b n m : Nat} {f : Int → Option Value} (h : MapI w b n f) (hm : n ≤ m) : MapI w b m f := by obtain ⟨D, h, r⟩ := h; exact ⟨D, h.mono hm, r⟩
theorem MapI.of_block {w w' : World} {b n : Nat} {f : Int → Option Value} (h : MapI w b n f) (hb : w'.heap[b]? = w.heap[b]?) : MapI w' b n f := by
  obtain ⟨D, ⟨es, ck, h1, h2⟩, r⟩ := h
  exact ⟨D, ⟨es, ck, hb.trans h1, h2⟩, r⟩
theorem MapI.below {w w' : World} {b n B : Nat} {f : Int → Option Value} (h : MapI w b n f) (hb : Below B w w') (hB : b < B) : MapI w' b n f := h.of_block (hb.block b hB)
theorem MapI.made (w : World) : MapI (w.alloc (.map #[] 0)) w.heap.size 0 (fun _ => none) :=
  ⟨.map [], World.ownsMap_made w _ _ _, Maps.isMap_empty, fun x _ => ⟨rfl, fun z => rfl⟩⟩
theorem MapI.congr {w : World} {b n : Nat} {f g : Int → Option Value} (h : MapI w b n f) (he : ∀ x, (Lit.int .i64 x).wf = true → f x = g x) : MapI w b n g := by
  obtain ⟨D, h, hm, r⟩ := h
  exact ⟨D, h, hm, fun x hx => by rw [← he x hx]; exact r x hx⟩
theorem key_int (x : Int) (hx : (Lit.int .i64 x).wf = true) : keyOf Tryz.prog 3 (.int .i64 x) = some (.int .i64 x) := Maps.keyOf_int_mk Tryz.underlying3 hx
theorem MapI.put {w : World} {b n : Nat} {f : Int → Option Value} (h : MapI w b n f) (hn : n < 1000000000) (t e : TypeId) (ht : Tryz.prog.underlying t = some (.map 3 e)) (x : Int) (hx : (Lit.int .i64 x).wf = true) (v : Value) :
    ∃ w', (Instr.mapUpdate t (.map (some b)) (.int .i64 x) v).run Tryz.prog w = .ok () w' ∧ MapI w' b (n + 1) (fun y => if y = x then some v else f y) ∧ w.grownBy w' (some b) := by
  obtain ⟨D, h, hm, r⟩ := h
  obtain ⟨w', h1, h2, h3⟩ := h.update (val := v) (d := .held v) (ps := []) (Maps.int_keyed Tryz.underlying3) ht (by unfold maxLen; omega) (key_int x hx) rfl
  refine ⟨w', h1, ⟨_, h2, hm.put _ _, fun y hy => ?_⟩, h3⟩
  by_cases e : y = x
  · subst e
    simp only [if_true, Option.isSome_some, Option.getD_some]
    exact ⟨Maps.has_put_same hm (by trivial) _, fun z => Maps.atKey_put_same hm (by trivial) _ _⟩
  · have hne : (Lit.int .i64 y) ≠ Lit.int .i64 x := fun h => e (by injection h)
    simp only [if_neg e]
    rw [Maps.has_put_other hne]
    exact ⟨(r y hy).1, fun z => (Maps.atKey_put_other hne _ _).trans ((r y hy).2 z)⟩
theorem MapI.get_ok {w : World} {b n : Nat} {f : Int → Option Value} (h : MapI w b n f) (t e : TypeId) (ht : Tryz.prog.underlying t = some (.map 3 e)) {z : Value} (hz : (zeroValue e).run Tryz.prog w = .ok z w) (x : Int) (hx : (Lit.int .i64 x).wf = true) :
    (Instr.lookup t (.map (some b)) (.int .i64 x) true).run Tryz.prog w = .ok (.tuple #[(f x).getD z, .bool (f x).isSome]) w := by
  obtain ⟨D, h, hm, r⟩ := h
  obtain ⟨v, ps, h1, h2⟩ := h.look_ok (zd := .held z) (zp := []) (Maps.int_keyed Tryz.underlying3) ht hz rfl (key_int x hx)
  have h5 : DataW.held v = DataW.held ((f x).getD z) := (congrArg Prod.fst (Option.some.inj h2)).trans ((r x hx).2 z)
  have h5 := DataW.held.inj h5
  rw [h1, (r x hx).1, h5]
theorem MapI.get {w : World} {b n : Nat} {f : Int → Option Value} (h : MapI w b n f) (t e : TypeId) (ht : Tryz.prog.underlying t = some (.map 3 e)) {z : Value} (hz : (zeroValue e).run Tryz.prog w = .ok z w) (x : Int) (hx : (Lit.int .i64 x).wf = true) :
    (Instr.lookup t (.map (some b)) (.int .i64 x) false).run Tryz.prog w = .ok ((f x).getD z) w := by
  obtain ⟨D, h, hm, r⟩ := h
  obtain ⟨v, ps, h1, h2⟩ := h.lookup (zd := .held z) (zp := []) (Maps.int_keyed Tryz.underlying3) ht hz rfl (key_int x hx)
  have h5 : DataW.held v = DataW.held ((f x).getD z) := (congrArg Prod.fst (Option.some.inj h2)).trans ((r x hx).2 z)
  have h5 := DataW.held.inj h5
  rw [h1, h5]
end Go.Proofs.YtkmmcphiijolkaaGreatDoor

set_option linter.unusedVariables false
set_option linter.unusedSimpArgs false
namespace Go.Proofs.YtkmmcphiijolkaaGreatDoor
open Go.RowKit Go.Shelf
open Tr
attribute [local go_sem] Oper.semAt_some

namespace Tr
/-- What is told behind 'pre' when node i is told with what is below it. -/
def goT (t : List NodeD) : Nat → List Nat → Nat → List Nat
  | 0, pre, _ => pre
  | f + 1, pre, i => if i ∈ pre then pre else (kidsOf i (nodeAt t (i : Int)).2.2.2.2).foldl (goT t f) (pre ++ [i])
def belowT (t : List NodeD) (node : Int) : List Nat := if 0 ≤ node ∧ node < (t.length : Int) then goT t t.length [] node.toNat else []
/-- Numbers of nodes, each once. -/
def Few (t : List NodeD) (pre : List Nat) : Prop := pre.Nodup ∧ ∀ y ∈ pre, y < t.length
end Tr
theorem kidsOf_lt (i : Nat) : ∀ (l : List Int), ∀ k ∈ kidsOf i l, k < i
  | [], k, h => by simp [kidsOf] at h
  | x :: l, k, h => by
    simp only [kidsOf] at h
    split at h
    · rcases List.mem_cons.1 h with rfl | h
      · omega
      · exact kidsOf_lt i l k h
    · exact kidsOf_lt i l k h
theorem few_snoc {t : List NodeD} {pre : List Nat} (h : Few t pre) {i : Nat} (hi : i < t.length) (hn : i ∉ pre) : Few t (pre ++ [i]) := by
  refine ⟨List.nodup_append.2 ⟨h.1, by simp, ?_⟩, fun y hy => ?_⟩
  · intro a ha b hb e
    simp at hb
    subst hb; subst e
    exact hn ha
  · rcases List.mem_append.1 hy with h1 | h1
    · exact h.2 y h1
    · simp at h1; omega
theorem goT_few {t : List NodeD} : ∀ (f : Nat) (pre : List Nat) (i : Nat), Few t pre → i < t.length → Few t (goT t f pre i)
  | 0, pre, i, h, hi => h
  | f + 1, pre, i, h, hi => by
    unfold goT
    split
    · exact h
    · rename_i hn
      have h2 := few_snoc h hi hn
      have hk := kidsOf_lt i (nodeAt t (i : Int)).2.2.2.2
      generalize kidsOf i (nodeAt t (i : Int)).2.2.2.2 = ks at hk
      generalize pre ++ [i] = q at h2
      induction ks generalizing q with
      | nil => exact h2
      | cons k ks ih => exact ih (fun x hx => hk x (by simp [hx])) _ (goT_few f q k h2 (by have := hk k (by simp); omega))
theorem nodup_length : ∀ (n : Nat) (l : List Nat), l.Nodup → (∀ y ∈ l, y < n) → l.length ≤ n
  | 0, l, h, hl => by
    cases l with
    | nil => simp
    | cons a r => have := hl a (by simp); omega
  | n + 1, l, h, hl => by
    have h1 := nodup_length n (l.erase n) (h.erase n) (fun y hy => by
      have h2 := hl y (List.mem_of_mem_erase hy)
      have h3 : y ≠ n := ((List.Nodup.mem_erase_iff h).1 hy).1
      omega)
    have := List.length_erase (a := n) (l := l)
    split at this <;> omega
theorem few_length {t : List NodeD} {pre : List Nat} (h : Few t pre) : pre.length ≤ t.length := nodup_length _ _ h.1 h.2

set_option maxHeartbeats 2000000 in
theorem ahead_in (F : Fence) (n : Nat) (hF : F.fn 40) (hro : F.round = none) (v : Value) (i : Int) (w : World) (pk : Option Addr) (m ck : Nat) (hv : v = .slice pk m ck) :
    CallsIn F n Tryz.prog 40 #[v, .int .i64 i] w fun e w' => e = .returned (.func (.func 87) #[] #[.pointer (some ⟨w.heap.size, 0, none⟩), .pointer (some ⟨w.heap.size + 1, 0, none⟩)]) ∧ w' = (w.alloc (.cells #[v] 24)).alloc (.cells #[.int .i64 i] 3) := by
  subst hv
  refine callsIn_of_wp Tryz.func40 rfl hF ?_ hro
  simp only [Tryz.ntmps40, List.size_toArray, List.length_cons, List.length_nil, Nat.reduceAdd, Nat.reduceSub, Array.replicate_succ, Array.replicate_zero, List.push_toArray, List.append_toArray, List.nil_append, List.cons_append]
  gi_wp2
  go_ret
  exact ⟨rfl, rfl⟩
theorem kids_in (F : Fence) (hd : F.depth = none) (n : Nat) (hF : F.fn 45) (hF2 : F.fn 40) (hro : F.round = none) (tv : Value) (t : List NodeD) (w0 w : World) (ha : ArgT tv t w0) (hb0 : Below w0.heap.size w0 w) (i : Nat) (x : NodeD) (hx : t[i]? = some x) (hl : t.length ≤ 1000000) :
    CallsIn F n Tryz.prog 45 #[tv, .int .i64 (i : Int)] w fun e w' => ∃ v, KRow v x.2.2.2.2 w0 ∧ e = .returned (.func (.func 87) #[] #[.pointer (some ⟨w.heap.size, 0, none⟩), .pointer (some ⟨w.heap.size + 1, 0, none⟩)]) ∧ w' = (w.alloc (.cells #[v] 24)).alloc (.cells #[.int .i64 (i : Int)] 3) := by
  obtain ⟨pa, ca, rfl, fa⟩ := ha
  obtain ⟨g, o, vk, rfl, hg, a0, a1, a2, a3, b4, a5⟩ := fa i x hx
  have a4 := (hb0.cell (p := ⟨g, o + i * 5 + 4, none⟩) hg).trans b4
  clear b4 hb0
  have A5 := Lib.hid a5
  obtain ⟨pk, ck, rfl, fk⟩ := a5
  have hi : i < t.length := (List.getElem?_eq_some_iff.1 hx).1
  obtain ⟨m, hm⟩ : ∃ m, m = t.length := ⟨_, rfl⟩
  obtain ⟨q, hq⟩ : ∃ q, q = x.2.2.2.2.length := ⟨_, rfl⟩
  rw [← hm] at hi hl ⊢
  rw [← hq] at a4 A5
  clear fa fk hm hq hx a0 a1 a2 a3
  refine callsIn_of_wp Tryz.func45 rfl hF ?_ hro
  simp only [Tryz.ntmps45, List.size_toArray, List.length_cons, List.length_nil, Nat.reduceAdd, Nat.reduceSub, Array.replicate_succ, Array.replicate_zero, List.push_toArray, List.append_toArray, List.nil_append, List.cons_append]
  gi_wp2_with ((try refine ⟨depthless hd _, ?_⟩); gi_at_call 40; refine (ahead_in F _ hF2 hro _ _ _ _ _ _ rfl).mono ?_; rintro e w' ⟨rfl, rfl⟩)
  go_ret
  exact ⟨_, A5.out, rfl, rfl⟩
end Go.Proofs.YtkmmcphiijolkaaGreatDoor

set_option linter.unusedVariables false
set_option linter.unusedSimpArgs false
namespace Go.Proofs.YtkmmcphiijolkaaGreatDoor
open Go.RowKit Go.Shelf
open Tr
attribute [local go_sem] Oper.semAt_some

/-- Where the function's variables lie: R, what rounds may turn; B0, C0, where what is its own begins, and ends. -/
structure TellAt (w0 : World) (R : World → Nat → Prop) (l bT bY bTr bF bM B0 C0 : Nat) : Prop where
  r : ∀ A k, R A k → w0.heap.size ≤ k
  d : Dyn R B0
  l1 : w0.heap.size ≤ l
  l2 : l < B0
  tr : bTr < B0 ∧ bTr ≠ l
  t : B0 ≤ bT ∧ bT < C0 ∧ bT ≠ bM
  y : B0 ≤ bY ∧ bY < C0 ∧ bY ≠ bM
  f : B0 ≤ bF ∧ bF < C0 ∧ bF ≠ bM
  m : B0 ≤ bM ∧ bM < C0
  c : B0 ≤ C0
/-- What the function finds: its variables, and what has been told. -/
structure TellSt (R : World → Nat → Prop) (w0 : World) (t : List NodeD) (tv : Value) (l bT bY bTr bF bM : Nat) (pre : List Nat) (W : World) : Prop where
  c1 : W.cell? ⟨bT, 0, none⟩ = some (.map (some bM))
  c2 : W.cell? ⟨bY, 0, none⟩ = some (.func (.yield l) #[] #[])
  c3 : W.cell? ⟨bTr, 0, none⟩ = some tv
  c4 : W.cell? ⟨bF, 0, none⟩ = some (.func (.func 90) #[] #[.pointer (some ⟨bT, 0, none⟩), .pointer (some ⟨bY, 0, none⟩), .pointer (some ⟨bTr, 0, none⟩), .pointer (some ⟨bF, 0, none⟩)])
  m : MapI W bM pre.length (fun x => if 0 ≤ x ∧ x.toNat ∈ pre then some (.bool true) else none)
  b : Below w0.heap.size w0 W
  few : Few t pre
  n1 : ¬ R W bT
  n2 : ¬ R W bY
  n3 : ¬ R W bTr
  n4 : ¬ R W bF
  n5 : ¬ R W bM
theorem TellSt.chg {w0 : World} {R : World → Nat → Prop} {B0 C0 : Nat} {t : List NodeD} {tv : Value} {l bT bY bTr bF bM : Nat} {pre : List Nat} {A B : World} (h : TellSt R w0 t tv l bT bY bTr bF bM pre A) (ha : TellAt w0 R l bT bY bTr bF bM B0 C0) (hA : C0 ≤ A.heap.size) (hc : Chg (fun A k => R A k ∨ k = l) A B) : TellSt R w0 t tv l bT bY bTr bF bM pre B := by
  have h0 := ha.c
  have hl2 := ha.l2
  have hw0 : w0.heap.size ≤ A.heap.size := by have := ha.l1; omega
  have k1 := hc.both bT (by have := ha.t; omega) (fun e => e.elim h.n1 (fun e => by have := ha.t; omega))
  have k2 := hc.both bY (by have := ha.y; omega) (fun e => e.elim h.n2 (fun e => by have := ha.y; omega))
  have k3 := hc.both bTr (by have := ha.tr; omega) (fun e => e.elim h.n3 (fun e => by have := ha.tr; omega))
  have k4 := hc.both bF (by have := ha.f; omega) (fun e => e.elim h.n4 (fun e => by have := ha.f; omega))
  have k5 := hc.both bM (by have := ha.m; omega) (fun e => e.elim h.n5 (fun e => by have := ha.m; omega))
  exact ⟨(World.cell?_of_block (w := A) k1.1).trans h.c1, (World.cell?_of_block (w := A) k2.1).trans h.c2, (World.cell?_of_block (w := A) k3.1).trans h.c3, (World.cell?_of_block (w := A) k4.1).trans h.c4, h.m.of_block k5.1,
    h.b.trans (hc.below hw0 (fun i hi e => e.elim (fun e => by have := ha.r _ i e; omega) (fun e => by have := ha.l1; omega))), h.few, fun e => k1.2 (Or.inl e), fun e => k2.2 (Or.inl e), fun e => k3.2 (Or.inl e), fun e => k4.2 (Or.inl e), fun e => k5.2 (Or.inl e)⟩
theorem TellSt.below {w0 : World} {R : World → Nat → Prop} {B0 C0 : Nat} {t : List NodeD} {tv : Value} {l bT bY bTr bF bM : Nat} {pre : List Nat} {A B : World} (h : TellSt R w0 t tv l bT bY bTr bF bM pre A) (ha : TellAt w0 R l bT bY bTr bF bM B0 C0) (hb : Below C0 A B) : TellSt R w0 t tv l bT bY bTr bF bM pre B := by
  have h0 := ha.c
  have hw0 : w0.heap.size ≤ C0 := by have := ha.l1; have := ha.l2; omega
  have hd := fun k => ha.d A B (hb.mono h0) k
  exact ⟨(World.cell?_of_block (w := A) (hb.block _ ha.t.2.1)).trans h.c1, (World.cell?_of_block (w := A) (hb.block _ ha.y.2.1)).trans h.c2, (World.cell?_of_block (w := A) (hb.block _ (Nat.lt_of_lt_of_le ha.tr.1 h0))).trans h.c3, (World.cell?_of_block (w := A) (hb.block _ ha.f.2.1)).trans h.c4, h.m.of_block (hb.block _ ha.m.2),
    h.b.trans (hb.mono hw0), h.few, fun e => h.n1 (hd _ e), fun e => h.n2 (hd _ e), fun e => h.n3 (hd _ e), fun e => h.n4 (hd _ e), fun e => h.n5 (hd _ e)⟩

theorem zero_bool (w : World) : (zeroValue 4).run Tryz.prog w = .ok (.bool false) w := Tryz.zeroValue4 w
theorem wf_node {i n : Nat} (h : i < n) (hn : n ≤ 1000000) : (Lit.int .i64 (i : Int)).wf = true := by
  have h1 := wrap64_wf (i : Int)
  rwa [show wrap64 (i : Int) = (i : Int) by unfold wrap64; omega] at h1
theorem TellSt.told {R : World → Nat → Prop} {w0 : World} {t : List NodeD} {tv : Value} {l bT bY bTr bF bM : Nat} {pre : List Nat} {W : World} (h : TellSt R w0 t tv l bT bY bTr bF bM pre W) {i : Nat} (hi : i < t.length) (hl : t.length ≤ 1000000) :
    (Instr.lookup 105 (.map (some bM)) (.int .i64 (i : Int)) false).run Tryz.prog W = .ok (.bool (decide (i ∈ pre))) W := by
  have := h.m.get 105 4 Tryz.underlying105 (zero_bool W) (i : Int) (wf_node hi hl)
  rw [this]
  by_cases hp : i ∈ pre <;> simp [hp]
theorem TellSt.tell {w0 : World} {R : World → Nat → Prop} {B0 C0 : Nat} {t : List NodeD} {tv : Value} {l bT bY bTr bF bM : Nat} {pre : List Nat} {W : World} (h : TellSt R w0 t tv l bT bY bTr bF bM pre W) (ha : TellAt w0 R l bT bY bTr bF bM B0 C0) {i : Nat} (hi : i < t.length) (hl : t.length ≤ 1000000) (hn : i ∉ pre) :
    ∃ W2, (Instr.mapUpdate 105 (.map (some bM)) (.int .i64 (i : Int)) (.bool true)).run Tryz.prog W = .ok () W2 ∧ TellSt R w0 t tv l bT bY bTr bF bM (pre ++ [i]) W2 ∧ W.grownBy W2 (some bM) := by
  have hlen := few_length h.few
  obtain ⟨W2, h1, h2, h3⟩ := h.m.put (by omega) 105 4 Tryz.underlying105 (i : Int) (wf_node hi hl) (.bool true)
  have hw0 : ∀ b, b < W.heap.size → b ≠ bM → W2.heap[b]? = W.heap[b]? := fun b hb hne => h3.block b hb (by simpa using hne)
  have hlt : ∀ {b : Nat} {v : Value}, W.cell? ⟨b, 0, none⟩ = some v → b < W.heap.size := fun {b} {v} hc => by
    unfold World.cell? at hc
    rcases Nat.lt_or_ge b W.heap.size with h | h
    · exact h
    · rw [Array.getElem?_eq_none h] at hc; simp at hc
  have hbM := h.m.lt
  have hb2 : Below B0 W W2 := (Below.refl B0 W).grown h3 (by have := ha.m; omega) (fun k e => by cases e; exact ha.m.1)
  have hdy := fun k => ha.d W W2 hb2 k
  refine ⟨W2, h1, ⟨(World.cell?_of_block (w := W) (hw0 _ (hlt h.c1) ha.t.2.2)).trans h.c1, (World.cell?_of_block (w := W) (hw0 _ (hlt h.c2) ha.y.2.2)).trans h.c2, (World.cell?_of_block (w := W) (hw0 _ (hlt h.c3) (Nat.ne_of_lt (Nat.lt_of_lt_of_le ha.tr.1 ha.m.1)))).trans h.c3, (World.cell?_of_block (w := W) (hw0 _ (hlt h.c4) ha.f.2.2)).trans h.c4, ?_, ?_, few_snoc h.few hi hn, fun e => h.n1 (hdy _ e), fun e => h.n2 (hdy _ e), fun e => h.n3 (hdy _ e), fun e => h.n4 (hdy _ e), fun e => h.n5 (hdy _ e)⟩, h3⟩
  · have := h2.congr (g := fun x => if 0 ≤ x ∧ x.toNat ∈ pre ++ [i] then some (.bool true) else none) (fun x _ => by
      by_cases e : x = (i : Int)
      · subst e; simp
      · simp only [if_neg e]
        by_cases h0 : 0 ≤ x
        · have : (x.toNat ∈ pre ++ [i]) ↔ x.toNat ∈ pre := by
            rw [List.mem_append]
            simp
            intro e2; exact absurd (by omega) e
          simp only [this]
        · simp [h0])
    rw [List.length_append]
    exact this
  · have hb := h.b.size
    exact h.b.grown h3 hb (fun k e => by cases e; have := ha.l1; have := ha.l2; have := ha.m; omega)

theorem results_bool {fn : Func} {p : Tmp} (h : fn.results = #[.cell p 4]) (tmps : Array Value) (w : World) (H : Nat) (b : Bool) (hp : tmps.getD p undef = .pointer (some ⟨H, 0, none⟩)) (hc : w.cell? ⟨H, 0, none⟩ = some (.bool b)) :
    (results fn tmps).run Tryz.prog w = .ok (.bool b) w := by
  have hp' : tmps[p]?.getD undef = .pointer (some ⟨H, 0, none⟩) := by simpa using hp
  simp [results, h, hp', asAddr, go_sem, hc]

set_option maxHeartbeats 16000000 in
set_option maxRecDepth 100000 in
theorem tell_any (F : Fence) (hd : F.depth = none) (hro : F.round = none) (hf90 : F.fn 90) (hf45 : F.fn 45) (hf40 : F.fn 40) (hf87 : F.fn 87)
    (w0 : World) (tv : Value) (t : List NodeD) (ha : ArgT tv t w0) (hl : t.length ≤ 1000000) (hks : ∀ x ∈ t, x.2.2.2.2.length ≤ maxLen) (R : World → Nat → Prop) (l bT bY bTr bF bM B0 C0 : Nat) (hat : TellAt w0 R l bT bY bTr bF bM B0 C0)
    (J Jx : List Nat → World → Prop) (hr1 : ∀ pre A, J pre A → B0 ≤ A.heap.size → ∀ k, R A k → k < A.heap.size) (hJ : ∀ pre A B, J pre A → Stp R B0 A B → B0 ≤ A.heap.size → J pre B) (hJx : ∀ pre A B, Jx pre A → Below B0 A B → B0 ≤ A.heap.size → Jx pre B)
    (hY : ∀ (m : Nat) (pre : List Nat) (x : Nat) (A : World), J pre A → B0 ≤ A.heap.size → Few t (pre ++ [x]) → YieldAt F m Tryz.prog l #[.int .i64 (x : Int)] A fun e B => Chg (fun A k => R A k ∨ k = l) A B ∧ ((e = .returned (.bool true) ∧ J (pre ++ [x]) B) ∨ (e = .returned (.bool false) ∧ Jx (pre ++ [x]) B))) :
    ∀ (f i : Nat) (pre : List Nat) (W : World) (n : Nat), i < f → i < t.length → C0 ≤ W.heap.size → TellSt R w0 t tv l bT bY bTr bF bM pre W → J pre W →
      CallsIn F n Tryz.prog 90 #[.int .i64 (i : Int), .pointer (some ⟨bT, 0, none⟩), .pointer (some ⟨bY, 0, none⟩), .pointer (some ⟨bTr, 0, none⟩), .pointer (some ⟨bF, 0, none⟩)] W fun e B =>
        Chg (fun A k => R A k ∨ k = l ∨ k = bM) W B ∧ ((e = .returned (.bool true) ∧ J (goT t f pre i) B ∧ TellSt R w0 t tv l bT bY bTr bF bM (goT t f pre i) B) ∨ (e = .returned (.bool false) ∧ ∃ q, Jx q B)) := by
  intro f
  induction f with
  | zero => intro i pre W n h; omega
  | succ f ih =>
    intro i pre W n hif hit hCW hst hj
    obtain ⟨W1, hW1⟩ : ∃ W1, W1 = W.alloc (.cells #[.bool false] 4) := ⟨_, rfl⟩
    have hbel1 : Below W.heap.size W W1 := by rw [hW1]; exact (Below.refl _ _).alloc (Nat.le_refl _) _
    have hcell1 : W1.cell? ⟨W.heap.size, 0, none⟩ = some (.bool false) := by rw [hW1]; simp
    have hfr1 : W1.frozen? ⟨W.heap.size, 0, none⟩ = false := by rw [hW1]; simp
    have hsz1 : W1.heap.size = W.heap.size + 1 := by rw [hW1]; simp
    have hst1 := hst.below hat (hbel1.mono hCW)
    have hBC := hat.c
    have hDl := hat.d.or (fun k => k = l)
    have hDm := hat.d.or (fun k => k = l ∨ k = bM)
    have hDH := hat.d.or (fun k => k = l ∨ k = bM ∨ k = W.heap.size)
    have hj1 : J pre W1 := hJ _ _ _ hj (Stp.all hbel1 (by omega)) (by omega)
    have k1 := hst1.c1
    have hlk := hst1.told hit hl
    have HW1 := Lib.hid hW1
    by_cases hmem : i ∈ pre
    · rw [show decide (i ∈ pre) = true by simp [hmem]] at hlk
      have hg : goT t (f + 1) pre i = pre := by unfold goT; rw [if_pos hmem]
      rw [hg]
      have HST := Lib.hid hst
      have HX : Hid (∀ B : World, Below W.heap.size W B → J pre B ∧ TellSt R w0 t tv l bT bY bTr bF bM pre B ∧ Chg (fun A k => R A k ∨ k = l ∨ k = bM) W B) := fun B hb => ⟨hJ _ _ _ hj (Stp.all hb (by omega)) (by omega), hst.below hat (hb.mono hCW), (Chg.refl _ W).of_below hDm hb (Nat.le_refl _) (by omega)⟩
      rw [hW1] at hlk k1
      clear hg hst hJ hJx hY ih hst1 hj hj1 hW1 hmem hat hDl hDm hDH hr1 hcell1 hfr1 hsz1 hbel1
      refine callsIn_of_wp Tryz.func90 rfl hf90 ?_ hro
      simp only [Tryz.ntmps90, List.size_toArray, List.length_cons, List.length_nil, Nat.reduceAdd, Nat.reduceSub, Array.replicate_succ, Array.replicate_zero, List.push_toArray, List.append_toArray, List.nil_append, List.cons_append]
      gi_wp2
      refine bodyPost_ret (results_bool rfl _ _ _ true rfl (by simp)) rfl ?_
      obtain ⟨q1, q2, q3⟩ := HX.out _ ((Below.refl _ W).alloc (Nat.le_refl _) (.cells #[.bool true] 4))
      exact ⟨q3, .inl ⟨rfl, q1, q2⟩⟩
    · rw [show decide (i ∈ pre) = false by simp [hmem]] at hlk
      obtain ⟨W2, hup, hst2, hg2⟩ := hst1.tell hat hit hl hmem
      have hbM : C0 ≤ W1.heap.size := by omega
      have hW12 : Below W.heap.size W1 W2 ∨ True := Or.inr trivial
      have hc2 : Chg (fun A k => R A k ∨ k = l ∨ k = bM) W W2 := ((Chg.refl _ W).of_below hDm hbel1 (Nat.le_refl _) (by omega)).grown hDm hat.m.1 (by omega) hg2 (fun _ => Or.inr (Or.inr rfl))
      have hsz2 : W.heap.size + 1 ≤ W2.heap.size := by have := hg2.size; omega
      have hHM : W.heap.size ≠ bM := by have := hat.m; omega
      have hcell2 : W2.cell? ⟨W.heap.size, 0, none⟩ = some (.bool false) := (World.cell?_of_block (w := W1) (hg2.block W.heap.size (by omega) (by simpa using hHM))).trans hcell1
      have hfr2 : W2.frozen? ⟨W.heap.size, 0, none⟩ = false := (World.frozen?_of_block (w := W1) (hg2.block W.heap.size (by omega) (by simpa using hHM))).trans hfr1
      have hb12 : Below B0 W1 W2 := (Below.refl B0 W1).grown hg2 (by omega) (fun k e => by cases e; exact hat.m.1)
      have hj2 : J pre W2 := hJ _ _ _ hj1 (Stp.grown hat.m.1 (by omega) hg2 hst1.n5) (by omega)
      obtain ⟨fn, tmps, assign, body, hy, hRd⟩ := hY (n - 1) pre i W2 hj2 (by omega) hst2.few
      have hy1 := hst2.c2
      have hk1 := hst1.c1
      rw [hW1] at hlk k1 hup hk1
      have HH : Hid (W.heap.size + 1 ≤ W2.heap.size) := hsz2
      have HST2 := Lib.hid hst2
      have hlH : W.heap.size ≠ l := by have := hat.l2; omega
      have hnH : ¬ (R W2 W.heap.size ∨ W.heap.size = l) := fun e => e.elim (fun e => by
        have := hr1 _ _ hj (by omega) _ (hat.d _ _ (hbel1.mono (by omega)) _ (hat.d _ _ hb12 _ e))
        omega) hlH
      have HN : Hid (∀ B, Chg (fun A k => R A k ∨ k = l) W2 B → B.cell? ⟨W.heap.size, 0, none⟩ = some (.bool false) ∧ B.frozen? ⟨W.heap.size, 0, none⟩ = false ∧ B.cell? ⟨bTr, 0, none⟩ = some tv ∧ W.heap.size + 1 ≤ B.heap.size ∧ ¬ R B W.heap.size) := fun B hB =>
        have h1 := hB.both W.heap.size (by omega) hnH
        ⟨(World.cell?_of_block (w := W2) h1.1).trans hcell2, (World.frozen?_of_block (w := W2) h1.1).trans hfr2, (hst2.chg hat (by omega) hB).c3, Nat.le_trans hsz2 hB.size, fun e => h1.2 (Or.inl e)⟩
      clear hst hj hst1 hj1 hj2 hW1 hb12 hcell1 hfr1 hsz1 hbel1 hW12 hg2 hst2
      refine callsIn_of_wp_marks Tryz.func90 rfl hf90 ?_ hro
      simp only [Tryz.ntmps90, List.size_toArray, List.length_cons, List.length_nil, Nat.reduceAdd, Nat.reduceSub, Array.replicate_succ, Array.replicate_zero, List.push_toArray, List.append_toArray, List.nil_append, List.cons_append]
      gi_wp2_with ((try refine ⟨depthless hd _, ?_⟩); refine hRd.mono ?_; clear hRd; rintro e W3 ⟨hc3, (⟨rfl, hJ3⟩ | ⟨rfl, hJx3⟩)⟩ <;> obtain ⟨e1, e2, e3, e4, e5⟩ := HN.out W3 hc3)
      · -- the round went on
        have hst3 := HST2.out.chg hat (by omega) hc3
        have hc3' : Chg (fun A k => R A k ∨ k = l ∨ k = bM) W W3 := hc2.then hc3 (fun k _ e => Or.inl e)
        obtain ⟨x, hx⟩ : ∃ x, t[i]? = some x := ⟨_, List.getElem?_eq_getElem hit⟩
        have hxl := hks x (List.mem_of_getElem? hx)
        have hna : nodeAt t (i : Int) = x := by unfold nodeAt; rw [Int.toNat_natCast, hx]; rfl
        have hgo : Hid (goT t (f + 1) pre i = (kidsOf i x.2.2.2.2).foldl (goT t f) (pre ++ [i])) := by
          show goT t (f + 1) pre i = _
          rw [goT, if_neg hmem, hna]
        clear hna hcell2 hfr2 HN hlk k1 hup hk1 hy hy1 hc2 hc3 hmem
        refine (kids_in F hd _ hf45 hf40 hro tv t w0 W3 ha hst3.b i x hx hl).mono ?_
        rintro e W4 ⟨v, hkv, rfl, hW4⟩
        have hb34 : Below W3.heap.size W3 W4 := by rw [hW4]; exact ((Below.refl _ _).alloc (Nat.le_refl _) _).alloc (by simp) _
        have hs4 : W4.heap.size = W3.heap.size + 2 := by rw [hW4]; simp
        have hq1 : W4.cell? ⟨W3.heap.size, 0, none⟩ = some v := by rw [hW4, World.cell?_alloc_past _ _ _ (by simp), World.cell?_alloc_at _ _ _ _ rfl]; rfl
        have hq2 : W4.cell? ⟨W3.heap.size + 1, 0, none⟩ = some (.int .i64 (i : Int)) := by
          rw [hW4]
          rw [World.cell?_alloc_at _ _ _ _ (by simp)]; rfl
        clear hW4
        gi_wp2
        have hD0 : C0 ≤ W4.heap.size := by omega
        have hst4 := hst3.below hat (hb34.mono (by omega))
        have hj4 : J (pre ++ [i]) W4 := hJ _ _ _ hJ3 (Stp.all hb34 (by omega)) (by omega)
        have hc4 : Chg (fun A k => R A k ∨ k = l ∨ k = bM) W W4 := hc3'.of_below hDm hb34 (by omega) (by omega)
        have hr1' : W4.cell? ⟨W.heap.size, 0, none⟩ = some (.bool false) := (hb34.cell (p := ⟨W.heap.size, 0, none⟩) (by show W.heap.size < _; omega)).trans e1
        have hr2 : W4.frozen? ⟨W.heap.size, 0, none⟩ = false := (hb34.frozen (p := ⟨W.heap.size, 0, none⟩) (by show W.heap.size < _; omega)).trans e2
        have hHW : W.heap.size < W4.heap.size := by omega
        have hRR : ∀ A k, (R A k ∨ k = l ∨ k = bM ∨ k = W.heap.size) → w0.heap.size ≤ k := fun A k e => by
          have h2 := hat.l2
          have h1 := hat.l1
          have h3 := hat.m
          rcases e with e | e | e | e
          · exact hat.r _ k e
          · omega
          · omega
          · omega
        have hbm := hat.m
        have hl2' := hat.l2
        have hR4 : ∀ k, W3.heap.size ≤ k → ¬ R W4 k := fun k hk e => by have := hr1 _ _ hJ3 (by omega) k (hat.d _ _ (hb34.mono (by omega)) _ e); omega
        have hr5 : ¬ R W4 W.heap.size := fun e => e5 (hat.d _ _ (hb34.mono (by omega)) _ e)
        have hRH : ∀ k, k < W.heap.size → (k = l ∨ k = bM ∨ k = W.heap.size) → (k = l ∨ k = bM) := fun k hk e => by
          rcases e with e | e | e
          · exact Or.inl e
          · exact Or.inr e
          · omega
        have hput : ∀ (A : World) (D : Nat) (o : Obj), C0 ≤ D → Below C0 A (A.putObj D o) := fun A D o hD => ⟨rfl, rfl, rfl, by rw [World.putObj_size]; exact Nat.le_refl _, fun k hk => World.putObj_heap_other (by omega)⟩
        refine wpIn_rangeFunc_R hro (depthless hd _) (gf := 87) (lb := #[.pointer (some ⟨W3.heap.size, 0, none⟩), .pointer (some ⟨W3.heap.size + 1, 0, none⟩)]) rfl hf87 (enters_of Tryz.func87 (by kernel_rfl) rfl)
          (enc := fun x : Nat => #[.int .i64 (x : Int)]) (S := fun q => q <+: kidsOf i x.2.2.2.2) (Sd := fun q => q = kidsOf i x.2.2.2.2) (R := fun A k => R A k ∨ k = l ∨ k = bM ∨ k = W.heap.size) (hDH.mono (by omega))
          (ahead_gives F hd hro (n - 1) hf87 w0 v x.2.2.2.2 hkv hxl i W3.heap.size (W3.heap.size + 1) _ W4 (hDH.mono (by omega)) hst4.b hRR (by omega) (by omega) (fun e => e.elim (hR4 _ (by omega)) (fun e => by omega)) hq1 hq2)
          (fun _ => rfl)
          (fun q A => J (q.foldl (goT t f) (pre ++ [i])) A ∧ TellSt R w0 t tv l bT bY bTr bF bM (q.foldl (goT t f) (pre ++ [i])) A ∧ A.cell? ⟨W.heap.size, 0, none⟩ = some (.bool false) ∧ A.frozen? ⟨W.heap.size, 0, none⟩ = false ∧ ¬ R A W.heap.size)
          (fun c q A => c = .ret ∧ (∃ q, Jx q A) ∧ A.cell? ⟨W.heap.size, 0, none⟩ = some (.bool false))
          (fun q A ⟨u1, _⟩ hs k e => by
            rcases e with e | e | e | e
            · exact hr1 _ _ u1 (by omega) k e
            · omega
            · omega
            · omega)
          (fun q A B ⟨u1, u2, u3, u4, u5⟩ hST hs => have hB := hST.b
            ⟨hJ _ _ _ u1 (hST.less (by omega) (fun _ e => Or.inl e)) (by omega), u2.below hat (hB.mono hD0), (hB.cell (p := ⟨W.heap.size, 0, none⟩) hHW).trans u3, (hB.frozen (p := ⟨W.heap.size, 0, none⟩) hHW).trans u4, fun e => u5 (hat.d _ _ (hB.mono (by omega)) _ e)⟩)
          (fun c q A B ⟨u1, ⟨q2, u2⟩, u3⟩ hB hs => ⟨u1, ⟨q2, hJx _ _ _ u2 (hB.mono (by omega)) (by omega)⟩, (hB.cell (p := ⟨W.heap.size, 0, none⟩) hHW).trans u3⟩)
          ⟨hj4, hst4, hr1', hr2, hr5⟩
          (fun x => { tmps := #[.int .i64 (i : Int), .pointer (some ⟨bT, 0, none⟩), .pointer (some ⟨bY, 0, none⟩), .pointer (some ⟨bTr, 0, none⟩), .pointer (some ⟨bF, 0, none⟩), undef, .pointer (some ⟨W.heap.size, 0, none⟩), .int .i64 (x : Int), .map (some bM), .int .i64 (i : Int), .bool false, .map (some bM), .int .i64 (i : Int), .func (.yield l) #[] #[], .int .i64 (i : Int), .bool true, .bool false, tv, .int .i64 (i : Int), .func (.func 87) #[] #[.pointer (some ⟨W3.heap.size, 0, none⟩), .pointer (some ⟨W3.heap.size + 1, 0, none⟩)], .int .i64 (x : Int), undef, undef, undef, undef], defers := [] })
          ?assign ?body ?done ?stop
        case assign =>
          intro l x W K hK
          gi_wp2
          exact hK
        case body =>
          rintro l2 q k A ⟨u1, u2, u3, u4, u5⟩ hpre hsz
          have hkl : k < i := kidsOf_lt i x.2.2.2.2 k (hpre.subset (by simp))
          have hcall := (CallsIn.inRound l2 (ih k _ A (n - 1 - 1 - 1) (by omega) (by omega) (by omega) u2 u1)).mono (R' := fun e B => Chg (fun A k => R A k ∨ k = l ∨ k = bM) A B ∧ B.cell? ⟨W.heap.size, 0, none⟩ = some (.bool false) ∧ B.frozen? ⟨W.heap.size, 0, none⟩ = false ∧ ¬ R B W.heap.size ∧ ((e = .returned (.bool true) ∧ J ((q ++ [k]).foldl (goT t f) (pre ++ [i])) B ∧ TellSt R w0 t tv l bT bY bTr bF bM ((q ++ [k]).foldl (goT t f) (pre ++ [i])) B) ∨ (e = .returned (.bool false) ∧ ∃ q, Jx q B)))
            (fun e B ⟨hcB, hor⟩ => by
              have h1 := hcB.both W.heap.size (by omega) (fun e => e.elim u5 (fun e => by omega))
              exact ⟨hcB, (World.cell?_of_block (w := A) h1.1).trans u3, (World.frozen?_of_block (w := A) h1.1).trans u4, fun e => h1.2 (Or.inl e), by rw [List.foldl_append]; exact hor⟩)
          have d4 := u2.c4
          have HX : Hid (∀ B, Chg (fun A k => R A k ∨ k = l ∨ k = bM) A B → Chg (fun A k => R A k ∨ k = l ∨ k = bM ∨ k = W.heap.size) A B ∧ Chg (fun A k => R A k ∨ k = l ∨ k = bM ∨ k = W.heap.size) A (B.setCell ⟨W.heap.size, 0, none⟩ (.bool false)) ∧ ∀ q, Jx q B → Jx q (B.setCell ⟨W.heap.size, 0, none⟩ (.bool false))) := fun B hB =>
            have h1 : Chg (fun A k => R A k ∨ k = l ∨ k = bM ∨ k = W.heap.size) A B := hB.more (fun k _ e => by rcases e with e | e; exact Or.inl e; exact Or.inr (Or.inl e))
            ⟨h1, h1.setCell hDH (p := ⟨W.heap.size, 0, none⟩) (by show B0 ≤ W.heap.size; omega) (by have := hB.size; omega) (fun _ => Or.inr (Or.inr (Or.inr rfl))) _, fun q hq => hJx _ _ _ hq ((Below.refl B0 B).setCell (p := ⟨W.heap.size, 0, none⟩) (by show B0 ≤ W.heap.size; omega) _) (by have := hB.size; omega)⟩
          clear u1 u2 u3 u4 u5 hpre hsz hq1 hq2 hj4 hst4 hc4 hr1 hr1' hr2 hr5 hR4 hRH hRR hat hDl hDm hDH hb34 hJ hJx hY ih hst3 hJ3 hc3' hx hxl hkv e1 e2 e3 e5
          gi_wp2_with ((try refine ⟨depthless (F := F.inRound l2) hd _, ?_⟩); gi_at_call 90; refine hcall.mono ?_; clear hcall; rintro e B ⟨hcB, p1, p2, p0, (⟨rfl, p3, p4⟩ | ⟨rfl, ⟨q2, p5⟩⟩)⟩)
          · exact ⟨(HX.out B hcB).1, p3, p4, p1, p2, p0⟩
          · exact ⟨(HX.out B hcB).2.1, rfl, ⟨q2, (HX.out B hcB).2.2 _ p5⟩, World.cell?_setCell_same' _ _ _ (by rw [p1]; rfl)⟩
        case done =>
          rintro q A rfl ⟨u1, u2, u3, u4, u5⟩ hcA hK hnD
          have hA := hcA.size
          have hcW := hc4.then hcA hRH
          have HY : Hid (∀ B, B = (A.setCell ⟨W.heap.size, 0, none⟩ (.bool true)).putObj W4.heap.size (.deferred none) → Chg (fun A k => R A k ∨ k = l ∨ k = bM) W B ∧ J (goT t (f + 1) pre i) B ∧ TellSt R w0 t tv l bT bY bTr bF bM (goT t (f + 1) pre i) B ∧ B.cell? ⟨W.heap.size, 0, none⟩ = some (.bool true)) := fun B hB => by
            subst hB
            have hsz : (A.setCell ⟨W.heap.size, 0, none⟩ (.bool true)).heap.size = A.heap.size := by simp [World.setCell]
            have hb1 : Below C0 A (A.setCell ⟨W.heap.size, 0, none⟩ (.bool true)) := (Below.refl C0 A).setCell (p := ⟨W.heap.size, 0, none⟩) (by show C0 ≤ W.heap.size; omega) _
            have hb2 := hb1.trans (hput (A.setCell ⟨W.heap.size, 0, none⟩ (.bool true)) W4.heap.size (.deferred none) (by omega))
            rw [hgo.out]
            refine ⟨(hcW.setCell hDm (p := ⟨W.heap.size, 0, none⟩) (by show B0 ≤ W.heap.size; omega) (by omega) (fun h => absurd h (Nat.lt_irrefl _)) _).putObj hDm (l := W4.heap.size) (by omega) (by rw [hsz]; omega) (fun h => by omega) _, hJ _ _ _ (hJ _ _ _ u1 (Stp.setCell (p := ⟨W.heap.size, 0, none⟩) (by show B0 ≤ W.heap.size; omega) u5 (.bool true)) (by omega)) (Stp.putObj (by omega) (fun e => hnD (Or.inl (hat.d _ _ (hb1.mono hBC) _ e))) _) (by omega), u2.below hat hb2, ?_⟩
            rw [World.cell?_of_block (w := A.setCell ⟨W.heap.size, 0, none⟩ (.bool true)) (World.putObj_heap_other (by show W.heap.size ≠ _; omega))]
            exact World.cell?_setCell_same' _ _ _ (by rw [u3]; rfl)
          have hK2 : (A.setCell ⟨W.heap.size, 0, none⟩ (.bool true)).heap[W4.heap.size]? = some (.deferred (some [])) := (Below.heap_setCell A ⟨W.heap.size, 0, none⟩ _ W4.heap.size (by simp; omega)).trans hK
          clear u1 u2 u5 hq1 hq2 hj4 hst4 hc4 hr1 hr1' hr2 hr5 hR4 hRH hRR hat hDl hDm hDH hb34 hJ hJx hY ih hst3 hJ3 hc3' hx hxl hkv e1 e2 e3 e5 hcA hcW hK hnD
          gi_wp2
          refine ⟨by simp, .inl ⟨_, _, rfl, run_takeDeferred hK2, ?_⟩⟩
          obtain ⟨z1, z2, z3, z4⟩ := HY.out _ rfl
          exact ⟨_, results_bool rfl _ _ W.heap.size true rfl z4, z1, .inl ⟨rfl, z2, z3⟩⟩
        case stop =>
          rintro c q A ⟨rfl, ⟨q2, u2⟩, u3⟩ hcA hK
          have hA := hcA.size
          have hcW := hc4.then hcA hRH
          have HY : Hid (∀ B, B = A.putObj W4.heap.size (.deferred none) → Chg (fun A k => R A k ∨ k = l ∨ k = bM) W B ∧ Jx q2 B ∧ B.cell? ⟨W.heap.size, 0, none⟩ = some (.bool false)) := fun B hB => by
            subst hB
            refine ⟨hcW.putObj hDm (l := W4.heap.size) (by omega) (by omega) (fun h => by omega) _, hJx _ _ _ u2 ((hput A W4.heap.size (.deferred none) (by omega)).mono hBC) (by omega), ?_⟩
            rw [World.cell?_of_block (w := A) (World.putObj_heap_other (by show W.heap.size ≠ _; omega))]
            exact u3
          clear u2 hq1 hq2 hj4 hst4 hc4 hr1 hr1' hr2 hr5 hR4 hRH hRR hat hDl hDm hDH hb34 hJ hJx hY ih hst3 hJ3 hc3' hx hxl hkv e1 e2 e3 e5 hcA hcW
          gi_wp2
          refine ⟨by simp, .inl ⟨_, _, rfl, run_takeDeferred hK, ?_⟩⟩
          obtain ⟨z1, z2, z3⟩ := HY.out _ rfl
          exact ⟨_, results_bool rfl _ _ W.heap.size false rfl z3, z1, .inr ⟨rfl, q2, z2⟩⟩
      · refine ⟨_, results_bool rfl _ _ W.heap.size false rfl (World.cell?_setCell_same' _ _ _ (by rw [e1]; rfl)), ?_⟩
        refine ⟨(hc2.then hc3 (fun k _ e => Or.inl e)).setCell hDm (p := ⟨W.heap.size, 0, none⟩) (by show B0 ≤ W.heap.size; omega) (by omega) (fun h => absurd h (Nat.lt_irrefl _)) _, .inr ⟨rfl, _, hJx _ _ _ hJx3 ((Below.refl B0 W3).setCell (p := ⟨W.heap.size, 0, none⟩) (by show B0 ≤ W.heap.size; omega) _) (by omega)⟩⟩
end Go.Proofs.YtkmmcphiijolkaaGreatDoor

set_option linter.unusedVariables false
set_option linter.unusedSimpArgs false
namespace Go.Proofs.YtkmmcphiijolkaaGreatDoor
open Go.RowKit Go.Shelf
open Tr
attribute [local go_sem] Oper.semAt_some

theorem newCell (W : World) (v : Value) (t : TypeId) (b : Nat) (hb : b = W.heap.size) : (W.alloc (.cells #[v] t)).cell? ⟨b, 0, none⟩ = some v ∧ (W.alloc (.cells #[v] t)).frozen? ⟨b, 0, none⟩ = false := by
  subst hb
  constructor <;> simp

set_option maxHeartbeats 4000000 in
theorem below_gives (F : Fence) (hd : F.depth = none) (hro : F.round = none) (n : Nat) (hf89 : F.fn 89) (hf90 : F.fn 90) (hf45 : F.fn 45) (hf40 : F.fn 40) (hf87 : F.fn 87)
    (w0 : World) (tv : Value) (t : List NodeD) (ha : ArgT tv t w0) (hl : t.length ≤ 1000000) (hks : ∀ x ∈ t, x.2.2.2.2.length ≤ maxLen) (node : Int) (b1 b2 : Nat) (R : World → Nat → Prop) (w : World) (hD : Dyn R w.heap.size)
    (hb0 : Below w0.heap.size w0 w) (hR0 : ∀ A k, R A k → w0.heap.size ≤ k) (hb1 : b1 < w.heap.size) (hb2 : b2 < w.heap.size) (hn1 : ¬ R w b1)
    (h1 : w.cell? ⟨b1, 0, none⟩ = some tv) (h2 : w.cell? ⟨b2, 0, none⟩ = some (.int .i64 node)) :
    GivesR F n Tryz.prog 89 #[.pointer (some ⟨b1, 0, none⟩), .pointer (some ⟨b2, 0, none⟩)] (fun x : Nat => #[.int .i64 (x : Int)]) (Few t) (fun xs => xs = belowT t node) R w := by
  intro l J Jx W hl1 hlW hW hnl hr1 hJ hJx hY h0
  have hw0 := hb0.size
  have hWs := hW.size
  have hat : TellAt w0 R l (W.heap.size + 2) W.heap.size b1 (W.heap.size + 3) (W.heap.size + 1) W.heap.size (W.heap.size + 4) :=
    ⟨hR0, hD.mono hWs, by omega, hlW, ⟨by omega, by omega⟩, ⟨by omega, by omega, by omega⟩, ⟨by omega, by omega, by omega⟩, ⟨by omega, by omega, by omega⟩, ⟨by omega, by omega⟩, by omega⟩
  have hbW : Below w0.heap.size w0 W := hb0.trans (hW.mono hw0)
  have c1 : W.cell? ⟨b1, 0, none⟩ = some tv := (hW.cell (p := ⟨b1, 0, none⟩) hb1).trans h1
  have c2 : W.cell? ⟨b2, 0, none⟩ = some (.int .i64 node) := (hW.cell (p := ⟨b2, 0, none⟩) hb2).trans h2
  have hmm := @run_makeMap Tryz.prog
  have htell := tell_any F hd hro hf90 hf45 hf40 hf87 w0 tv t ha hl hks R l (W.heap.size + 2) W.heap.size b1 (W.heap.size + 3) (W.heap.size + 1) W.heap.size (W.heap.size + 4) hat J Jx hr1 hJ hJx
    (fun m pre x A hj hs hf => yieldAny hd m (hY pre x A hj hs hf))
  obtain ⟨k4, k4f⟩ := newCell (((W.alloc (.cells #[.func (.yield l) #[] #[]] 66)).alloc (.map #[] 0)).alloc (.cells #[.map (some (W.heap.size + 1))] 105)) .nilFunc 66 (W.heap.size + 1 + 1 + 1) (by simp)
  obtain ⟨X, hX⟩ : ∃ X, X = (((W.alloc (.cells #[.func (.yield l) #[] #[]] 66)).alloc (.map #[] 0)).alloc (.cells #[.map (some (W.heap.size + 1))] 105)).alloc (.cells #[(.func (.func 90) #[] #[.pointer (some ⟨W.heap.size + 1 + 1, 0, none⟩), .pointer (some ⟨W.heap.size, 0, none⟩), .pointer (some ⟨b1, 0, none⟩), .pointer (some ⟨W.heap.size + 1 + 1 + 1, 0, none⟩)])] 66) := ⟨_, rfl⟩
  have hbX : Below W.heap.size W X := by rw [hX]; exact ((((Below.refl _ W).alloc (Nat.le_refl _) _).alloc (by simp) _).alloc (by simp; omega) _).alloc (by simp; omega) _
  have hsX : X.heap.size = W.heap.size + 4 := by rw [hX]; simp
  have g1 := (hbX.cell (p := ⟨b1, 0, none⟩) (by show b1 < _; omega)).trans c1
  have g2 := (hbX.cell (p := ⟨b2, 0, none⟩) (by show b2 < _; omega)).trans c2
  have g3 : X.cell? ⟨W.heap.size + 1 + 1 + 1, 0, none⟩ = some (.func (.func 90) #[] #[.pointer (some ⟨W.heap.size + 1 + 1, 0, none⟩), .pointer (some ⟨W.heap.size, 0, none⟩), .pointer (some ⟨b1, 0, none⟩), .pointer (some ⟨W.heap.size + 1 + 1 + 1, 0, none⟩)]) := by
    rw [hX, World.cell?_alloc_at _ _ _ _ (by simp)]; rfl
  have g4 : X.cell? ⟨W.heap.size + 1 + 1, 0, none⟩ = some (.map (some (W.heap.size + 1))) := by
    rw [hX, World.cell?_alloc_past _ _ _ (by simp), World.cell?_alloc_at _ _ _ _ (by simp)]; rfl
  have g5 : X.cell? ⟨W.heap.size, 0, none⟩ = some (.func (.yield l) #[] #[]) := by
    rw [hX, World.cell?_alloc_past _ _ _ (by simp; omega), World.cell?_alloc_past _ _ _ (by simp; omega), World.cell?_alloc_past _ _ _ (by simp), World.cell?_alloc_at _ _ _ _ rfl]; rfl
  have g6 : MapI X (W.heap.size + 1) 0 (fun _ => none) := by
    rw [hX]
    have := MapI.made (W.alloc (.cells #[.func (.yield l) #[] #[]] 66))
    rw [World.size_alloc] at this
    exact (this.alloc _).alloc _
  have hDW := hD.mono hWs
  have hnX : ∀ k, W.heap.size ≤ k → ¬ R X k := fun k hk e => by have := hr1 _ _ h0 (Nat.le_refl _) k (hDW _ _ hbX _ e); omega
  have hst : TellSt R w0 t tv l (W.heap.size + 2) W.heap.size b1 (W.heap.size + 3) (W.heap.size + 1) [] X :=
    ⟨g4, g5, g1, g3, g6.congr (fun x _ => by simp), hbW.trans (hbX.mono (by omega)), ⟨List.nodup_nil, fun y hy => by cases hy⟩, hnX _ (by omega), hnX _ (by omega), fun e => hn1 (hD _ _ hW _ (hDW _ _ hbX _ e)), hnX _ (by omega), hnX _ (by omega)⟩
  have hjX : J [] X := hJ _ _ _ h0 (Stp.all hbX (Nat.le_refl _)) (Nat.le_refl _)
  have hcX : Chg (fun A k => R A k ∨ k = l) W X := (Chg.refl _ W).of_below (hDW.or fun k => k = l) hbX (Nat.le_refl _) (Nat.le_refl _)
  have HT : Hid (∀ i : Nat, i < t.length → ∀ m, CallsIn F m Tryz.prog 90 #[.int .i64 (i : Int), .pointer (some ⟨W.heap.size + 1 + 1, 0, none⟩), .pointer (some ⟨W.heap.size, 0, none⟩), .pointer (some ⟨b1, 0, none⟩), .pointer (some ⟨W.heap.size + 1 + 1 + 1, 0, none⟩)] X fun e B =>
      (e = .returned (.bool true) ∨ e = .returned (.bool false)) ∧ Chg (fun A k => R A k ∨ k = l) W B ∧ (J (belowT t (i : Int)) B ∨ ∃ q, Jx q B)) := fun i hi m =>
    (htell t.length i [] X m hi hi (by omega) hst hjX).mono (fun e B ⟨hc, hor⟩ => by
      have h1 : Chg (fun A k => R A k ∨ k = l) W B := hcX.then hc (fun k hk e => by
        rcases e with e | e
        · exact e
        · omega)
      rcases hor with ⟨rfl, hj, _⟩ | ⟨rfl, q, hq⟩
      · exact ⟨Or.inl rfl, h1, Or.inl (by unfold belowT; rw [if_pos ⟨by omega, by omega⟩, Int.toNat_natCast]; exact hj)⟩
      · exact ⟨Or.inr rfl, h1, Or.inr ⟨q, hq⟩⟩)
  have HE : Hid (¬ (0 ≤ node ∧ node < (t.length : Int)) → Chg (fun A k => R A k ∨ k = l) W X ∧ J (belowT t node) X) := fun h => ⟨hcX, by unfold belowT; rw [if_neg h]; exact hjX⟩
  obtain ⟨pa, ca, rfl, fa⟩ := ha
  obtain ⟨m, hm⟩ : ∃ m, m = t.length := ⟨_, rfl⟩
  rw [← hm] at g1 hl
  have HM := Lib.hid hm
  rw [hX] at HT HE g1 g2 g3
  clear fa htell h1 h2 hY hks hst hjX hcX hnX hDW hr1 g4 g5 g6 hbX hsX hX hm c1 c2 hat hJ hJx h0
  refine callsIn_of_wp Tryz.func89 rfl hf89 ?_ hro
  simp only [Tryz.ntmps89, List.size_toArray, List.length_cons, List.length_nil, Nat.reduceAdd, Nat.reduceSub, Array.replicate_succ, Array.replicate_zero, List.push_toArray, List.append_toArray, List.nil_append, List.cons_append]
  by_cases hn0 : 0 ≤ node
  · by_cases hnl : node < (m : Int)
    · obtain ⟨i, rfl⟩ : ∃ i : Nat, node = (i : Int) := ⟨node.toNat, by omega⟩
      have hcall := HT.out i (by rw [← HM.out]; omega)
      clear HT HE HM
      gi_wp2_with ((try refine ⟨depthless hd _, ?_⟩); gi_at_call 90; refine (hcall _).mono ?_; clear hcall; rintro e B ⟨(rfl | rfl), hcB, hor⟩)
      · go_end0
        exact ⟨⟨_, rfl⟩, hcB, hor.elim (fun h => .inl ⟨_, rfl, h⟩) .inr⟩
      · go_end0
        exact ⟨⟨_, rfl⟩, hcB, hor.elim (fun h => .inl ⟨_, rfl, h⟩) .inr⟩
    · have hE := HE.out (by rw [← HM.out]; omega)
      have HE2 := Lib.hid hE
      clear HT HE HM hE
      gi_wp2
      go_end0
      exact ⟨⟨_, rfl⟩, HE2.out.1, .inl HE2.out.2⟩
  · have hE := HE.out (by rw [← HM.out]; omega)
    have HE2 := Lib.hid hE
    clear HT HE HM hE
    gi_wp2
    go_end0
    exact ⟨⟨_, rfl⟩, HE2.out.1, .inl HE2.out.2⟩
end Go.Proofs.YtkmmcphiijolkaaGreatDoor

set_option linter.unusedVariables false
set_option linter.unusedSimpArgs false
namespace Go.Proofs.YtkmmcphiijolkaaGreatDoor
open Go.RowKit Go.Shelf
open Tr
attribute [local go_sem] Oper.semAt_some

/-- All functions that going over a tree needs, in a fence without depth. -/
structure Fen (F : Fence) : Prop where
  d : F.depth = none
  r : F.round = none
  b1 : F.fn 89
  b2 : F.fn 90
  k : F.fn 45
  a : F.fn 40
  a1 : F.fn 87
  b : F.fn 43
  s : F.fn 22
  dp : F.fn 21
  ap : F.fn 86
  co : F.fn 39
  so : F.fn 42
theorem fen_wide : Fen Fence.wide := ⟨rfl, rfl, trivial, trivial, trivial, trivial, trivial, trivial, trivial, trivial, trivial, trivial, trivial⟩

set_option maxHeartbeats 2000000 in
theorem below_in (F : Fence) (n : Nat) (hF : F.fn 43) (hro : F.round = none) (pa : Option Addr) (m ca : Nat) (node : Int) (w : World) :
    CallsIn F n Tryz.prog 43 #[.slice pa m ca, .int .i64 node] w fun e w' => e = .returned (.func (.func 89) #[] #[.pointer (some ⟨w.heap.size, 0, none⟩), .pointer (some ⟨w.heap.size + 1, 0, none⟩)]) ∧ w' = (w.alloc (.cells #[.slice pa m ca] 23)).alloc (.cells #[.int .i64 node] 3) := by
  refine callsIn_of_wp Tryz.func43 rfl hF ?_ hro
  simp only [Tryz.ntmps43, List.size_toArray, List.length_cons, List.length_nil, Nat.reduceAdd, Nat.reduceSub, Array.replicate_succ, Array.replicate_zero, List.push_toArray, List.append_toArray, List.nil_append, List.cons_append]
  gi_wp2
  go_ret
  exact ⟨rfl, rfl⟩

set_option maxHeartbeats 8000000 in
theorem Size_in (F : Fence) (hf : Fen F) (n : Nat) (w : World) (tv : Value) (t : List NodeD) (ha : ArgT tv t w) (hl : t.length ≤ 1000000) (hks : ∀ x ∈ t, x.2.2.2.2.length ≤ maxLen) (node : Int) :
    CallsIn F n Tryz.prog 22 #[tv, .int .i64 node] w fun e w' => e = .returned (.int .i64 ((belowT t node).length : Int)) ∧ Below w.heap.size w w' := by
  have HA := Lib.hid ha
  obtain ⟨pa, ca, rfl, fa⟩ := ha
  obtain ⟨m, hm⟩ : ∃ m, m = t.length := ⟨_, rfl⟩
  have HM := Lib.hid hm
  rw [← hm] at HA ⊢
  clear fa hm
  have hd := hf.d
  have hro := hf.r
  have hfb := hf.b
  refine callsIn_of_wp_marks Tryz.func22 rfl hf.s ?_ hro
  simp only [Tryz.ntmps22, List.size_toArray, List.length_cons, List.length_nil, Nat.reduceAdd, Nat.reduceSub, Array.replicate_succ, Array.replicate_zero, List.push_toArray, List.append_toArray, List.nil_append, List.cons_append]
  gi_wp2_with ((try refine ⟨depthless hd _, ?_⟩); gi_at_call 43; refine (below_in F _ hf.b hro pa m ca node _).mono ?_; rintro e w' ⟨rfl, rfl⟩)
  obtain ⟨W, hW⟩ : ∃ W, W = ((w.alloc (.cells #[.int .i64 0] 3)).alloc (.cells #[.slice pa m ca] 23)).alloc (.cells #[.int .i64 node] 3) := ⟨_, rfl⟩
  have hbW : Below w.heap.size w W := by rw [hW]; exact (((Below.refl _ w).alloc (Nat.le_refl _) _).alloc (by simp) _).alloc (by simp; omega) _
  have hsW : W.heap.size = w.heap.size + 3 := by rw [hW]; simp
  have q0 : W.cell? ⟨w.heap.size, 0, none⟩ = some (.int .i64 0) := by
    rw [hW, World.cell?_alloc_past _ _ _ (by simp; omega), World.cell?_alloc_past _ _ _ (by simp), World.cell?_alloc_at _ _ _ _ rfl]; rfl
  have q0f : W.frozen? ⟨w.heap.size, 0, none⟩ = false := by rw [hW]; simp [go_sem]
  have q1 : W.cell? ⟨w.heap.size + 1, 0, none⟩ = some (.slice pa m ca) := by
    rw [hW, World.cell?_alloc_past _ _ _ (by simp), World.cell?_alloc_at _ _ _ _ (by simp)]; rfl
  have q2 : W.cell? ⟨w.heap.size + 1 + 1, 0, none⟩ = some (.int .i64 node) := by
    rw [hW, World.cell?_alloc_at _ _ _ _ (by simp)]; rfl
  rw [← hW]
  have hg := below_gives F hd hro (n - 1) hf.b1 hf.b2 hf.k hf.a hf.a1 w (.slice pa m ca) t HA.out hl hks node (w.heap.size + 1) (w.heap.size + 1 + 1) (fun _ k => k = w.heap.size) W (Dyn.const _ _) hbW (fun _ k e => by omega) (by omega) (by omega) (by omega) q1 q2
  clear hW HA
  gi_wp2
  refine wpIn_rangeFunc_R hro (depthless hd _) (gf := 89) (lb := #[.pointer (some ⟨w.heap.size + 1, 0, none⟩), .pointer (some ⟨w.heap.size + 1 + 1, 0, none⟩)]) rfl hf.b1 (enters_of Tryz.func89 (by kernel_rfl) rfl)
    (R := fun _ k => k = w.heap.size) (Dyn.const _ _) hg (fun _ => rfl)
    (fun q A => A.cell? ⟨w.heap.size, 0, none⟩ = some (.int .i64 (q.length : Int)) ∧ A.frozen? ⟨w.heap.size, 0, none⟩ = false)
    (fun c q A => False) (fun q A _ hs k e => by omega)
    (fun q A B ⟨u1, u2⟩ hST hs => have hB := hST.b
      ⟨(hB.cell (p := ⟨w.heap.size, 0, none⟩) (by show w.heap.size < _; omega)).trans u1, (hB.frozen (p := ⟨w.heap.size, 0, none⟩) (by show w.heap.size < _; omega)).trans u2⟩)
    (fun c q A B h _ _ => h) ⟨q0, q0f⟩
    (fun x => { tmps := #[.slice pa m ca, .int .i64 node, undef, undef, .int .i64 0, .pointer (some ⟨w.heap.size, 0, none⟩), .slice pa m ca, .int .i64 node, .func (.func 89) #[] #[.pointer (some ⟨w.heap.size + 1, 0, none⟩), .pointer (some ⟨w.heap.size + 1 + 1, 0, none⟩)], .int .i64 (x : Int), undef, undef, undef], defers := [] })
    ?assign ?body ?done ?stop
  case assign =>
    intro l x W K hK
    gi_wp2
    simpa using hK
  case body =>
    rintro l2 q k A ⟨u1, u2⟩ hS hsz
    have hlen := few_length hS
    rw [List.length_append, List.length_singleton] at hlen
    obtain ⟨c, hc⟩ : ∃ c, c = q.length := ⟨_, rfl⟩
    rw [← hc] at u1 hlen
    have HC := Lib.hid hc
    clear hc hg hS
    have hw : IntKind.i64.wrap ((c : Int) + 1) = (c : Int) + 1 := IntWalk.i64_in _ (by omega)
    gi_wp2
    refine ⟨(Chg.refl (fun _ k => k = w.heap.size) A).setCell (Dyn.const _ 0) (p := ⟨w.heap.size, 0, none⟩) (Nat.zero_le _) (Nat.zero_le _) (fun _ => rfl) _, ?_, by rw [World.frozen?_setCell]; exact u2⟩
    rw [List.length_append, List.length_singleton, ← HC.out]
    exact World.cell?_setCell_same' _ _ _ (by rw [u1]; rfl)
  case done =>
    rintro q A rfl ⟨u1, u2⟩ hcA hK _
    have hbA : Below w.heap.size w A := hbW.trans (hcA.below (by omega) (fun k hk e => by omega))
    clear hg
    gi_wp2
    refine ⟨by simp, .inl ⟨_, _, rfl, run_takeDeferred hK, ?_⟩⟩
    exact ⟨_, results_tmp rfl _ _ _, rfl, hbA.trans ⟨rfl, rfl, rfl, by rw [World.putObj_size]; exact Nat.le_refl _, fun k hk => World.putObj_heap_other (by omega)⟩⟩
  case stop =>
    rintro c q A h
    exact h.elim
theorem Size_any (w : World) (tv : Value) (t : List NodeD) (ha : ArgT tv t w) (hl : t.length ≤ 1000000) (hks : ∀ x ∈ t, x.2.2.2.2.length ≤ maxLen) (node : Int) :
    Calls Tryz.prog 22 #[tv, .int .i64 node] w fun e w' => e = .returned (.int .i64 ((belowT t node).length : Int)) ∧ Below w.heap.size w w' :=
  (callsIn_wide (n := 3)).1 (Size_in Fence.wide fen_wide 3 w tv t ha hl hks node)
end Go.Proofs.YtkmmcphiijolkaaGreatDoor
