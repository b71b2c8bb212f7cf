/-
  What the reference goes over, at this program.
-/
import Derived.Test.YtkmmcphiijolkaaDoorTreeDD
set_option linter.unusedVariables false
set_option linter.unusedSimpArgs false
namespace Go.Proofs.YtkmmcphiijolkaaDoor
open Go.RowKit Go.Shelf
open Tr

/-- A number is appended to a row of the call's own. -/
theorem wpList_iapp {ops : Array Oper} {rest : List Oper} {o : Oper} {a : Act} {Q' : Exit → Act → World → Prop} (hgd : o.guard = none) (s x : Operand)
    (ho : o.op = .call { callee := .builtin .append, args := #[s, x], argTypes := #[22, 22] }) (base n : Nat) (v : Value) (l : List Int) (w : World) (hown : w.ownsRow base 3 1 v n (l.map (Value.int .i64))) (hbase : base ≤ w.heap.size) (k : Int)
    (hs : a.eval s = v) (hx : a.eval x = .slice (some ⟨w.heap.size, 0, none⟩) 1 1) (hlen : n + 1 ≤ 1000000)
    (h : ∀ g c w', Hid (w'.ownsRow base 3 1 (.slice (some ⟨g, 0, none⟩) (n + 1) c) (n + 1) ((l ++ [k]).map (Value.int .i64))) → Hid (But (fun b => v.ownBlock = some b) w w') → Hid (base ≤ g ∧ (some g = v.ownBlock ∨ w.heap.size ≤ g)) → wpList Tryd.prog ops Q' rest (a.put o.dst (.slice (some ⟨g, 0, none⟩) (n + 1) c)) w') :
    wpList Tryd.prog ops Q' (o :: rest) a (w.alloc (.cells #[.int .i64 k] 3)) := by
  obtain ⟨i0, hi, hz0, hz1, hz2⟩ := info_parts infoInt
  have hb2 : Below w.heap.size w (w.alloc (.cells #[.int .i64 k] 3)) := (Below.refl _ _).alloc (Nat.le_refl _) _
  refine wpList_append_own_at _ hgd s x 22 ho base 3 i0 _ 1 8 Tryd.underlying22 hi hz0 hz1 hz2 rfl (by decide) v n _ hs (hown.alloc _) ⟨w.heap.size, 0, none⟩ 1 1 [.int .i64 k] hx rfl ?_ ?_ (by unfold maxLen; omega) (by omega) (by simp; omega) ?_
  · intro j u hu
    cases j with
    | zero =>
      simp at hu
      subst hu
      simp [Addr.add]
    | succ j => simp at hu
  · intro u hu
    simp at hu
    subst hu
    rfl
  · intro v' w' hown' hgrow hz hloc
    have hown2 := hown'
    rcases hown'.2 with ⟨e, hn⟩ | ⟨g, cap, cur, rfl, hg, _⟩
    · omega
    · refine h g cap w' (show World.ownsRow _ _ _ _ _ _ _ by rw [List.map_append]; exact hown2) (show But _ _ _ from ⟨hgrow.os, hgrow.tape, hgrow.output, Nat.le_trans hb2.size hgrow.size, fun k hk hn => ⟨(hgrow.block k (by have := hb2.size; omega) (fun e => hn e.symm)).trans (hb2.block k hk), fun e => hn e⟩⟩) (show _ ∧ _ from ⟨hg, ?_⟩)
      rcases hloc with e | e
      · exact Or.inl e
      · simp only [Value.ownBlock, Option.some.injEq, World.alloc, Array.size_push] at e
        exact Or.inr (by omega)

set_option maxHeartbeats 8000000 in
set_option maxRecDepth 100000 in
theorem Kids_any (tv : Value) (t : List NodeD) (w : World) (ha : ArgT tv t w) (hl : t.length ≤ 1000000) (hks : ∀ x ∈ t, x.2.2.2.2.length ≤ 900000) (i : Nat) (hi : i < t.length) :
    Calls Tryd.prog 80 #[tv, .int .i64 (i : Int)] w fun e w' => ∃ (pr : Option Addr) (n c : Nat), e = .returned (.slice pr n c) ∧ w'.ownsRow w.heap.size 3 1 (.slice pr n c) n ((castL (kidN t i)).map (Value.int .i64)) ∧ Below w.heap.size w w' := by
  obtain ⟨x, hx⟩ : ∃ x, t[i]? = some x := ⟨_, List.getElem?_eq_getElem hi⟩
  have hnx : kidN t i = kidsOf i x.2.2.2.2 := by unfold kidN nodeAt; rw [Int.toNat_natCast, hx]; rfl
  have hkl := hks x (List.mem_of_getElem? hx)
  rw [hnx]
  obtain ⟨pa, cap, rfl, hc⟩ := ha
  obtain ⟨ga, oa, vk, rfl, hga, a0, a1, a2, a3, a4, hkv⟩ := hc i x hx
  obtain ⟨x0, x1, x2, x3, ks⟩ := x
  simp only at a4 hkv hkl ⊢
  obtain ⟨pk, ck, rfl, fk⟩ := hkv
  obtain ⟨m, hm⟩ : ∃ m, m = t.length := ⟨_, rfl⟩
  rw [← hm] at hi hl ⊢
  obtain ⟨q, hq⟩ : ∃ q, q = ks.length := ⟨_, rfl⟩
  rw [← hq] at a4 hkl
  have HQ := Lib.hid hq
  have HFK := Lib.hid fk
  have him : (i : Int) < (m : Int) := by omega
  clear a0 a1 a2 a3 hc hks hx hnx hq hm fk
  go_enter Tryd.func80, Tryd.ntmps80
  go_wp2_with fail
  have e1 : decide (m ≤ i) = false := decide_eq_false (by omega)
  have e2 : decide ((i : Int) < 0) = false := decide_eq_false (by omega)
  simp only [e1, e2, Bool.or_false]
  go_loopw [5, 6] (fun v5 v6 wr => ∃ (j n : Nat) (pr : Option Addr) (c : Nat), v6 = .int .i64 (j : Int) ∧ v5 = .slice pr n c ∧ j ≤ q ∧ n ≤ j ∧ Hid (wr.ownsRow w.heap.size 3 1 (.slice pr n c) n ((castL (kidsOf i (ks.take j))).map (Value.int .i64))) ∧ Below w.heap.size w wr) (fun _ v6 _ => q - (intOf v6).toNat)
  case atStart => exact ⟨0, 0, none, 0, rfl, rfl, Nat.zero_le _, Nat.le_refl _, by show World.ownsRow _ _ _ _ _ _ _; exact World.ownsRow_nil _ _ _ _, Below.refl _ _⟩
  case round =>
    obtain ⟨j, n, pr, c, rfl, rfl, hj, hnj, HR, hbel⟩ := hrel
    have b4 := (hbel.cell (p := ⟨ga, oa + i * 5 + 4, none⟩) hga).trans a4
    by_cases hjq : j < q
    · obtain ⟨k, hk⟩ : ∃ k, ks[j]? = some k := ⟨_, List.getElem?_eq_getElem (by rw [← HQ.out]; exact hjq)⟩
      obtain ⟨gk, ok, rfl, hgk, kc⟩ := HFK.out.1 j k hk
      have kc2 := (hbel.cell (p := ⟨gk, ok + j, none⟩) hgk).trans kc
      have htk := kidsOf_take i ks j k hk
      clear kc a4
      by_cases hin : 0 ≤ k ∧ k < (i : Int)
      · have h0 := hin.1
        have h1 := hin.2
        rw [if_pos hin] at htk
        have HTK : Hid (castL (kidsOf i (ks.take (j + 1))) = castL (kidsOf i (ks.take j)) ++ [k]) := (show _ = _ by
          rw [htk]
          simp only [castL, List.map_append, List.map_cons, List.map_nil]
          congr 2
          omega)
        have hs := hbel.size
        have HBEL := Lib.hid hbel
        clear htk hk hin hbel
        go_wp2_with (at_builtin; refine wpList_iapp rfl _ _ rfl w.heap.size _ _ _ _ HR.out hs k rfl (by rfl) (by omega) ?_; intro g5 c5 w5 HO HB HG)
        have HB2 : Hid (Below w.heap.size w w5) := (show Below _ _ _ from HBEL.out.trans (HB.out.below hs (fun b hb e => by have := (HR.out.lt b e).1; omega)))
        have HO2 : Hid (w5.ownsRow w.heap.size 3 1 (.slice (some ⟨g5, 0, none⟩) (n + 1) c5) (n + 1) ((castL (kidsOf i (ks.take (j + 1)))).map (Value.int .i64))) := (show World.ownsRow _ _ _ _ _ _ _ by rw [HTK.out]; exact HO.out)
        go_roundw
        case rel => exact ⟨j + 1, n + 1, some ⟨g5, 0, none⟩, c5, rfl, rfl, by omega, by omega, HO2, HB2.out⟩
        case measure => simp [intOf]; omega
      · rw [if_neg hin, List.append_nil] at htk
        have HO2 : Hid (wr.ownsRow w.heap.size 3 1 (.slice pr n c) n ((castL (kidsOf i (ks.take (j + 1)))).map (Value.int .i64))) := (show World.ownsRow _ _ _ _ _ _ _ by rw [htk]; exact HR.out)
        have HBEL := Lib.hid hbel
        clear htk hbel
        by_cases h0 : 0 ≤ k
        · have h1 : ¬ k < (i : Int) := fun h => hin ⟨h0, h⟩
          clear hin hk
          go_wp2_with fail
          go_roundw
          case rel => exact ⟨j + 1, n, pr, c, rfl, rfl, by omega, by omega, HO2, HBEL.out⟩
          case measure => simp [intOf]; omega
        · clear hin hk
          go_wp2_with fail
          go_roundw
          case rel => exact ⟨j + 1, n, pr, c, rfl, rfl, by omega, by omega, HO2, HBEL.out⟩
          case measure => simp [intOf]; omega
    · obtain rfl : j = q := by omega
      have HR2 : Hid (wr.ownsRow w.heap.size 3 1 (.slice pr n c) n ((castL (kidsOf i ks)).map (Value.int .i64))) := (show World.ownsRow _ _ _ _ _ _ _ by
        have := HR.out
        rwa [HQ.out, List.take_length] at this)
      have HBEL := Lib.hid hbel
      clear HR hbel
      go_wp2_with fail
      go_ret
      exact ⟨pr, n, c, rfl, HR2.out, HBEL.out⟩
end Go.Proofs.YtkmmcphiijolkaaDoor
