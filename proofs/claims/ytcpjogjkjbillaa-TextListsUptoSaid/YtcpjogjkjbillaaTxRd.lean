/-
  The places of a text in another one as a range over a function, at this program.
-/
import Derived.Test.YtcpjogjkjbillaaTxRc
import Derived.Test.YtcpjogjkjbillaaTreeR
import Derived.RangeFuncNested
import Derived.RangeFuncBound
import Derived.RangeFuncCalls
import Derived.RangeFuncLeaves
import Derived.Shelf.Abstract
import Derived.Shelf.RegionOpen
import Derived.WalkKit
import Derived.OwnWalkIn
import Derived.TacticsInMore
import Derived.LoopNIn
import Derived.LoopIn
set_option linter.unusedVariables false
set_option linter.unusedSimpArgs false
namespace Go.Proofs.Ytcpjogjkjbillaa
open Go.RowKit Go.Shelf
attribute [local go_sem] Oper.semAt_some

/-- Where no depth is asked, a round of any depth is one of each. -/
theorem yield_deep {F : Fence} (hd : F.depth = none) {m : Nat} (m' : Nat) {P : Program} {l : Nat} {args : Array Value} {W : World} {R : Ending → World → Prop} (h : YieldAt F m P l args W R) : YieldAt F m' P l args W R := by
  obtain ⟨fn, tmps, assign, body, hy, h1, h2⟩ := h
  exact ⟨fn, tmps, assign, body, hy, h1, fun c cs _ => h2 c cs (fun d e => by rw [hd] at e; cases e)⟩
theorem depthless9 {F : Fence} (hd : F.depth = none) (k : Nat) : F.depth.isSome = true → 1 ≤ k := fun h => by rw [hd] at h; cases h
theorem pre_next {xs pre r : List Nat} {x : Nat} (h : xs = pre ++ x :: r) : pre ++ [x] <+: xs := ⟨r, by rw [h, List.append_assoc]; rfl⟩
set_option maxHeartbeats 8000000 in
set_option maxRecDepth 20000 in
theorem places_gives (n : Nat) (s p : ByteArray) (hs : s.size ≤ 1048576) (hp : p.size ≤ 1048576) (h0 : p.data.toList ≠ []) (bp bs : Nat) (R : World → Nat → Prop) (w : World) (hD : Dyn R w.heap.size) (hbp : bp < w.heap.size) (hbs : bs < w.heap.size) (hnp : ¬ R w bp) (hns : ¬ R w bs)
    (c1 : w.cell? ⟨bp, 0, none⟩ = some (.string p)) (c2 : w.cell? ⟨bs, 0, none⟩ = some (.string s)) :
    GivesR Fence.wide n Try.prog 49 #[.pointer (some ⟨bp, 0, none⟩), .pointer (some ⟨bs, 0, none⟩)] (fun x : Nat => #[.int .i64 (x : Int)]) (fun q => q <+: Tx.plcs p.data.toList s.data.toList) (fun q => q = Tx.plcs p.data.toList s.data.toList) R w := by
  intro l J Jx W hl hlW hW hnl hr1 hJ hJx hY hJ0
  have hWs := hW.size
  have d1 : W.cell? ⟨bp, 0, none⟩ = some (.string p) := (hW.cell (p := ⟨bp, 0, none⟩) hbp).trans c1
  have d2 : W.cell? ⟨bs, 0, none⟩ = some (.string s) := (hW.cell (p := ⟨bs, 0, none⟩) hbs).trans c2
  have hnpW : ¬ R W bp := fun e => hnp (hD _ _ hW _ e)
  have hnsW : ¬ R W bs := fun e => hns (hD _ _ hW _ e)
  clear c1 c2 hnp hns
  refine callsIn_of_wp Try.func49 rfl trivial ?_ rfl
  simp only [Try.ntmps49, List.size_toArray, List.length_cons, List.length_nil, Nat.reduceAdd, Nat.reduceSub, Array.replicate_succ, Array.replicate_zero, List.push_toArray, List.append_toArray, List.nil_append, List.cons_append]
  by_cases hlong : s.size < p.size
  · have hL := Tx.plcs_long (P := p.data.toList) (s := s.data.toList) h0 (by rw [size_list, size_list]; exact hlong)
    have hg : (s.size : Int) < (p.size : Int) := by omega
    have HF : Hid ((∃ xs, xs = Tx.plcs p.data.toList s.data.toList ∧ J xs W) ∨ (∃ pre, Jx pre W)) := (show _ ∨ _ from Or.inl ⟨_, rfl, by rw [hL]; exact hJ0⟩)
    clear hL hJ0 hY hJ hJx hr1
    gi_wp2_with fail
    refine bodyPost_ret (results_none rfl _ _ _) rfl ?_
    exact ⟨⟨_, rfl⟩, Chg.refl _ _, HF.out⟩
  · have hg : ¬ (s.size : Int) < (p.size : Int) := by omega
    have hp0 : 0 < p.size := by rw [← size_list]; exact List.length_pos_iff.2 h0
    have HBO := Lib.hid (borders_is hp W)
    have HJ := Lib.hid hJ
    have HJx := Lib.hid hJx
    have HY := Lib.hid hY
    have HR1 := Lib.hid hr1
    have HJ0 := Lib.hid hJ0
    clear hJ hJx hY hr1 hJ0
    gi_wp2_with fail
    refine ⟨trivial, fun h => by simp [Fence.wide] at h, (callsIn_wide.2 HBO.out).mono ?_⟩
    rintro e WB ⟨g, rfl, hgW, hgB, HT, HB⟩
    obtain ⟨cap, W3, hcv, hbW, hsW, hcW⟩ := bytes_conv s WB
    have HCW := Lib.hid hcW
    have e2 : WB.cell? ⟨bs, 0, none⟩ = some (.string s) := (HB.cell (p := ⟨bs, 0, none⟩) (by show bs < _; omega)).trans d2
    have hb3 : Below W.heap.size W W3 := HB.trans (hbW.mono HB.size)
    have f1 : W3.cell? ⟨bp, 0, none⟩ = some (.string p) := (hb3.cell (p := ⟨bp, 0, none⟩) (by show bp < _; omega)).trans d1
    have HT3 : Hid (Tab g p.data.toList p.size W3) := (show Tab _ _ _ _ from fun j hj => (hbW.cell (p := ⟨g, j, none⟩) hgB).trans (HT.out j hj))
    have hs3 := hb3.size
    have HD3 : Hid (∀ k, k < W3.heap.size → k ≠ l → (W.heap.size ≤ k ∨ ¬ R W k) → ¬ (R W3 k ∨ k = l)) := (show ∀ k, _ from fun k hk hne hor e => by
      rcases e with e | e
      · have h2 := hD _ _ (hb3.mono hWs) _ e
        rcases hor with h3 | h3
        · have := HR1.out [] W HJ0.out (Nat.le_refl _) k h2
          omega
        · exact h3 h2
      · exact hne e)
    have HJ3 : Hid (J [] W3) := (show J _ _ from HJ.out _ _ _ HJ0.out (Stp.all hb3 (Nat.le_refl _)) (Nat.le_refl _))
    have HC3 : Hid (Chg (fun A k => R A k ∨ k = l) W W3) := (show Chg _ _ _ from (Chg.refl _ W).of_below (hD.or _) hb3 (Nat.le_refl _) hWs)
    have HNP : Hid (bp < W3.heap.size ∧ bp ≠ l ∧ ¬ R W bp ∧ g < W3.heap.size ∧ g ≠ l ∧ W.heap.size ≤ g ∧ WB.heap.size < W3.heap.size ∧ WB.heap.size ≠ l ∧ W.heap.size ≤ WB.heap.size) := (show _ from by have := HB.size; refine ⟨?_, ?_, hnpW, ?_, ?_, hgW, ?_, ?_, this⟩ <;> omega)
    have HHS : Hid (W.heap.size ≤ W3.heap.size) := hs3
    clear HBO HB HT hbW hsW hcW hb3 hgW hgB hnpW hnsW hs3 HJ0 HR1 HJ d2
    gi_wp2_with fail
    gi_loopw [5, 18] (fun v5 v18 wr => ∃ (i h : Nat) (pre : List Nat) (T : Tx.Bs), v18 = .int .i64 (i : Int) ∧ v5 = .int .i64 (h : Int) ∧ i ≤ s.size ∧ h < p.size ∧ Hid (Tx.lng p.data.toList T = h) ∧ Hid (T.length ≤ i) ∧ Hid (Tx.plcs p.data.toList s.data.toList = pre ++ Tx.scan p.data.toList T i (s.data.toList.drop i)) ∧ Hid (J pre wr) ∧ Hid (Chg (fun A k => R A k ∨ k = l) W3 wr)) (fun _ v18 _ => s.size - (intOf v18).toNat)
    case atStart => exact ⟨0, 0, [], [], rfl, rfl, Nat.zero_le _, hp0, (show _ = _ from Tx.lng_nil _), (show _ ≤ _ from Nat.le_refl _), (show _ = _ from rfl), HJ3, (show Chg _ _ _ from Chg.refl _ _)⟩
    case round =>
      clear HJ3
      obtain ⟨i, h, pre, T, rfl, rfl, hi, hh, HH, HTl, HL, HJp, HCh⟩ := hrel
      by_cases hlt : i < s.size
      · have hno := HNP.out
        have a1 : wr.cell? ⟨bp, 0, none⟩ = some (.string p) := (World.cell?_of_block (a := ⟨bp, 0, none⟩) (HCh.out.both bp hno.1 (HD3.out bp hno.1 hno.2.1 (Or.inr hno.2.2.1))).1).trans f1
        have a2 : wr.cell? ⟨WB.heap.size, i, none⟩ = some (.int .u8 (s[i].toNat : Int)) := (World.cell?_of_block (a := ⟨WB.heap.size, i, none⟩) (HCh.out.both WB.heap.size hno.2.2.2.2.2.2.1 (HD3.out _ hno.2.2.2.2.2.2.1 hno.2.2.2.2.2.2.2.1 (Or.inl hno.2.2.2.2.2.2.2.2))).1).trans (HCW.out i hlt)
        have HTB : Hid (Tab g p.data.toList h wr) := (show Tab _ _ _ _ from fun j hj => (World.cell?_of_block (a := ⟨g, j, none⟩) (HCh.out.both g hno.2.2.2.1 (HD3.out _ hno.2.2.2.1 hno.2.2.2.2.1 (Or.inl hno.2.2.2.2.2.1))).1).trans (HT3.out j (by omega)))
        have hgb := get_byte hlt
        have hdr := List.drop_eq_getElem_cons (l := s.data.toList) (i := i) (by rw [size_list]; exact hlt)
        have hsb : s.data.toList[i]'(by rw [size_list]; exact hlt) = s[i] := rfl
        rw [hsb] at hdr
        obtain ⟨m, hm⟩ : ∃ m, Tx.lng p.data.toList (T ++ [s[i]]) = m := ⟨_, rfl⟩
        have hml := Tx.lng_len p.data.toList (T ++ [s[i]])
        have hmp := Tx.lng_le p.data.toList (T ++ [s[i]])
        rw [hm, List.length_append, List.length_singleton] at hml
        rw [hm, size_list] at hmp
        have HTl' := HTl.out
        have hsc := HL.out
        rw [hdr, Tx.scan, hm, size_list] at hsc
        have HS := Tx.lng_suf p.data.toList T
        have HC := Tx.cand_first p.data.toList T s[i]
        rw [HH.out] at HS HC
        have hc := Lib.hid (longer_is (g := g) (cap := p.size) hh hp (Lib.hid HS) (Lib.hid HC) (Lib.hid hm) wr HTB)
        by_cases hfull : m < p.size
        · rw [if_neg (by omega)] at hsc
          have HL2 := Lib.hid hsc
          have HTl2 : Hid ((T ++ [s[i]]).length ≤ i + 1) := (show _ ≤ _ by rw [List.length_append, List.length_singleton]; omega)
          have HM := Lib.hid hm
          have hf' : (m : Int) < (p.size : Int) := by omega
          clear HH HTl HL HTB hgb hdr hsb hm hml hmp HTl' hsc HS HC hno HY HJx
          gi_wp2_with fail
          refine ⟨trivial, fun h => by simp [Fence.wide] at h, (callsIn_wide.2 hc.out).mono ?_⟩
          clear hc
          rintro e w2 ⟨rfl, rfl⟩
          gi_wp2_with fail
          go_roundw
          case rel => exact ⟨i + 1, m, pre, _, by go_num, rfl, by omega, hfull, HM, HTl2, HL2, HJp, HCh⟩
          case measure => simp [intOf]; omega
        · obtain rfl : m = p.size := by omega
          rw [if_pos rfl] at hsc
          obtain ⟨x, hx⟩ : ∃ x, i + 1 - p.size = x := ⟨_, rfl⟩
          rw [hx] at hsc
          have HL2 : Hid (Tx.plcs p.data.toList s.data.toList = (pre ++ [x]) ++ Tx.scan p.data.toList [] (i + 1) (s.data.toList.drop (i + 1))) := (show _ = _ by rw [hsc, List.append_assoc]; rfl)
          have hw1 : IntKind.i64.wrap ((i : Int) + 1) = (i : Int) + 1 := IntWalk.i64_in _ (by omega)
          have hw2 : IntKind.i64.wrap ((i : Int) + 1 - (p.size : Int)) = (x : Int) := by rw [IntWalk.i64_in _ (by omega)]; omega
          have hy0 := HY.out pre x wr HJp.out (by have := HCh.out.size; have := HHS.out; omega) (pre_next hsc)
          obtain ⟨fn, tmps, assign, body, hy, hRd⟩ := hy0
          have HRR := Lib.hid hRd
          have hf' : ¬ (p.size : Int) < (p.size : Int) := by omega
          clear HH HTl HL HTB hgb hdr hsb hm hml hmp HTl' hsc HS HC hno HY HJx hRd hx
          gi_wp2_with fail
          refine ⟨trivial, fun h => by simp [Fence.wide] at h, (callsIn_wide.2 hc.out).mono ?_⟩
          clear hc
          rintro e w2 ⟨rfl, rfl⟩
          gi_wp2_with fail
          refine ⟨fun h => by simp [Fence.wide] at h, HRR.out.mono ?_⟩
          clear HRR
          rintro e W4 ⟨hc4, (⟨rfl, hJ4⟩ | ⟨rfl, hJx4⟩)⟩
          · have HJ4 := Lib.hid hJ4
            have HC4 := Lib.hid (HCh.out.trans hc4)
            clear hy hJ4 hc4
            gi_wp2_with fail
            go_roundw
            case rel => exact ⟨i + 1, 0, _, [], by go_num, by go_num, by omega, hp0, (show _ = _ from Tx.lng_nil _), (show _ ≤ _ from Nat.zero_le _), HL2, HJ4, HC4⟩
            case measure => simp [intOf]; omega
          · have HC4 := Lib.hid (HC3.out.trans (HCh.out.trans hc4))
            clear hy hc4
            gi_wp2_with fail
            refine bodyPost_ret (results_none rfl _ _ _) rfl ?_
            exact ⟨⟨_, rfl⟩, HC4.out, Or.inr ⟨_, hJx4⟩⟩
      · obtain rfl : i = s.size := by omega
        have hL := HL.out
        rw [List.drop_eq_nil_of_le (by rw [size_list]; exact Nat.le_refl _), Tx.scan, List.append_nil] at hL
        have HF : Hid ((∃ xs, xs = Tx.plcs p.data.toList s.data.toList ∧ J xs wr) ∨ (∃ pre, Jx pre wr)) := (show _ ∨ _ from Or.inl ⟨_, rfl, by rw [hL]; exact HJp.out⟩)
        have HC4 := Lib.hid (HC3.out.trans HCh.out)
        clear hL HL HH HTl HJp HCh
        gi_wp2_with fail
        go_end0
        exact ⟨⟨_, rfl⟩, HC4.out, HF.out⟩
end Go.Proofs.Ytcpjogjkjbillaa
