/-
  The pairs of a row with gaps as a range over a method, at this program.
-/
import Derived.Test.YtaghkidelbepnaaDcU
import Derived.Test.YtaghkidelbepnaaRangeB
import Derived.OwnWalkIn
import Derived.TacticsInMore
import Derived.LoopNIn
import Derived.LoopIn
set_option linter.unusedVariables false
set_option linter.unusedSimpArgs false
namespace Go.Proofs.Ytaghkidelbepnaa
open Go.RowKit
open Di
attribute [local go_sem] Oper.semAt_some

abbrev encP (p : Pr) : Array Value := #[vV p.1, vV p.2]
theorem live_take {es : List Ent} {i : Nat} {e : Ent} (h : es[i]? = some e) : live (es.take (i + 1)) = live (es.take i) ++ (if e.2 then [] else [e.1]) := by
  rw [List.take_add_one, h, live_app]
  obtain ⟨p, b⟩ := e
  cases b <;> rfl
theorem live_pre (es : List Ent) (i : Nat) : live (es.take i) <+: live es := ⟨live (es.drop i), by rw [← live_app, List.take_append_drop]⟩
theorem new_ent (w : World) (p : Ent) (j : Nat) (u : Value) (h : (cE p)[j]? = some u) : (w.alloc (.cells #[.int .i64 p.1.1.1, .int .i64 p.1.1.2.1, .string p.1.1.2.2, .int .i64 p.1.2.1, .int .i64 p.1.2.2.1, .string p.1.2.2.2, .bool p.2] 75)).cell? ⟨w.heap.size, j, none⟩ = some u := by
  have hh := heap_alloc_new w (.cells #[.int .i64 p.1.1.1, .int .i64 p.1.1.2.1, .string p.1.1.2.2, .int .i64 p.1.2.1, .int .i64 p.1.2.2.1, .string p.1.2.2.2, .bool p.2] 75)
  simp only [World.cell?, hh]
  rw [← h, ← Array.getElem?_toList]
  rfl
set_option maxHeartbeats 8000000 in
set_option maxRecDepth 100000 in
theorem each_core (n : Nat) (v : Value) (es : List Ent) (he : es.length ≤ 50000) (l : Nat) (J Jx : List Pr → World → Prop) (R : World → Nat → Prop) (W : World) (hrow : W.ownsRow 0 75 7 v es.length (es.flatMap cE)) (hv : ∀ g, v.ownBlock = some g → ¬ R W g ∧ g ≠ l) (hD : Dyn R W.heap.size) (hlW : l < W.heap.size)
    (hJ : ∀ pre A B, J pre A → Stp R W.heap.size A B → W.heap.size ≤ A.heap.size → J pre B) (hJx : ∀ pre A B, Jx pre A → Below W.heap.size A B → W.heap.size ≤ A.heap.size → Jx pre B)
    (hY : ∀ pre x A, J pre A → W.heap.size ≤ A.heap.size → pre ++ [x] <+: live es → YieldAt Fence.wide (n - 1) Try.prog l (encP x) A fun e B => Chg (fun A k => R A k ∨ k = l) A B ∧ ((e = .returned (.bool true) ∧ J (pre ++ [x]) B) ∨ (e = .returned (.bool false) ∧ Jx (pre ++ [x]) B)))
    (hJ0 : J [] W) :
    CallsIn Fence.wide n Try.prog 39 #[v, .func (.yield l) #[] #[]] W fun e B => (∃ rv, e = .returned rv) ∧ Chg (fun A k => R A k ∨ k = l) W B ∧ ((∃ xs, xs = live es ∧ J xs B) ∨ (∃ pre, Jx pre B)) := by
  obtain ⟨pa, cap, rfl, hform⟩ := own_form cE_len hrow
  have HFO := Lib.hid hform
  have HV := Lib.hid hv
  obtain ⟨m, hm⟩ : ∃ m, es.length = m := ⟨_, rfl⟩
  have HM := Lib.hid hm
  rw [hm] at he ⊢
  have HJ := Lib.hid hJ
  have HJx := Lib.hid hJx
  have HY := Lib.hid hY
  have HJ0 := Lib.hid hJ0
  have HDY : Hid (Dyn R W.heap.size) := hD
  clear hrow hform hJ hJx hY hJ0 hv hm
  refine callsIn_of_wp Try.func39 rfl trivial ?_ rfl
  simp only [Try.ntmps39, List.size_toArray, List.length_cons, List.length_nil, Nat.reduceAdd, Nat.reduceSub, Array.replicate_succ, Array.replicate_zero, List.push_toArray, List.append_toArray, List.nil_append, List.cons_append]
  gi_wp2_with fail
  gi_loopw [8] (fun v8 wr => ∃ i : Nat, v8 = .int .i64 (i : Int) ∧ i ≤ m ∧ Hid (J (live (es.take i)) wr) ∧ Hid (Chg (fun A k => R A k ∨ k = l) W wr)) (fun v8 _ => m - (intOf v8).toNat)
  case atStart => exact ⟨0, rfl, Nat.zero_le _, (show J _ _ from HJ0.out), (show Chg _ _ _ from Chg.refl _ _)⟩
  case round =>
    clear HJ0
    obtain ⟨i, rfl, hi, HJp, HCh⟩ := hrel
    by_cases hlt : i < m
    · obtain ⟨e, hE⟩ : ∃ e, es[i]? = some e := ⟨_, List.getElem?_eq_getElem (by have := HM.out; omega)⟩
      obtain ⟨g, rfl, hg, _, hcs⟩ := HFO.out i e hE
      have hgR := HV.out g rfl
      have hgb := (HCh.out.both g hg (fun h => h.elim hgR.1 hgR.2)).1
      have hcw : ∀ j u, (cE e)[j]? = some u → wr.cell? ⟨g, i * 7 + j, none⟩ = some u := fun j u hu => (World.cell?_of_block (a := ⟨g, i * 7 + j, none⟩) hgb).trans (hcs j u hu)
      have a0 := hcw 0 _ rfl
      have a1 := hcw 1 _ rfl
      have a2 := hcw 2 _ rfl
      have a3 := hcw 3 _ rfl
      have a4 := hcw 4 _ rfl
      have a5 := hcw 5 _ rfl
      have a6 := hcw 6 _ rfl
      simp only [Nat.add_zero] at a0
      have hT := live_take hE
      have hws := HCh.out.size
      obtain ⟨p, b⟩ := e
      obtain ⟨w1, hw1⟩ : ∃ w1, w1 = wr.alloc (.cells #[.int .i64 p.1.1, .int .i64 p.1.2.1, .string p.1.2.2, .int .i64 p.2.1, .int .i64 p.2.2.1, .string p.2.2.2, .bool b] 75) := ⟨_, rfl⟩
      have hb1 : Below wr.heap.size wr w1 := by rw [hw1]; exact below_new _ _
      have HJ1 : Hid (J (live (es.take i)) w1) := (show J _ _ from HJ.out _ _ _ HJp.out (Stp.all hb1 hws) hws)
      have HC1 : Hid (Chg (fun A k => R A k ∨ k = l) W w1) := (show Chg _ _ _ from HCh.out.of_below (HDY.out.or _) (hb1.mono hws) (Nat.le_refl _) (Nat.le_refl _))
      cases b with
      | true =>
        have HJ2 : Hid (J (live (es.take (i + 1))) w1) := (show J _ _ by rw [hT, if_pos rfl, List.append_nil]; exact HJ1.out)
        rw [hw1] at HJ2 HC1
        clear hw1 hb1 HJ1 hcs hcw hgb hgR hE hT HJp HCh HY HJx HJ hD
        gi_wp2_with fail
        refine ⟨fun f hf => (nomatch hf), ?_⟩
        gi_wp2_with fail
        go_roundw
        case rel => exact ⟨i + 1, by go_num, by omega, HJ2, HC1⟩
        case measure => simp [intOf]; omega
      | false =>
        have hy0 := HY.out (live (es.take i)) p w1 HJ1.out (by have := hb1.size; omega) (by have := live_pre es (i + 1); rw [hT] at this; simpa using this)
        rw [hw1] at hy0
        obtain ⟨fn, tmps, asg, bd, hy, hRd⟩ := hy0
        have HRR := Lib.hid hRd
        have HT : Hid (live (es.take (i + 1)) = live (es.take i) ++ [p]) := (show _ = _ by rw [hT]; rfl)
        rw [hw1] at HC1
        clear hw1 hb1 HJ1 hcs hcw hgb hgR hE hT HJp HCh HY HJx HJ hD hRd
        gi_wp2_with fail
        refine ⟨fun h => by simp [Fence.wide] at h, HRR.out.mono ?_⟩
        clear HRR
        rintro e W4 ⟨hc4, (⟨rfl, hJ4⟩ | ⟨rfl, hJx4⟩)⟩
        · have HJ4 : Hid (J (live (es.take (i + 1))) W4) := (show J _ _ by rw [HT.out]; exact hJ4)
          have HC4 := Lib.hid (HC1.out.trans hc4)
          clear hy hJ4 hc4
          gi_wp2_with fail
          go_roundw
          case rel => exact ⟨i + 1, by go_num, by omega, HJ4, HC4⟩
          case measure => simp [intOf]; omega
        · have HC4 := Lib.hid (HC1.out.trans hc4)
          have HX4 := Lib.hid hJx4
          clear hy hc4 hJx4
          gi_wp2_with fail
          refine bodyPost_ret (results_none rfl _ _ _) rfl ?_
          exact ⟨⟨_, rfl⟩, HC4.out, Or.inr ⟨_, HX4.out⟩⟩
    · obtain rfl : i = m := by omega
      have HF : Hid ((∃ xs, xs = live es ∧ J xs wr) ∨ (∃ pre, Jx pre wr)) := (show _ ∨ _ from Or.inl ⟨_, rfl, by have h := HJp.out; rw [List.take_of_length_le (by have := HM.out; omega)] at h; exact h⟩)
      clear HJp HY HJx HJ hD
      gi_wp2_with fail
      go_end0
      exact ⟨⟨_, rfl⟩, HCh.out, HF.out⟩
theorem each_gives (n : Nat) (v : Value) (es : List Ent) (he : es.length ≤ 50000) (R : World → Nat → Prop) (w : World) (hD : Dyn R w.heap.size) (hrow : w.ownsRow 0 75 7 v es.length (es.flatMap cE)) (hv : ∀ g, v.ownBlock = some g → ¬ R w g) :
    GivesB Fence.wide n Try.prog 39 #[v] #[] encP (fun q => q <+: live es) (fun q => q = live es) R w := by
  intro l J Jx W hl hlW hW hnl hr1 hJ hJx hY hJ0
  have hlt := fun g hg => (hrow.lt g hg).2
  have hrow' : W.ownsRow 0 75 7 v es.length (es.flatMap cE) := by
    refine ⟨hrow.1, ?_⟩
    rcases hrow.2 with hn | ⟨g, cap, cur, hv, hbg, hg, rest⟩
    · exact .inl hn
    · exact .inr ⟨g, cap, cur, hv, hbg, (hW.block g (Array.getElem?_eq_some_iff.1 hg).1).trans hg, rest⟩
  exact each_core n v es he l J Jx R W hrow' (fun g hg => ⟨fun e => hv g hg (hD _ _ hW _ e), by have := hlt g hg; omega⟩) (hD.mono hW.size) hlW hJ hJx hY hJ0
end Go.Proofs.Ytaghkidelbepnaa
