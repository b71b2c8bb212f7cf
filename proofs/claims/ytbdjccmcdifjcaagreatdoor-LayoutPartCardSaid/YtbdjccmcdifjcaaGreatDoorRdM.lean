/-
  What the reader's stacks do, and how it tells a token, at this program.
-/
import Derived.Test.YtbdjccmcdifjcaaGreatDoorRd
import Derived.Deep.RegionHeld3
import Derived.Deep.AppendLies
import Derived.Deep.RegionLaw
import Derived.BigRegion
import Derived.Deep.QuietTactic
import Derived.BigQuiet
import Derived.Handy
set_option linter.unusedVariables false
set_option linter.unusedSimpArgs false
namespace Go.Proofs.YtbdjccmcdifjcaaGreatDoor
open Go.RowKit Go.Shelf

set_option maxHeartbeats 4000000 in
set_option maxRecDepth 100000 in
theorem tell_any (n B b : Nat) (v5 v6 v7 : Value) (out opn : List T4) (bs : List Nat) (k at_ : Int) (w : World) (h : Rd B b v5 v6 v7 out opn bs w) (hn : n ≤ B) (hnb : n ≤ b) (hB : B ≤ w.heap.size) (hl : out.length ≤ 1000000000) :
    Calls Tryz.prog 41 #[.pointer (some ⟨b, 0, none⟩), .int .i64 k, .int .i64 at_] w fun e w' => e = .returned (.tuple #[]) ∧ ∃ v', Rd B b v' v6 v7 (out ++ [Sp.mark k at_]) opn bs w' ∧ Kp n b B w w' := by
  obtain ⟨i0, hi, hz0, hz1, hz2⟩ := info_parts infoTok
  obtain ⟨c0, u1, u2, f0, u3, u4⟩ := h.cells
  clear u1 u2 u3 u4
  have h0 := h.below ((Below.refl w.heap.size w).alloc (Nat.le_refl _) (.cells #[.int .i64 k, .int .i64 at_, .string ⟨#[]⟩, .int .i64 0] 37))
  have hown : (w.alloc (.cells #[.int .i64 k, .int .i64 at_, .string ⟨#[]⟩, .int .i64 0] 37)).ownsRow B 37 4 v5 out.length (out.flatMap c4) := h0.out
  have HR := Lib.hid h0
  have hlt := h.lt
  clear h h0
  go_enter Tryz.func41, Tryz.ntmps41
  go_wp2_with (at_builtin; refine wpList_append_own _ rfl _ _ 25 rfl B 37 i0 (.agg #[.int .i64 0, .int .i64 0, .string ⟨#[]⟩, .int .i64 0]) 4 40 Tryz.underlying25 hi hz0 hz1 hz2 rfl (by decide) _ _ _ rfl hown ⟨w.heap.size, 0, none⟩ 1 1 [.int .i64 k, .int .i64 at_, .string ⟨#[]⟩, .int .i64 0] rfl rfl ?c1 ?c2 ?c3 ?c4 ?c5 ?_)
  case c1 =>
    intro j u hj
    match j, hj with
    | 0, hj => simp at hj; subst hj; simp [Addr.add]
    | 1, hj => simp at hj; subst hj; simp [Addr.add]
    | 2, hj => simp at hj; subst hj; simp [Addr.add]
    | 3, hj => simp at hj; subst hj; simp [Addr.add]
  case c2 => intro u hu; simp at hu; rcases hu with rfl | rfl | rfl | rfl <;> rfl
  case c3 => unfold maxLen; omega
  case c4 => omega
  case c5 => simp; omega
  intro v' w2 hown' hgrow hnil
  clear hnil
  obtain ⟨g', cap', rfl⟩ := ownsRow_succ hown'
  have HN := Lib.hid (HR.out.set5 (out' := out ++ [Sp.mark k at_]) (by unfold Row4; rw [List.length_append, List.flatMap_append]; exact hown') hgrow)
  have hb2 : w2.heap[b]? = (w.alloc (.cells #[.int .i64 k, .int .i64 at_, .string ⟨#[]⟩, .int .i64 0] 37)).heap[b]? := hgrow.block b (by simp; omega) (fun e => apart_reader HR.out.out HR.out.heap (by decide) e.symm)
  have hb3 := hb2.trans (Below.heap_alloc w _ b hlt)
  have c0' := (World.cell?_of_block (a := ⟨b, 0, none⟩) hb3).trans c0
  have f0' := (World.frozen?_of_block (a := ⟨b, 0, none⟩) hb3).trans f0
  have HK := Lib.hid ((((Kp.refl (b := b) (B := B) n w).alloc (by omega) (.cells #[.int .i64 k, .int .i64 at_, .string ⟨#[]⟩, .int .i64 0] 37)).grown hown hn (by simp; omega) hgrow).setCell ⟨b, 0, none⟩ hnb (.slice (some ⟨g', 0, none⟩) (out.length + 1) cap'))
  clear hown' hgrow hb2 hb3 HR hown c0 f0
  go_wp2_with fail
  go_end0
  exact ⟨rfl, _, HN.out, HK.out⟩

theorem Rd.of_heap {B b : Nat} {v5 v6 v7 : Value} {out opn : List T4} {bs : List Nat} {w w' : World} (h : Rd B b v5 v6 v7 out opn bs w) (e : w'.heap = w.heap) : Rd B b v5 v6 v7 out opn bs w' := by
  refine ⟨by rw [e]; exact h.heap, ?_, ?_, ?_⟩
  · have := h.out; unfold Row4 World.ownsRow at *; rw [e]; exact this
  · have := h.opn; unfold RowB World.ownsRow at *; rw [e]; exact this
  · have := h.blk; unfold RowI World.ownsRow at *; rw [e]; exact this
theorem Kp.of_heap {n b B : Nat} {w w1 w2 : World} (h : Kp n b B w w1) (e : w2.heap = w1.heap) (eo : w2.os = w1.os) (et : w2.tape = w1.tape) (eu : w2.output = w1.output) : Kp n b B w w2 :=
  h.trans ⟨by constructor <;> simp [*], ⟨by rw [e]; exact Nat.le_refl _, fun k o hk _ => by rw [e]; exact hk⟩, fun _ _ _ => by rw [e]⟩

set_option maxHeartbeats 4000000 in
set_option maxRecDepth 100000 in
theorem topI_any (B : Nat) (v : Value) (bs : List Nat) (w : World) (h : RowI B v bs.reverse w) (hl : bs.length ≤ 1000000000) :
    Calls Tryz.prog 58 #[v] w fun e w' => e = .returned (.int .i64 ((bs.headD 0 : Nat) : Int)) ∧ w' = w := by
  obtain ⟨pa, cap, rfl, hcap, hc⟩ := h.any
  cases bs with
  | nil =>
    clear hc
    go_enter Tryz.func58, Tryz.ntmps58
    go_wp2
    go_ret
    exact ⟨rfl, rfl⟩
  | cons x xs =>
    obtain ⟨m, hm⟩ : ∃ m, m = xs.length := ⟨_, rfl⟩
    have hrl : (x :: xs).reverse.length = m + 1 := by rw [List.length_reverse, List.length_cons, hm]
    have hlast : (x :: xs).reverse[m]? = some x := by
      rw [List.reverse_cons, List.getElem?_append_right (by rw [List.length_reverse]; omega), List.length_reverse, hm]
      simp
    obtain ⟨g, rfl, hg, _, hcell⟩ := hc m x hlast
    rw [hrl] at hcap ⊢
    have g1 : ((m : Int) + 1 == 0) = false := by simp; omega
    have hml : m + 1 ≤ 1000000000 := by rw [hm]; simpa using hl
    clear hc hlast hrl h hm hl
    go_enter Tryz.func58, Tryz.ntmps58
    go_wp2
    go_ret
    exact ⟨rfl, rfl⟩

set_option maxHeartbeats 4000000 in
set_option maxRecDepth 100000 in
theorem pushI_any (n B b x : Nat) (v5 v6 v7 : Value) (out opn : List T4) (bs : List Nat) (w : World) (h : Rd B b v5 v6 v7 out opn bs w) (hn : n ≤ B) (hnb : n ≤ b) (hB : B ≤ w.heap.size) (hl : bs.length ≤ 1000000000) :
    Calls Tryz.prog 59 #[.pointer (some ⟨b, 2, none⟩), .int .i64 (x : Int)] w fun e w' => e = .returned (.tuple #[]) ∧ ∃ v', Rd B b v5 v6 v' out opn (x :: bs) w' ∧ Kp n b B w w' := by
  obtain ⟨i0, hi, hz0, hz1, hz2⟩ := info_parts infoInt
  obtain ⟨u0, u1, c0, u2, u3, f0⟩ := h.cells
  clear u0 u1 u2 u3
  have h0 := h.below ((Below.refl w.heap.size w).alloc (Nat.le_refl _) (.cells #[.int .i64 (x : Int)] 3))
  have hown : (w.alloc (.cells #[.int .i64 (x : Int)] 3)).ownsRow B 3 1 v7 bs.reverse.length (intRow bs.reverse) := h0.blk
  have hrl : bs.reverse.length = bs.length := List.length_reverse
  rw [hrl] at hown
  have HR := Lib.hid h0
  have hlt := h.lt
  clear h h0
  go_enter Tryz.func59, Tryz.ntmps59
  go_wp2_with (at_builtin; refine wpList_append_own _ rfl _ _ 52 rfl B 3 i0 (.int .i64 0) 1 8 Tryz.underlying52 hi hz0 hz1 hz2 rfl (by decide) _ _ _ rfl hown ⟨w.heap.size, 0, none⟩ 1 1 [.int .i64 (x : Int)] rfl rfl ?c1 ?c2 ?c3 ?c4 ?c5 ?_)
  case c1 =>
    intro j u hj
    match j, hj with
    | 0, hj => simp at hj; subst hj; simp [Addr.add]
  case c2 => intro u hu; simp at hu; subst hu; rfl
  case c3 => unfold maxLen; omega
  case c4 => omega
  case c5 => simp; omega
  intro v' w2 hown' hgrow hnil
  clear hnil
  obtain ⟨g', cap', rfl⟩ := ownsRow_succ hown'
  have HN := Lib.hid (HR.out.set7 (bs' := x :: bs) (by unfold RowI; rw [List.reverse_cons, List.length_append, hrl]; unfold intRow at hown' ⊢; rw [List.map_append]; exact hown') hgrow)
  have hb2 : w2.heap[b]? = (w.alloc (.cells #[.int .i64 (x : Int)] 3)).heap[b]? := hgrow.block b (by simp; omega) (fun e => apart_reader HR.out.blk HR.out.heap (by decide) e.symm)
  have hb3 := hb2.trans (Below.heap_alloc w _ b hlt)
  have c0' := (World.cell?_of_block (a := ⟨b, 2, none⟩) hb3).trans c0
  have f0' := (World.frozen?_of_block (a := ⟨b, 2, none⟩) hb3).trans f0
  have HK := Lib.hid ((((Kp.refl (b := b) (B := B) n w).alloc (by omega) (.cells #[.int .i64 (x : Int)] 3)).grown hown hn (by simp; omega) hgrow).setCell ⟨b, 2, none⟩ hnb (.slice (some ⟨g', 0, none⟩) (bs.length + 1) cap'))
  clear hown' hgrow hb2 hb3 HR hown c0 f0
  go_wp2_with fail
  go_end0
  exact ⟨rfl, _, HN.out, HK.out⟩

set_option maxHeartbeats 4000000 in
set_option maxRecDepth 100000 in
theorem popI_any (n B b x : Nat) (v5 v6 v7 : Value) (out opn : List T4) (bs : List Nat) (w : World) (h : Rd B b v5 v6 v7 out opn (x :: bs) w) (hnb : n ≤ b) (hl : bs.length ≤ 1000000000) :
    Calls Tryz.prog 60 #[.pointer (some ⟨b, 2, none⟩)] w fun e w' => e = .returned (.tuple #[]) ∧ ∃ v', Rd B b v5 v6 v' out opn bs w' ∧ Kp n b B w w' := by
  obtain ⟨m, hm⟩ : ∃ m, m = bs.length := ⟨_, rfl⟩
  have hrl : (x :: bs).reverse.length = m + 1 := by rw [List.length_reverse, List.length_cons, hm]
  have htk : (x :: bs).reverse.take m = bs.reverse := by rw [List.reverse_cons, List.take_left' (by rw [List.length_reverse, hm])]
  obtain ⟨pa, cap, rfl, hcap, hc⟩ := h.blk.any
  have hlast : (x :: bs).reverse[m]? = some x := by
    rw [List.reverse_cons, List.getElem?_append_right (by rw [List.length_reverse]; omega), List.length_reverse, hm]
    simp
  obtain ⟨g, rfl, _, _, _⟩ := hc m x hlast
  have hsh := RowI.shrink (g := g) (cap := cap) (m := m) (by have := h.blk; rw [hrl] at this; exact this) hrl
  rw [htk] at hsh
  have HN := Lib.hid (h.set7 (bs' := bs) hsh (grown_refl w _))
  have HK := Lib.hid ((Kp.refl (b := b) (B := B) n w).setCell ⟨b, 2, none⟩ hnb (.slice (some ⟨g, 0, none⟩) m cap))
  obtain ⟨u0, u1, c0, u2, u3, f0⟩ := h.cells
  rw [hrl] at hcap c0
  have hml : m ≤ 1000000000 := by omega
  have hi1 : (0 : Int) ≤ (m : Int) := by omega
  have hi2 : (m : Int) ≤ (cap : Int) := by omega
  have hwm : IntKind.i64.wrap (m : Int) = (m : Int) := IntWalk.i64_in _ (by omega)
  clear u0 u1 u2 u3 h hc hlast hrl htk hm hsh
  go_enter Tryz.func60, Tryz.ntmps60
  go_wp2
  go_region
  all_goals (go_end0; exact ⟨rfl, _, HN.out.of_heap rfl, HK.out.of_heap rfl rfl rfl rfl⟩)

theorem emptyB_any (B : Nat) (v : Value) (opn : List T4) (w : World) (h : RowB B v opn.reverse w) :
    Calls Tryz.prog 37 #[v] w fun e w' => e = .returned (.bool (decide (opn = []))) ∧ w' = w := by
  obtain ⟨pa, cap, rfl, hcap, hc⟩ := h.form
  clear hc
  cases opn with
  | nil =>
    go_enter Tryz.func37, Tryz.ntmps37
    go_wp2
    go_ret
    exact ⟨rfl, rfl⟩
  | cons x xs =>
    obtain ⟨m, hm⟩ : ∃ m, m = xs.length := ⟨_, rfl⟩
    have hrl : (x :: xs).reverse.length = m + 1 := by rw [List.length_reverse, List.length_cons, hm]
    rw [hrl]
    have g1 : ((m : Int) + 1 == 0) = false := by simp; omega
    clear hrl hcap hm h
    go_enter Tryz.func37, Tryz.ntmps37
    go_wp2
    go_ret
    exact ⟨ret_bool (by simp), rfl⟩

set_option maxHeartbeats 4000000 in
set_option maxRecDepth 100000 in
theorem topB_any (B : Nat) (v : Value) (opn : List T4) (w : World) (h : RowB B v opn.reverse w) (hl : opn.length ≤ 1000000000) :
    Calls Tryz.prog 42 #[v] w fun e w' => e = .returned (.agg #[.int .i64 (opn.head?.elim 0 fun o => o.2.1), .string ⟨(opn.head?.elim [] fun o => Sp.closer o).toArray⟩]) ∧ Below w.heap.size w w' := by
  obtain ⟨pa, cap, rfl, hcap, hc⟩ := h.form
  cases opn with
  | nil =>
    clear hc
    go_enter Tryz.func42, Tryz.ntmps42
    go_wp2
    go_returns
    exact ⟨rfl, ((Below.refl _ w).alloc (Nat.le_refl _) _).alloc (by simp) _⟩
  | cons x xs =>
    obtain ⟨m, hm⟩ : ∃ m, m = xs.length := ⟨_, rfl⟩
    have hrl : (x :: xs).reverse.length = m + 1 := by rw [List.length_reverse, List.length_cons, hm]
    have hlast : (x :: xs).reverse[m]? = some x := by
      rw [List.reverse_cons, List.getElem?_append_right (by rw [List.length_reverse]; omega), List.length_reverse, hm]
      simp
    obtain ⟨g, rfl, hg, _, a0, a1⟩ := hc m x hlast
    rw [hrl] at hcap ⊢
    have g1 : ((m : Int) + 1 == 0) = false := by simp; omega
    have hml : m + 1 ≤ 1000000000 := by rw [hm]; simpa using hl
    obtain ⟨cb, hcb⟩ : ∃ cb : ByteArray, cb = ⟨(Sp.closer x).toArray⟩ := ⟨_, rfl⟩
    have HCB := Lib.hid hcb
    rw [← hcb] at a1
    have b0 : ∀ o1 o2, ((w.alloc o1).alloc o2).cell? ⟨g, m * 2, none⟩ = some (.int .i64 x.2.1) := fun o1 o2 => by rw [World.cell?_alloc_lt _ _ _ (by simp; omega), World.cell?_alloc_lt _ _ _ hg]; exact a0
    have b1 : ∀ o1 o2, ((w.alloc o1).alloc o2).cell? ⟨g, m * 2 + 1, none⟩ = some (.string cb) := fun o1 o2 => by rw [World.cell?_alloc_lt _ _ _ (by simp; omega), World.cell?_alloc_lt _ _ _ hg]; exact a1
    clear hc hlast hrl h hm hl hcb a0 a1
    go_enter Tryz.func42, Tryz.ntmps42
    go_wp2
    go_returns
    rw [HCB.out]
    exact ⟨rfl, ((Below.refl _ w).alloc (Nat.le_refl _) _).alloc (by simp) _⟩

set_option maxHeartbeats 4000000 in
set_option maxRecDepth 100000 in
theorem popB_any (n B b : Nat) (x : T4) (v5 v6 v7 : Value) (out opn : List T4) (bs : List Nat) (w : World) (h : Rd B b v5 v6 v7 out (x :: opn) bs w) (hnb : n ≤ b) (hl : opn.length ≤ 1000000000) :
    Calls Tryz.prog 63 #[.pointer (some ⟨b, 1, none⟩)] w fun e w' => e = .returned (.tuple #[]) ∧ ∃ v', Rd B b v5 v' v7 out opn bs w' ∧ Kp n b B w w' ∧ Kt w w' := by
  obtain ⟨m, hm⟩ : ∃ m, m = opn.length := ⟨_, rfl⟩
  have hrl : (x :: opn).reverse.length = m + 1 := by rw [List.length_reverse, List.length_cons, hm]
  have htk : (x :: opn).reverse.take m = opn.reverse := by rw [List.reverse_cons, List.take_left' (by rw [List.length_reverse, hm])]
  obtain ⟨pa, cap, rfl, hcap, hc⟩ := h.opn.form
  have hlast : (x :: opn).reverse[m]? = some x := by
    rw [List.reverse_cons, List.getElem?_append_right (by rw [List.length_reverse]; omega), List.length_reverse, hm]
    simp
  obtain ⟨g, rfl, _, _, _⟩ := hc m x hlast
  have hsh := RowB.shrink (g := g) (cap := cap) (m := m) (by have := h.opn; rw [hrl] at this; exact this) hrl
  rw [htk] at hsh
  have HN := Lib.hid (h.set6 (opn' := opn) hsh (grown_refl w _))
  have HK := Lib.hid ((Kp.refl (b := b) (B := B) n w).setCell ⟨b, 1, none⟩ hnb (.slice (some ⟨g, 0, none⟩) m cap))
  have HT := Lib.hid (Kt.setReader (i := 1) h.heap (.slice (some ⟨g, 0, none⟩) m cap))
  obtain ⟨u0, c0, u1, u2, f0, u3⟩ := h.cells
  rw [hrl] at hcap c0
  have hml : m ≤ 1000000000 := by omega
  have hi1 : (0 : Int) ≤ (m : Int) := by omega
  have hi2 : (m : Int) ≤ (cap : Int) := by omega
  have hwm : IntKind.i64.wrap (m : Int) = (m : Int) := IntWalk.i64_in _ (by omega)
  clear u0 u1 u2 u3 h hc hlast hrl htk hm hsh
  go_enter Tryz.func63, Tryz.ntmps63
  go_wp2
  go_region
  all_goals (go_end0; exact ⟨rfl, _, HN.out.of_heap rfl, HK.out.of_heap rfl rfl rfl rfl, HT.out.of_heap rfl⟩)

set_option maxHeartbeats 4000000 in
set_option maxRecDepth 100000 in
theorem pushB_any (n B b : Nat) (x : T4) (c : ByteArray) (hcl : c.data.toList = Sp.closer x) (v5 v6 v7 : Value) (out opn : List T4) (bs : List Nat) (w : World) (h : Rd B b v5 v6 v7 out opn bs w) (hn : n ≤ B) (hnb : n ≤ b) (hB : B ≤ w.heap.size) (hl : opn.length ≤ 1000000000) :
    Calls Tryz.prog 62 #[.pointer (some ⟨b, 1, none⟩), .agg #[.int .i64 x.2.1, .string c]] w fun e w' => e = .returned (.tuple #[]) ∧ ∃ v', Rd B b v5 v' v7 out (x :: opn) bs w' ∧ Kp n b B w w' ∧ Kt w w' := by
  obtain ⟨i0, hi, hz0, hz1, hz2⟩ := info_parts infoBr
  obtain ⟨u0, c0, u1, u2, f0, u3⟩ := h.cells
  clear u0 u1 u2 u3
  have hlt := h.lt
  have hrl : opn.reverse.length = opn.length := List.length_reverse
  have HR := Lib.hid h
  have hown : ∀ W : World, W.heap = ((w.alloc (.cells #[.int .i64 x.2.1, .string c] 75)).alloc (.cells #[.int .i64 x.2.1, .string c] 75)).heap → W.ownsRow B 75 2 v6 opn.length (opn.reverse.flatMap c2) := by
    intro W e
    have h1 := (h.below (((Below.refl w.heap.size w).alloc (Nat.le_refl _) (.cells #[.int .i64 x.2.1, .string c] 75)).alloc (by simp) (.cells #[.int .i64 x.2.1, .string c] 75))).of_heap e
    have h2 := h1.opn
    unfold RowB at h2
    rw [hrl] at h2
    exact h2
  have hnews : ∀ W : World, W.heap = ((w.alloc (.cells #[.int .i64 x.2.1, .string c] 75)).alloc (.cells #[.int .i64 x.2.1, .string c] 75)).heap → ∀ (j : Nat) (u : Value), [Value.int .i64 x.2.1, .string c][j]? = some u → W.cell? ((⟨w.heap.size + 1, 0, none⟩ : Addr).add j) = some u := by
    intro W e j u hj
    have e1 : W.heap[w.heap.size + 1]? = some (.cells #[.int .i64 x.2.1, .string c] 75) := by
      rw [e]
      have := World.alloc_heap_new (w.alloc (.cells #[.int .i64 x.2.1, .string c] 75)) (.cells #[.int .i64 x.2.1, .string c] 75)
      rwa [World.size_alloc] at this
    match j, hj with
    | 0, hj => simp at hj; subst hj; simp [Addr.add, World.cell?, e1]
    | 1, hj => simp at hj; subst hj; simp [Addr.add, World.cell?, e1]
  have hone : ∀ u ∈ [Value.int .i64 x.2.1, .string c], u.oneCell' = true := by intro u hu; simp at hu; rcases hu with rfl | rfl <;> rfl
  have hfin : ∀ (W w1 : World) (g cap : Nat), W.heap = ((w.alloc (.cells #[.int .i64 x.2.1, .string c] 75)).alloc (.cells #[.int .i64 x.2.1, .string c] 75)).heap → W.os = w.os → W.tape = w.tape → W.output = w.output → w1.ownsRow B 75 2 (.slice (some ⟨g, 0, none⟩) (opn.length + 1) cap) (opn.length + 1) (opn.reverse.flatMap c2 ++ [Value.int .i64 x.2.1, .string c]) → W.grownBy w1 v6.ownBlock →
      w1.cell? ⟨b, 1, none⟩ = some v6 ∧ w1.frozen? ⟨b, 1, none⟩ = false ∧ Hid (Rd B b v5 (.slice (some ⟨g, 0, none⟩) (opn.length + 1) cap) v7 out (x :: opn) bs (w1.setCell ⟨b, 1, none⟩ (.slice (some ⟨g, 0, none⟩) (opn.length + 1) cap))) ∧ Hid (Kp n b B w (w1.setCell ⟨b, 1, none⟩ (.slice (some ⟨g, 0, none⟩) (opn.length + 1) cap))) ∧ Hid (Kt w (w1.setCell ⟨b, 1, none⟩ (.slice (some ⟨g, 0, none⟩) (opn.length + 1) cap))) := by
    intro W w1 g cap e eo et eu ho1 hgrow
    have hRW := (h.below (((Below.refl w.heap.size w).alloc (Nat.le_refl _) (.cells #[.int .i64 x.2.1, .string c] 75)).alloc (by simp) (.cells #[.int .i64 x.2.1, .string c] 75))).of_heap e
    have hb3 : w1.heap[b]? = W.heap[b]? := hgrow.block b hRW.lt (fun e => apart_reader hRW.opn hRW.heap (by decide) e.symm)
    obtain ⟨_, d0, _, _, g0, _⟩ := hRW.cells
    have hc2 : c2 x = [Value.int .i64 x.2.1, .string c] := by
      unfold c2
      rw [← hcl, Sp.Bs_bytes]
    have hR' : RowB B (.slice (some ⟨g, 0, none⟩) (opn.length + 1) cap) (x :: opn).reverse w1 := by
      unfold RowB
      rw [List.reverse_cons, List.length_append, List.flatMap_append, hrl]
      simp only [List.flatMap_cons, List.flatMap_nil, List.append_nil, hc2]
      exact ho1
    have hK0 : Kp n b B w W := (((Kp.refl (b := b) (B := B) n w).alloc (by omega) (.cells #[.int .i64 x.2.1, .string c] 75)).alloc (by simp; omega) (.cells #[.int .i64 x.2.1, .string c] 75)).of_heap e eo et eu
    exact ⟨(World.cell?_of_block (a := ⟨b, 1, none⟩) hb3).trans d0, (World.frozen?_of_block (a := ⟨b, 1, none⟩) hb3).trans g0, hRW.set6 hR' hgrow, (hK0.grown hRW.opn hn (Nat.le_trans (by omega) hK0.1.size) hgrow).setCell ⟨b, 1, none⟩ hnb _, ((((Kt.of_below ((Below.refl w.heap.size w).alloc (Nat.le_refl _) (.cells #[.int .i64 x.2.1, .string c] 75))).trans (Kt.of_below ((Below.refl _ _).alloc (Nat.le_refl _) (.cells #[.int .i64 x.2.1, .string c] 75)))).of_heap e).trans (Kt.grown hRW.opn (by decide) hgrow)).trans (Kt.setReader (hb3.trans hRW.heap) _)⟩
  have HF := Lib.hid hfin
  have HO := Lib.hid hown
  have HW := Lib.hid hnews
  have HE := Lib.hid hone
  have h63 : opn.length + 1 ≤ maxLen := by unfold maxLen; omega
  have H63 := Lib.hid h63
  have hby : (opn.length + 1) * 24 ≤ 140737488355328 := by omega
  have b0 : ∀ o1 o2, ((w.alloc o1).alloc o2).cell? ⟨b, 1, none⟩ = some v6 := fun o1 o2 => by rw [World.cell?_alloc_lt _ _ _ (by simp; omega), World.cell?_alloc_lt _ _ _ hlt]; exact c0
  clear hfin hown hnews hone h hcl h63 hrl
  go_enter Tryz.func62, Tryz.ntmps62
  go_wp2
  go_region_law ((refine step_append_lies _ (by rfl) _ _ _ (by rfl) B 75 i0 (.agg #[.int .i64 0, .string ⟨#[]⟩]) 2 24 Tryz.underlying51 hi hz0 hz1 hz2 (by rfl) (by decide) v6 opn.length (opn.reverse.flatMap c2) (by rfl) (HO.out _ (by rfl)) ⟨w.heap.size + 1, 0, none⟩ 1 1 [.int .i64 x.2.1, .string c] (by rfl) (by rfl) (HW.out _ (by rfl)) HE.out (by decide) H63.out hby (by simp; omega) _ rfl ?_; intro g cap w1 hown1 hgrow hat hlt1; obtain ⟨c1, f1, HN, HK, HT⟩ := HF.out _ w1 g cap (by rfl) (by rfl) (by rfl) (by rfl) hown1 hgrow; clear hown1 hgrow hat hlt1))
  all_goals (go_end0; exact ⟨rfl, _, HN.out.of_heap rfl, HK.out.of_heap rfl rfl rfl rfl, HT.out.of_heap rfl⟩)
end Go.Proofs.YtbdjccmcdifjcaaGreatDoor
