/-
  Split of the program's package text, at this program.
-/
import Derived.Test.YtcpjogjkjbillaaTxRf
import Derived.Maps.OwnIn
import Derived.RangeFuncBox
set_option linter.unusedVariables false
set_option linter.unusedSimpArgs false
namespace Go.Proofs.Ytcpjogjkjbillaa
open Go.RowKit Go.Shelf
attribute [local go_sem] Oper.semAt_some

theorem results_two {fn : Func} {p q : Tmp} (h : fn.results = #[.cell p 31, .cell q 9]) (tmps : Array Value) (w : World) (H K : Nat) (u v : Value) (hp : tmps.getD p undef = .pointer (some ⟨H, 0, none⟩)) (hq : tmps.getD q undef = .pointer (some ⟨K, 0, none⟩)) (hc : w.cell? ⟨H, 0, none⟩ = some u) (hd : w.cell? ⟨K, 0, none⟩ = some v) :
    (results fn tmps).run Try.prog w = .ok (.tuple #[u, v]) w := by
  have hp' : tmps[p]?.getD undef = .pointer (some ⟨H, 0, none⟩) := by simpa using hp
  have hq' : tmps[q]?.getD undef = .pointer (some ⟨K, 0, none⟩) := by simpa using hq
  simp [results, h, hp', hq', asAddr, go_sem, hc, hd]
/-- The row in a box, and the box. -/
def RowBoxS (B : Nat) (A : World) (k : Nat) : Prop := k = B ∨ (B ≤ k ∧ ∃ o n c, A.cell? ⟨B, 0, none⟩ = some (.slice (some ⟨k, o, none⟩) n c))
theorem RowBoxS.dyn {B C : Nat} (h : B < C) : Dyn (RowBoxS B) C := fun A A' hb k hk => by
  rcases hk with hk | ⟨h1, o, n, c, hk⟩
  · exact Or.inl hk
  · exact Or.inr ⟨h1, o, n, c, (hb.cell (p := ⟨B, 0, none⟩) h).symm.trans hk⟩
/-- What came so far, in the box's row. -/
def CameS (B : Nat) (q : List Tx.Bs) (A : World) : Prop := ∃ v, Boxed A B 31 v ∧ A.ownsRow B 9 1 v q.length (scells q)
theorem CameS.lt {B : Nat} {q : List Tx.Bs} {A : World} (h : CameS B q A) {k : Nat} (hk : RowBoxS B A k) : k < A.heap.size := by
  obtain ⟨v, hb, hr⟩ := h
  rcases hk with rfl | ⟨h1, o, n, c, hk⟩
  · exact hb.lt
  · rw [hb.cell] at hk
    injection hk with hk
    subst hk
    exact (hr.lt k rfl).2
theorem CameS.kept {B : Nat} {q : List Tx.Bs} {A A' : World} (h : CameS B q A) (hs : ∀ k, k < A.heap.size → RowBoxS B A k → A'.heap[k]? = A.heap[k]?) : CameS B q A' := by
  obtain ⟨v, hb, hr⟩ := h
  have h1 : A'.heap[B]? = A.heap[B]? := hs B hb.lt (Or.inl rfl)
  refine ⟨v, h1.trans hb, hr.1, ?_⟩
  rcases hr.2 with h2 | ⟨g, cap, cur, rfl, hg, hgb, r⟩
  · exact Or.inl h2
  · exact Or.inr ⟨g, cap, cur, rfl, hg, (hs g (Array.getElem?_eq_some_iff.1 hgb).1 (Or.inr ⟨hg, 0, _, _, hb.cell⟩)).trans hgb, r⟩
/-- What rounds of Split may turn: both results, the row's box, and the row. -/
abbrev SpR (b : Nat) : World → Nat → Prop := fun A k => RowBoxS (b + 2) A k ∨ k = b ∨ k = b + 1
/-- Between two rounds. -/
structure Spl (b : Nat) (q : List Tx.Bs) (A : World) : Prop where
  came : CameS (b + 2) q A
  c4 : A.cell? ⟨b, 0, none⟩ = some (.slice none 0 0)
  f4 : A.frozen? ⟨b, 0, none⟩ = false
  c5 : A.cell? ⟨b + 1, 0, none⟩ = some (.string ⟨#[]⟩)
  f5 : A.frozen? ⟨b + 1, 0, none⟩ = false
theorem Spl.sz {b : Nat} {q : List Tx.Bs} {A : World} (h : Spl b q A) : b + 2 < A.heap.size := by
  obtain ⟨v, hb, hr⟩ := h.came
  exact hb.lt
theorem Spl.step {b C : Nat} {q : List Tx.Bs} {A A' : World} (h : Spl b q A) (hs : Stp (SpR b) C A A') : Spl b q A' := by
  have hsz := h.sz
  have k4 : A'.heap[b]? = A.heap[b]? := hs.k b (by omega) (Or.inr (Or.inl rfl))
  have k5 : A'.heap[b + 1]? = A.heap[b + 1]? := hs.k (b + 1) (by omega) (Or.inr (Or.inr rfl))
  exact ⟨h.came.kept (fun k hk e => hs.k k hk (Or.inl e)), (World.cell?_of_block (a := ⟨b, 0, none⟩) k4).trans h.c4, (World.frozen?_of_block (a := ⟨b, 0, none⟩) k4).trans h.f4, (World.cell?_of_block (a := ⟨b + 1, 0, none⟩) k5).trans h.c5, (World.frozen?_of_block (a := ⟨b + 1, 0, none⟩) k5).trans h.f5⟩
set_option maxHeartbeats 8000000 in
set_option maxRecDepth 20000 in
theorem tSplit_is {s t : ByteArray} {r : List Tx.Bs} {e : Tx.Bs} (h : Hid (Tx.split s.data.toList t.data.toList = (r, e))) (hs : s.size ≤ 1000000) (ht : t.size ≤ 1000000) (w : World) :
    Calls Try.prog 26 #[.string s, .string t] w fun e' w' => ∃ v', e' = .returned (.tuple #[v', .string ⟨e.toArray⟩]) ∧ Hid (SRow v' r w') ∧ Hid (Below w.heap.size w w') := by
  obtain ⟨i0, hi, hz0, hz1, hz2⟩ := info_parts infoStr
  obtain ⟨W0, hW0⟩ : ∃ W, W = (w.alloc (.cells #[.slice none 0 0] 31)).alloc (.cells #[.string ⟨#[]⟩] 9) := ⟨_, rfl⟩
  have hb0 : Below w.heap.size w W0 := by rw [hW0]; exact ((Below.refl _ w).alloc (Nat.le_refl _) _).alloc (by simp) _
  have hs0 : W0.heap.size = w.heap.size + 2 := by rw [hW0]; simp
  have k4 : W0.cell? ⟨w.heap.size, 0, none⟩ = some (.slice none 0 0) := by rw [hW0, World.cell?_alloc_past _ _ _ (by simp), World.cell?_alloc_at _ _ _ _ rfl]; rfl
  have f4 : W0.frozen? ⟨w.heap.size, 0, none⟩ = false := by rw [hW0]; simp [go_sem]
  have k5 : W0.cell? ⟨w.heap.size + 1, 0, none⟩ = some (.string ⟨#[]⟩) := by rw [hW0, World.cell?_alloc_at _ _ _ _ (by simp)]; rfl
  have f5 : W0.frozen? ⟨w.heap.size + 1, 0, none⟩ = false := by rw [hW0]; simp [go_sem]
  have HW0 := Lib.hid hW0
  refine callsIn_wide.1 (callsIn_of_wp_marks (n := 3) Try.func26 rfl trivial ?_ rfl)
  simp only [Try.ntmps26, List.size_toArray, List.length_cons, List.length_nil, Nat.reduceAdd, Nat.reduceSub, Array.replicate_succ, Array.replicate_zero, List.push_toArray, List.append_toArray, List.nil_append, List.cons_append]
  by_cases h0 : t.data.toList = []
  · have hr : r = [] ∧ e = Tx.tVal := by
      have h1 := h.out
      unfold Tx.split at h1
      rw [if_pos h0] at h1
      injection h1 with h1 h2
      exact ⟨h1.symm, h2.symm⟩
    obtain ⟨rfl, rfl⟩ := hr
    have g0 : (t.toList == []) = true := by rw [ByteArray.toList_eq, h0]; rfl
    clear h h0 hb0 hs0
    rw [hW0] at k4 f4 k5 f5
    clear hW0
    gi_wp2_with fail
    refine ⟨_, results_two rfl _ _ w.heap.size (w.heap.size + 1) (.slice none 0 0) (.string ⟨Tx.tVal.toArray⟩) rfl rfl (by rw [World.cell?_alloc_past _ _ _ (by simp), World.cell?_alloc_at _ _ _ _ rfl]; rfl) (by rw [World.cell?_alloc_at _ _ _ _ (by simp)]; rfl), _, rfl, (show SRow _ _ _ from Or.inl ⟨⟨_, rfl⟩, rfl⟩), (show Below _ _ _ from ((Below.refl _ w).alloc (Nat.le_refl _) _).alloc (by simp) _)⟩
  · have g0 : (t.toList == []) = false := by rw [ByteArray.toList_eq]; simpa using h0
    obtain ⟨W3, hW3⟩ : ∃ W3, W3 = W0.alloc (.cells #[.slice none 0 0] 31) := ⟨_, rfl⟩
    have hb3 : Below W0.heap.size W0 W3 := by rw [hW3]; exact (Below.refl _ _).alloc (Nat.le_refl _) _
    have hs3 : W3.heap.size = w.heap.size + 3 := by rw [hW3, World.size_alloc, hs0]
    have hbx3 : Boxed W3 (w.heap.size + 2) 31 (.slice none 0 0) := by have h1 := Boxed.new W0 31 (.slice none 0 0); rw [hs0] at h1; rw [hW3]; exact h1
    have HPI := Lib.hid (pieces_is s t W3)
    have HW3 : Hid (W3 = ((w.alloc (.cells #[.slice none 0 0] 31)).alloc (.cells #[.string ⟨#[]⟩] 9)).alloc (.cells #[.slice none 0 0] 31)) := (show _ = _ by rw [hW3, hW0])
    rw [HW3.out] at HPI
    have HK4 := Lib.hid k4
    have HF4 := Lib.hid f4
    have HK5 := Lib.hid k5
    have HF5 := Lib.hid f5
    rw [hW0] at k4 f4 k5 f5
    clear hW0 hW3 HW0
    gi_wp2_with fail
    refine ⟨trivial, (callsIn_wide.2 HPI.out).mono ?_⟩
    clear HPI k4 f4 k5 f5
    rintro e1 W4 ⟨rfl, hW4⟩
    rw [← HW3.out] at hW4 ⊢
    obtain ⟨hb4, hs4, c1, c2⟩ := two_boxes s t W3 W4 hW4
    rw [hs3] at c1 c2 hs4
    have hb04 : Below W0.heap.size W0 W4 := hb3.trans (hb4.mono hb3.size)
    have hb : Below w.heap.size w W4 := hb0.trans (hb04.mono hb0.size)
    have hsp : Spl w.heap.size [] W4 := ⟨⟨.slice none 0 0, (hb4.block (w.heap.size + 2) (by omega)).trans hbx3, World.ownsRow_nil _ _ _ _⟩,
      (hb04.cell (p := ⟨w.heap.size, 0, none⟩) (by show w.heap.size < _; omega)).trans HK4.out, (hb04.frozen (p := ⟨w.heap.size, 0, none⟩) (by show w.heap.size < _; omega)).trans HF4.out,
      (hb04.cell (p := ⟨w.heap.size + 1, 0, none⟩) (by show w.heap.size + 1 < _; omega)).trans HK5.out, (hb04.frozen (p := ⟨w.heap.size + 1, 0, none⟩) (by show w.heap.size + 1 < _; omega)).trans HF5.out⟩
    have hDR : Dyn (SpR w.heap.size) W4.heap.size := (RowBoxS.dyn (by omega)).or (fun k => k = w.heap.size ∨ k = w.heap.size + 1)
    have hnr : ∀ k, w.heap.size + 3 ≤ k → ¬ SpR w.heap.size W4 k := fun k hk e => by
      rcases e with (e | ⟨_, o, m, c, e⟩) | e | e
      · omega
      · have := (hb4.cell (p := ⟨w.heap.size + 2, 0, none⟩) (by show w.heap.size + 2 < _; omega)).trans hbx3.cell
        rw [this] at e
        cases e
      · omega
      · omega
    have hg := pieces_gives (3 - 1) s t (up9j hs) (up9j ht) h0 (w.heap.size + 3) (w.heap.size + 3 + 1) (SpR w.heap.size) W4 hDR (by omega) (by omega) (hnr _ (by omega)) (hnr _ (by omega)) c2 c1
    have hlen1 := Tx.plcs_len (P := t.data.toList) (s := s.data.toList) h0
    have hh := h.out
    unfold Tx.split at hh
    rw [if_neg h0] at hh
    have hpp : Tx.pieces t.data.toList s.data.toList.length [] s.data.toList = Tx.pcs t.data.toList [] s.data.toList := rfl
    rw [hpp] at hh
    have hne := Tx.pcs_ne t.data.toList [] s.data.toList
    generalize Tx.pcs t.data.toList [] s.data.toList = PC at hg hh hne
    have HH := Lib.hid hh
    have HNE := Lib.hid hne
    have HSP := Lib.hid hsp
    clear hpp hlen1 hh hne c1 c2 hW4 HW3 HK4 HF4 HK5 HF5 h hb3 hbx3 hb04 hsp hnr
    gi_wp2_with fail
    refine wpIn_rangeFunc_R rfl (depthless9 rfl _) (gf := 48) (lb := #[.pointer (some ⟨w.heap.size + 3, 0, none⟩), .pointer (some ⟨w.heap.size + 3 + 1, 0, none⟩)]) rfl trivial (enters_of Try.func48 (by kernel_rfl) rfl)
      (R := SpR w.heap.size) hDR hg (fun _ => rfl)
      (fun q A => Hid (Spl w.heap.size q A) ∧ q.length ≤ 4096)
      (fun c q A => c = .ret ∧ 4096 < PC.length ∧ A.cell? ⟨w.heap.size, 0, none⟩ = some (.slice none 0 0) ∧ A.cell? ⟨w.heap.size + 1, 0, none⟩ = some (.string ⟨Tx.tMem.toArray⟩))
      (fun q A ⟨h1, _⟩ hs k e => by
        have := h1.out.sz
        rcases e with e | e | e
        · exact h1.out.came.lt e
        · omega
        · omega)
      (fun q A B ⟨h1, h2⟩ hST hs => ⟨(show Spl _ _ _ from h1.out.step hST), h2⟩)
      (fun c q A B ⟨u0, u1, u2, u3⟩ hB hs => ⟨u0, u1, (hB.cell (p := ⟨w.heap.size, 0, none⟩) (by show w.heap.size < _; omega)).trans u2, (hB.cell (p := ⟨w.heap.size + 1, 0, none⟩) (by show w.heap.size + 1 < _; omega)).trans u3⟩)
      ⟨HSP, Nat.zero_le _⟩
      (fun x => { tmps := #[.string s, .string t, undef, undef, .pointer (some ⟨w.heap.size, 0, none⟩), .pointer (some ⟨w.heap.size + 1, 0, none⟩), .pointer (some ⟨w.heap.size + 2, 0, none⟩), .string ⟨x.toArray⟩, .string t, .bool false, .string s, .string t, .func (.func 48) #[] #[.pointer (some ⟨w.heap.size + 3, 0, none⟩), .pointer (some ⟨w.heap.size + 3 + 1, 0, none⟩)], .string ⟨x.toArray⟩, undef, undef, undef, undef, undef, undef, undef, undef], defers := [] })
      ?assign ?body ?done ?stop
    case assign =>
      intro l x W' K hK
      gi_wp2
      exact hK
    case body =>
      rintro l2 q x A ⟨h1, hq⟩ hS hsz
      have hSP := h1.out
      obtain ⟨v, hbx, hr⟩ := hSP.came
      have hSl := hS.length_le
      rw [List.length_append, List.length_singleton] at hSl
      obtain ⟨pv, cv, rfl⟩ : ∃ pv cv, v = .slice pv q.length cv := by
        rcases hr.2 with ⟨e, hn⟩ | ⟨g, cap, cur, e, _⟩
        · exact ⟨none, 0, by rw [e, hn]⟩
        · exact ⟨_, cap, e⟩
      have hc := hbx.cell
      have a4 := hSP.c4
      have b4 := hSP.f4
      have a5 := hSP.c5
      have b5 := hSP.f5
      by_cases hfull : q.length = 4096
      · have hbig : 4096 < PC.length := by omega
        have hqn : ((q.length : Int) == 4096) = true := by rw [hfull]; rfl
        have HZ : Hid (∀ B, B = (A.setCell ⟨w.heap.size, 0, none⟩ (.slice none 0 0)).setCell ⟨w.heap.size + 1, 0, none⟩ (.string ⟨Tx.tMem.toArray⟩) → Chg (SpR w.heap.size) A B ∧ B.cell? ⟨w.heap.size, 0, none⟩ = some (.slice none 0 0) ∧ B.cell? ⟨w.heap.size + 1, 0, none⟩ = some (.string ⟨Tx.tMem.toArray⟩)) := (show ∀ _, _ from fun B hB => by
          subst hB
          have hD0 : Dyn (SpR w.heap.size) (w.heap.size + 3) := (RowBoxS.dyn (by omega)).or (fun k => k = w.heap.size ∨ k = w.heap.size + 1)
          refine ⟨⟨rfl, rfl, rfl, by simp [World.setCell], fun k hk hn => ?_⟩, ?_, ?_⟩
          · have n1 : k ≠ w.heap.size := fun e => hn (Or.inr (Or.inl e))
            have n2 : k ≠ w.heap.size + 1 := fun e => hn (Or.inr (Or.inr e))
            refine ⟨(Below.heap_setCell _ _ _ _ (by simpa using n2)).trans (Below.heap_setCell _ _ _ _ (by simpa using n1)), ?_⟩
            rintro ((e | ⟨e0, o, m, c, e⟩) | e | e)
            · exact hn (Or.inl (Or.inl e))
            · refine hn (Or.inl (Or.inr ⟨e0, o, m, c, ?_⟩))
              rw [World.cell?_of_block (w := A) ((Below.heap_setCell _ _ _ _ (by show w.heap.size + 2 ≠ w.heap.size + 1; omega)).trans (Below.heap_setCell _ _ _ _ (by show w.heap.size + 2 ≠ w.heap.size; omega)))] at e
              exact e
            · exact n1 e
            · exact n2 e
          · rw [World.cell?_of_block (w := A.setCell ⟨w.heap.size, 0, none⟩ (.slice none 0 0)) (Below.heap_setCell _ _ _ _ (by show w.heap.size ≠ w.heap.size + 1; omega))]
            exact World.cell?_setCell_same' _ _ _ (by rw [a4]; rfl)
          · refine World.cell?_setCell_same' _ _ _ ?_
            rw [World.cell?_of_block (w := A) (Below.heap_setCell _ _ _ _ (by show w.heap.size + 1 ≠ w.heap.size; omega)), a5]
            rfl)
        clear hg hS hSl h1 hSP hbx hr HH HNE HSP
        gi_wp2_with fail
        obtain ⟨z1, z2, z3⟩ := HZ.out _ rfl
        exact ⟨z1, rfl, hbig, z2, z3⟩
      · have hqn : ((q.length : Int) == 4096) = false := beq_eq_false_iff_ne.2 (by omega)
        obtain ⟨m, hm⟩ : ∃ m, q.length = m := ⟨_, rfl⟩
        have HM := Lib.hid hm
        have hr0 := hr
        rw [hm] at hr hqn hc hbx
        have hm2 : m < 4096 := by omega
        have hBA : w.heap.size + 2 ≤ A.heap.size := by omega
        have HBX := Lib.hid hbx
        have HR := Lib.hid hr
        have HS' := Lib.hid hSP
        clear hg hS hSl h1 hSP hr0 HH HNE HSP hm hq hfull
        gi_wp2_with (gi_at_builtin; refine wpListIn_append_own_at _ rfl _ _ 31 rfl (w.heap.size + 2) 9 i0 (.string ⟨#[]⟩) 1 16 Try.underlying31 hi hz0 hz1 hz2 rfl (by decide) _ _ _ rfl (HR.out.alloc _) ⟨A.heap.size, 0, none⟩ 1 1 [.string ⟨x.toArray⟩] rfl rfl (cell_one_new _ _ _) (by simp [Value.oneCell']) (by unfold maxLen; omega) (by omega) (by simp; omega) ?_; intro v' w1 hown' hgrow _ hloc; obtain ⟨g', cap', rfl⟩ := ownsRow_succ hown'; obtain ⟨hv1, hv2, hr2, hk2, hb2⟩ := HBX.out.appended (by decide) HR.out hBA (Nat.le_refl _) hown' hgrow; have hc1 := hv1.cell; have hf1 := hv1.frozen)
        have hgr : (A.alloc (.cells #[.string ⟨x.toArray⟩] 9)).grownBy w1 (Value.slice pv m cv).ownBlock := hgrow
        have hl2 : some g' = (Value.slice pv m cv).ownBlock ∨ some g' = some (A.alloc (.cells #[.string ⟨x.toArray⟩] 9)).heap.size := hloc
        have hown : ∀ j, (Value.slice pv m cv).ownBlock = some j → RowBoxS (w.heap.size + 2) A j := fun j hj => by
          refine Or.inr ⟨(HR.out.lt j hj).1, ?_⟩
          rcases HR.out.2 with ⟨e, _⟩ | ⟨g, cap, cur, e, _⟩
          · rw [e] at hj; simp [Value.ownBlock] at hj
          · rw [e] at hj
            simp only [Value.ownBlock, Option.some.injEq] at hj
            subst hj
            rw [HBX.out.cell, e]
            exact ⟨_, _, _, rfl⟩
        have hB : ∀ j, j < A.heap.size → ¬ RowBoxS (w.heap.size + 2) A j → (w1.setCell ⟨w.heap.size + 2, 0, none⟩ (.slice (some ⟨g', 0, none⟩) (m + 1) cap')).heap[j]? = A.heap[j]? := fun j hj hn => by
          rw [Below.heap_setCell w1 _ _ j (fun e => hn (Or.inl e)), hgr.block j (by simp; omega) (fun e => hn (hown j e.symm)), Below.heap_alloc A _ j hj]
        have n4 : ¬ RowBoxS (w.heap.size + 2) A w.heap.size := fun e => by rcases e with e | ⟨e, _⟩ <;> omega
        have n5 : ¬ RowBoxS (w.heap.size + 2) A (w.heap.size + 1) := fun e => by rcases e with e | ⟨e, _⟩ <;> omega
        have q4 := hB w.heap.size (by omega) n4
        have q5 := hB (w.heap.size + 1) (by omega) n5
        have hS2 := HS'.out
        refine ⟨⟨hb2.os, hb2.tape, hb2.output, hb2.size, fun j hj hn => ⟨hB j hj (fun e => hn (Or.inl e)), ?_⟩⟩, ⟨(show Spl _ _ _ from ⟨⟨_, hv2, ?_⟩, (World.cell?_of_block (a := ⟨w.heap.size, 0, none⟩) q4).trans hS2.c4, (World.frozen?_of_block (a := ⟨w.heap.size, 0, none⟩) q4).trans hS2.f4, (World.cell?_of_block (a := ⟨w.heap.size + 1, 0, none⟩) q5).trans hS2.c5, (World.frozen?_of_block (a := ⟨w.heap.size + 1, 0, none⟩) q5).trans hS2.f5⟩), by rw [List.length_append, List.length_singleton, HM.out]; omega⟩⟩
        · rintro ((e | ⟨_, o, n, c, hcell⟩) | e | e)
          · exact hn (Or.inl (Or.inl e))
          · rw [hv2.cell] at hcell
            injection hcell with hcell
            injection hcell with e1 e2 e3
            injection e1 with e1
            injection e1 with e1
            subst e1
            rcases hl2 with h | h
            · exact hn (Or.inl (hown _ h.symm))
            · simp at h; omega
          · exact hn (Or.inr (Or.inl e))
          · exact hn (Or.inr (Or.inr e))
        · have e1 : scells (q ++ [x]) = scells q ++ [.string ⟨x.toArray⟩] := by rw [scells, List.map_append]; rfl
          rw [List.length_append, List.length_singleton, HM.out, e1]
          simpa using hr2
    case done =>
      rintro q A rfl ⟨h1, hq⟩ hcA hK hnD
      have hbA : Below w.heap.size w A := hb.trans (hcA.below (by omega) (fun k hk e => by rcases e with (e | ⟨e, _⟩) | e | e <;> omega))
      have hSP := h1.out
      obtain ⟨v, hbx, hr⟩ := hSP.came
      have hh := HH.out
      rw [if_neg (by omega)] at hh
      injection hh with hr1 he1
      subst hr1
      subst he1
      have hv : v ≠ .slice none 0 0 := fun e => by
        rcases hr.2 with ⟨_, hn⟩ | ⟨g, cap, cur, e2, _⟩
        · exact HNE.out (List.length_eq_zero_iff.1 hn)
        · rw [e] at e2; cases e2
      have hkr : KRow (w.heap.size + 2) v q A := ⟨hr, hv⟩
      obtain ⟨g, cap, rfl, hcap, hg1, hg2⟩ := hkr.room
      obtain ⟨m, hm⟩ : ∃ m, q.length = m := ⟨_, rfl⟩
      have HM := Lib.hid hm
      rw [hm] at hbx hkr
      have hc := hbx.cell
      have hWs := (Array.getElem?_eq_some_iff.1 hK).1
      have a4 := hSP.c4
      have b4 := hSP.f4
      have a5 := hSP.c5
      have b5 := hSP.f5
      have hgW : g ≠ W4.heap.size := fun e => by
        rcases hkr.own.2 with ⟨e2, _⟩ | ⟨g2, cap2, cur, e2, _, hgb, _⟩
        · cases e2
        · injection e2 with e2
          injection e2 with e2
          injection e2 with e2
          rw [← e2, e, hK] at hgb
          cases hgb
      have HZ : Hid (∀ B, B = ((A.setCell ⟨w.heap.size, 0, none⟩ (.slice (some ⟨g, 0, none⟩) m cap)).setCell ⟨w.heap.size + 1, 0, none⟩ (.string ⟨#[]⟩)).putObj W4.heap.size (.deferred none) → B.cell? ⟨w.heap.size, 0, none⟩ = some (.slice (some ⟨g, 0, none⟩) m cap) ∧ B.cell? ⟨w.heap.size + 1, 0, none⟩ = some (.string ⟨#[]⟩) ∧ SRow (.slice (some ⟨g, 0, none⟩) m cap) q B ∧ Below w.heap.size w B) := (show ∀ _, _ from fun B hB => by
        subst hB
        have hblk : ∀ k, k ≠ w.heap.size → k ≠ w.heap.size + 1 → k ≠ W4.heap.size → (((A.setCell ⟨w.heap.size, 0, none⟩ (.slice (some ⟨g, 0, none⟩) m cap)).setCell ⟨w.heap.size + 1, 0, none⟩ (.string ⟨#[]⟩)).putObj W4.heap.size (.deferred none)).heap[k]? = A.heap[k]? := fun k m1 m2 m3 =>
          (World.putObj_heap_other (Ne.symm (Ne.symm m3))).trans ((Below.heap_setCell _ _ _ _ (by simpa using m2)).trans (Below.heap_setCell _ _ _ _ (by simpa using m1)))
        refine ⟨?_, ?_, ?_, ((hbA.setCell (p := ⟨w.heap.size, 0, none⟩) (Nat.le_refl _) _).setCell (p := ⟨w.heap.size + 1, 0, none⟩) (by show w.heap.size ≤ w.heap.size + 1; omega) _).trans (below_putObj _ (by omega) _)⟩
        · rw [World.cell?_of_block (w := A.setCell ⟨w.heap.size, 0, none⟩ (.slice (some ⟨g, 0, none⟩) m cap)) ((World.putObj_heap_other (by show w.heap.size ≠ _; omega)).trans (Below.heap_setCell _ _ _ _ (by show w.heap.size ≠ w.heap.size + 1; omega)))]
          exact World.cell?_setCell_same' _ _ _ (by rw [a4]; rfl)
        · rw [World.cell?_of_block (w := (A.setCell ⟨w.heap.size, 0, none⟩ (.slice (some ⟨g, 0, none⟩) m cap)).setCell ⟨w.heap.size + 1, 0, none⟩ (.string ⟨#[]⟩)) (World.putObj_heap_other (by show w.heap.size + 1 ≠ _; omega))]
          refine World.cell?_setCell_same' _ _ _ ?_
          rw [World.cell?_of_block (w := A) (Below.heap_setCell _ _ _ _ (by show w.heap.size + 1 ≠ w.heap.size; omega)), a5]
          rfl
        · have hsr := hkr.srow
          rcases hsr with ⟨⟨_, e⟩, hq0⟩ | ⟨g3, o3, cap3, e, h6, h7, h8⟩
          · exact absurd hq0 HNE.out
          · refine Or.inr ⟨g3, o3, cap3, e, h6, ?_, fun k c hk => ?_⟩
            · rw [World.putObj_size]; simpa [World.setCell] using h7
            · have e3 : g3 = g := by
                injection e with e
                injection e with e
                injection e with e
                exact e.symm
              rw [World.cell?_of_block (w := A) (hblk g3 (by omega) (by omega) (by rw [e3]; exact hgW))]
              exact h8 k c hk)
      have hK2 : ((A.setCell ⟨w.heap.size, 0, none⟩ (.slice (some ⟨g, 0, none⟩) m cap)).setCell ⟨w.heap.size + 1, 0, none⟩ (.string ⟨#[]⟩)).heap[W4.heap.size]? = some (.deferred (some [])) := ((Below.heap_setCell _ _ _ _ (by show W4.heap.size ≠ w.heap.size + 1; omega)).trans (Below.heap_setCell _ _ _ _ (by show W4.heap.size ≠ w.heap.size; omega))).trans hK
      clear hg hDR HH HNE HSP h1 hcA hnD hSP hbx hr hv hkr hbA
      gi_wp2_with fail
      refine ⟨by simp, .inl ⟨_, _, rfl, run_takeDeferred hK2, ?_⟩⟩
      obtain ⟨z1, z2, z3, z4⟩ := HZ.out _ rfl
      exact ⟨_, results_two rfl _ _ w.heap.size (w.heap.size + 1) _ _ rfl rfl z1 z2, _, rfl, z3, z4⟩
    case stop =>
      rintro c q A ⟨rfl, hbig, u4, u5⟩ hcA hK
      have hbA : Below w.heap.size w A := hb.trans (hcA.below (by omega) (fun k hk e => by rcases e with (e | ⟨e, _⟩) | e | e <;> omega))
      have hh := HH.out
      rw [if_pos hbig] at hh
      injection hh with hr1 he1
      subst hr1
      subst he1
      have HZ : Hid (∀ B, B = A.putObj W4.heap.size (.deferred none) → B.cell? ⟨w.heap.size, 0, none⟩ = some (.slice none 0 0) ∧ B.cell? ⟨w.heap.size + 1, 0, none⟩ = some (.string ⟨Tx.tMem.toArray⟩) ∧ Below w.heap.size w B) := (show ∀ _, _ from fun B hB => by
        subst hB
        refine ⟨?_, ?_, hbA.trans (below_putObj _ (by omega) _)⟩
        · rw [World.cell?_of_block (w := A) (World.putObj_heap_other (by show w.heap.size ≠ _; omega))]; exact u4
        · rw [World.cell?_of_block (w := A) (World.putObj_heap_other (by show w.heap.size + 1 ≠ _; omega))]; exact u5)
      clear hg hDR HH HNE HSP hcA hbA
      gi_wp2_with fail
      refine ⟨by simp, .inl ⟨_, _, rfl, run_takeDeferred hK, ?_⟩⟩
      obtain ⟨z1, z2, z3⟩ := HZ.out _ rfl
      exact ⟨_, results_two rfl _ _ w.heap.size (w.heap.size + 1) _ _ rfl rfl z1 z2, _, rfl, (show SRow _ _ _ from Or.inl ⟨⟨_, rfl⟩, rfl⟩), z3⟩
end Go.Proofs.Ytcpjogjkjbillaa
