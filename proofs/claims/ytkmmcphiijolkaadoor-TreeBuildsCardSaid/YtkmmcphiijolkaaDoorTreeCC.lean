/-
  A builder's nodes; one more, at this program.
-/
import Derived.Test.YtkmmcphiijolkaaDoorTreeAA
import Derived.Test.YtkmmcphiijolkaaDoorTreeL
set_option linter.unusedVariables false
set_option linter.unusedSimpArgs false
namespace Go.Proofs.YtkmmcphiijolkaaDoor
open Go.RowKit Go.Shelf
open Tr

/-- A builder: its block, and what it holds. -/
structure Bld (base bB : Nat) (v : Value) (P : List (NodeD × Value)) (w : World) : Prop where
  blk : w.heap[bB]? = some (.cells #[v] 52 (0, 0))
  row : TRow base v P w
  hb : base ≤ bB
  form : ∃ p c, v = .slice p P.length c
theorem Bld.cell {base bB : Nat} {v : Value} {P : List (NodeD × Value)} {w : World} (h : Bld base bB v P w) : w.cell? ⟨bB, 0, none⟩ = some v := by
  rw [cell_of_row w bB 0 _ _ _ h.blk]; rfl
theorem Bld.frozen {base bB : Nat} {v : Value} {P : List (NodeD × Value)} {w : World} (h : Bld base bB v P w) : w.frozen? ⟨bB, 0, none⟩ = false := by
  have := h.blk
  simp [World.frozen?, this]
theorem Bld.below {base bB : Nat} {v : Value} {P : List (NodeD × Value)} {w w' : World} (h : Bld base bB v P w) (hb : Below w.heap.size w w') : Bld base bB v P w' :=
  ⟨(hb.block bB (Array.getElem?_eq_some_iff.1 h.blk).1).trans h.blk, h.row.below hb, h.hb, h.form⟩
theorem Bld.ne {base bB : Nat} {v : Value} {P : List (NodeD × Value)} {w : World} (h : Bld base bB v P w) : v.ownBlock ≠ some bB := by
  intro e
  rcases h.row.1.2 with ⟨rfl, _⟩ | ⟨g, cap, cur, rfl, _, hgb, _⟩
  · simp [Value.ownBlock] at e
  · simp only [Value.ownBlock, Option.some.injEq] at e
    subst e
    have := h.blk
    rw [hgb] at this
    injection this with this
    injection this with _ h2
    exact absurd h2 (by decide)
theorem KRow.set {v : Value} {l : List Int} {w : World} (h : KRow v l w) {bB : Nat} {u x : Value} {T : TypeId} {fr : Nat × Nat} (hb : w.heap[bB]? = some (.cells #[u] T fr)) (hu : ∀ i, u ≠ .int .i64 i) : KRow v l (w.setCell ⟨bB, 0, none⟩ x) := by
  obtain ⟨pa, cap, e, hc⟩ := h
  refine ⟨pa, cap, e, fun k c hk => ?_, hc.2⟩
  obtain ⟨g, o, e2, hg, a0⟩ := hc.1 k c hk
  refine ⟨g, o, e2, by simpa [World.setCell] using hg, ?_⟩
  have hne : g ≠ bB := by
    rintro rfl
    rw [cell_of_row w g (o + k) _ _ _ hb] at a0
    cases ho : o + k with
    | zero => rw [ho] at a0; simp at a0; exact hu _ a0
    | succ j => rw [ho] at a0; simp at a0
  rw [World.cell?_of_block (w := w) (Below.heap_setCell w ⟨bB, 0, none⟩ x g hne)]
  exact a0
theorem TRow.set {base : Nat} {v : Value} {P : List (NodeD × Value)} {w : World} (h : TRow base v P w) {bB : Nat} {u x : Value} {T : TypeId} {fr : Nat × Nat} (hb : w.heap[bB]? = some (.cells #[u] T fr)) (hu : ∀ i, u ≠ .int .i64 i) (hne : v.ownBlock ≠ some bB) : TRow base v P (w.setCell ⟨bB, 0, none⟩ x) := by
  refine ⟨⟨h.1.1, ?_⟩, fun p hp => ⟨(h.2 p hp).1.set hb hu, (h.2 p hp).2⟩⟩
  rcases h.1.2 with h2 | ⟨g, cap, cur, rfl, hg, hgb, r⟩
  · exact Or.inl h2
  · exact Or.inr ⟨g, cap, cur, rfl, hg, (Below.heap_setCell w ⟨bB, 0, none⟩ x g (fun e => hne (by simp only at e; rw [← e]; rfl))).trans hgb, r⟩
theorem kidsOf_length (i : Nat) : ∀ l : List Int, (kidsOf i l).length ≤ l.length
  | [] => Nat.le_refl _
  | x :: l => by
    have := kidsOf_length i l
    simp only [kidsOf]
    split <;> simp <;> omega
def castL (l : List Nat) : List Int := l.map fun x : Nat => (x : Int)

theorem own_krow {base : Nat} {v : Value} {ys : List Nat} {w : World} (h : w.ownsRow base 3 1 v ys.length (ys.map fun x : Nat => .int .i64 (x : Int))) :
    ∃ p c, v = .slice p ys.length c ∧ KRow v (castL ys) w ∧ ∀ g, v.ownBlock = some g → base ≤ g := by
  obtain ⟨pr, cr, e, hrow⟩ := own_form h
  subst e
  refine ⟨pr, cr, rfl, ⟨pr, cr, by rw [castL, List.length_map], fun k c hk => ?_, ?_⟩, fun g e => (h.lt g e).1⟩
  · rw [castL, List.getElem?_map] at hk
    cases hy : ys[k]? with
    | none => rw [hy] at hk; simp at hk
    | some y =>
      rw [hy] at hk
      simp only [Option.map_some, Option.some.injEq] at hk
      subst hk
      obtain ⟨g, e, _, hg, hc⟩ := hrow k y hy
      exact ⟨g, 0, e, hg, by rw [Nat.zero_add]; exact hc⟩
  · rw [castL, List.length_map]
    rcases h.2 with ⟨e, hn⟩ | ⟨g, cap, cur, e, hg, hgb, hnc, _⟩
    · rw [hn]; exact Nat.zero_le _
    · injection e with e1 e2 e3
      rw [e3]; exact hnc
/-- Nodes that are written out are appended to a row of the call's own; what turned, and where it lies now. -/
theorem wpList_tapp2 {ops : Array Oper} {rest : List Oper} {o : Oper} {a : Act} {Q' : Exit → Act → World → Prop} (hgd : o.guard = none) (s x : Operand)
    (ho : o.op = .call { callee := .builtin .append, args := #[s, x], argTypes := #[25, 25] }) (base : Nat) (v : Value) (P : List (NodeD × Value)) (w : World) (hT : TRow base v P w) (hbase : base ≤ w.heap.size) (w2 : World) (hb : Below w.heap.size w w2)
    (Q : List (NodeD × Value)) (n m : Nat) (hn : P.length = n) (hm : Q.length = m) (hQ : 0 < m) (cs : Array Value) (hcs : cs.toList = flatT Q) (hs : a.eval s = v) (hx : a.eval x = .slice (some ⟨w2.heap.size, 0, none⟩) m m)
    (hq : ∀ q ∈ Q, KRow q.2 q.1.2.2.2.2 w2 ∧ (q.1.2.2.2.2 ≠ [] → ∀ g, q.2.ownBlock = some g → w.heap.size ≤ g)) (hlen : n + m ≤ 1000000)
    (h : ∀ g c w', Hid (TRow base (.slice (some ⟨g, 0, none⟩) (n + m) c) (P ++ Q) w') → Hid ((P ++ Q).length = n + m) → Hid (But (fun k => v.ownBlock = some k) w w') → Hid (some g = v.ownBlock ∨ w.heap.size ≤ g) → wpList Tryd.prog ops Q' rest (a.put o.dst (.slice (some ⟨g, 0, none⟩) (n + m) c)) w') :
    wpList Tryd.prog ops Q' (o :: rest) a (w2.alloc (.cells cs 37)) := by
  subst hn
  subst hm
  obtain ⟨i0, hi, hz0, hz1, hz2⟩ := info_parts infoNode
  have hb2 : Below w.heap.size w (w2.alloc (.cells cs 37)) := hb.alloc hb.size _
  have hown : (w2.alloc (.cells cs 37)).ownsRow base 37 5 v P.length (flatT P) := (hT.below hb2).1
  refine wpList_append_own_at _ hgd s x 25 ho base 37 i0 _ 5 64 Tryd.underlying25 hi hz0 hz1 hz2 rfl (by decide) v P.length (flatT P) hs hown ⟨w2.heap.size, 0, none⟩ Q.length Q.length (flatT Q) hx (flatT_length Q) (nodesL w2 Q cs hcs) ?_ (by unfold maxLen; omega) (by omega) (by have := hb.size; simp; omega) ?_
  · intro u hu
    rcases flatT_one Q u hu with ⟨i, rfl⟩ | ⟨s, rfl⟩ | ⟨q, hqm, rfl⟩
    · rfl
    · rfl
    · obtain ⟨pa, cap, e, _⟩ := (hq q hqm).1
      rw [e]; rfl
  · intro v' w' hown' hgrow _ hloc
    have hT' := hT.app hb2 hown' hgrow hloc (fun q hqm => ⟨(hq q hqm).1.below ((Below.refl _ _).alloc (Nat.le_refl _) _), (hq q hqm).2⟩)
    obtain ⟨g, c, rfl⟩ := hT'.form (by rw [List.length_append]; omega)
    rw [List.length_append] at hT' ⊢
    have hs2 := hb2.size
    refine h g c w' hT' (show _ = _ by rw [List.length_append]) (show But _ _ _ from ⟨hgrow.os.trans hb2.os, hgrow.tape.trans hb2.tape, hgrow.output.trans hb2.output, Nat.le_trans hs2 hgrow.size, fun k hk hn => ⟨(hgrow.block k (by omega) (fun e => hn e.symm)).trans (hb2.block k hk), fun e => hn e⟩⟩) ?_
    show _ ∨ _
    rcases hloc with e | e
    · exact Or.inl e
    · simp only [Value.ownBlock, Option.some.injEq] at e
      exact Or.inr (by omega)

set_option maxHeartbeats 8000000 in
set_option maxRecDepth 100000 in
theorem Add_any (base bB : Nat) (v : Value) (P : List (NodeD × Value)) (w : World) (hB : Bld base bB v P w) (hbase : base ≤ w.heap.size) (op at_ n : Int) (s : ByteArray) (kv : Value) (ks : List Int) (hk : KRow kv ks w) (hkl : ks.length ≤ 1000000) (hP : P.length + 1 ≤ 1000000) :
    Calls Tryd.prog 21 #[.pointer (some ⟨bB, 0, none⟩), .int .i64 op, .int .i64 at_, .string s, .int .i64 n, kv] w fun e w' => e = .returned (.int .i64 (P.length : Int)) ∧ ∃ v' vk, Bld base bB v' (P ++ [((op, at_, s.data.toList, n, castL (kidsOf P.length ks)), vk)]) w' ∧
      But (fun k => k = bB ∨ v.ownBlock = some k) w w' ∧ (v'.ownBlock = v.ownBlock ∨ ∃ g, v'.ownBlock = some g ∧ w.heap.size ≤ g) ∧ ∀ g, vk.ownBlock = some g → w.heap.size ≤ g := by
  have HB := Lib.hid hB
  have c0 := hB.cell
  obtain ⟨pv, cv, rfl⟩ := hB.form
  have hbl := (Array.getElem?_eq_some_iff.1 hB.blk).1
  have HK := Lib.hid hk
  obtain ⟨pk, ck, rfl, fk⟩ := hk
  obtain ⟨m, hm⟩ : ∃ m, m = P.length := ⟨_, rfl⟩
  have HM := Lib.hid hm
  rw [← hm] at c0 hP HB ⊢
  obtain ⟨q, hq⟩ : ∃ q, q = ks.length := ⟨_, rfl⟩
  rw [← hq] at HK ⊢
  have hah := ahead_in Fence.wide 3 trivial rfl (.slice pk q ck) (m : Int) w pk q ck rfl
  have hah' := callsIn_wide.1 hah
  have hb2 : Below w.heap.size w ((w.alloc (.cells #[.slice pk q ck] 22)).alloc (.cells #[.int .i64 (m : Int)] 3)) := ((Below.refl _ _).alloc (Nat.le_refl _) _).alloc (by simp) _
  have hs2 : ((w.alloc (.cells #[.slice pk q ck] 22)).alloc (.cells #[.int .i64 (m : Int)] 3)).heap.size = w.heap.size + 2 := by simp
  have d1 : ((w.alloc (.cells #[.slice pk q ck] 22)).alloc (.cells #[.int .i64 (m : Int)] 3)).cell? ⟨w.heap.size, 0, none⟩ = some (.slice pk q ck) := by
    rw [World.cell?_alloc_past _ _ _ (by simp), World.cell?_alloc_at _ _ _ _ rfl]; rfl
  have d2 : ((w.alloc (.cells #[.slice pk q ck] 22)).alloc (.cells #[.int .i64 (m : Int)] 3)).cell? ⟨w.heap.size + 1, 0, none⟩ = some (.int .i64 (m : Int)) := by
    rw [World.cell?_alloc_at _ _ _ _ (by simp)]; rfl
  obtain ⟨W2, hW2⟩ : ∃ W2, W2 = ((w.alloc (.cells #[.slice pk q ck] 22)).alloc (.cells #[.int .i64 (m : Int)] 3)) := ⟨_, rfl⟩
  rw [← hW2] at hb2 hs2 d1 d2
  have hit : IterR Fence.wide 68 #[.pointer (some ⟨w.heap.size, 0, none⟩), .pointer (some ⟨w.heap.size + 1, 0, none⟩)] (fun pre => pre <+: kidsOf m ks) (fun xs => xs = kidsOf m ks) W2 :=
    fun n Wc R hbc hD hR0 => ahead_gives Fence.wide rfl rfl n trivial w (.slice pk q ck) ks HK.out (by unfold maxLen; omega) m w.heap.size (w.heap.size + 1) R Wc hD (hb2.trans (hbc.mono hb2.size)) (fun A k e => by have := hR0 A k e; omega) (by have := hbc.size; omega) (by have := hbc.size; omega) (fun e => by have := hR0 _ _ e; omega)
      ((hbc.cell (p := ⟨w.heap.size, 0, none⟩) (by show w.heap.size < _; omega)).trans d1) ((hbc.cell (p := ⟨w.heap.size + 1, 0, none⟩) (by show w.heap.size + 1 < _; omega)).trans d2)
  have hlenk : ∀ q, q <+: kidsOf m ks → q.length ≤ 1000000 := fun q hq => Nat.le_trans hq.length_le (Nat.le_trans (kidsOf_length m ks) hkl)
  have hcol := callsIn_wide.1 (Collect_in Fence.wide fen_wide 3 W2 68 _ trivial (enters_of Tryd.func68 (by kernel_rfl) rfl) (fun pre => pre <+: kidsOf m ks) (fun xs => xs = kidsOf m ks) hlenk hit)
  have hcol2 := hcol.mono (R' := fun e W3 => ∃ (pr : Option Addr) (nr cr : Nat), e = .returned (.slice pr nr cr) ∧ Hid (KRow (.slice pr nr cr) (castL (kidsOf m ks)) W3) ∧ Hid (∀ g, (Value.slice pr nr cr).ownBlock = some g → w.heap.size ≤ g) ∧ Hid (Below w.heap.size w W3)) (by
    rintro e W3 ⟨v, xs, rfl, rfl, hown, hb3⟩
    obtain ⟨p, c, rfl, h1, h2⟩ := own_krow hown
    exact ⟨p, _, c, rfl, h1, fun g e => by have := h2 g e; omega, hb2.trans (hb3.mono hb2.size)⟩)
  rw [hW2] at hcol2
  have HCF : Hid (∀ w5, But (fun k => (Value.slice pv m cv).ownBlock = some k) w w5 → w5.cell? ⟨bB, 0, none⟩ = some (.slice pv m cv) ∧ w5.frozen? ⟨bB, 0, none⟩ = false) := fun w5 h5 => by
    have h1 := (h5.both bB hbl HB.out.ne).1
    exact ⟨(World.cell?_of_block (a := ⟨bB, 0, none⟩) h1).trans c0, (World.frozen?_of_block (a := ⟨bB, 0, none⟩) h1).trans HB.out.frozen⟩
  have HS : Hid ((⟨s.data.toList.toArray⟩ : ByteArray) = s) := (show _ = _ by simp)
  clear hah hB fk hm hq hit hcol hlenk hb2 hs2 d1 d2 hW2
  go_enter Tryd.func21, Tryd.ntmps21
  go_wp2_with (first
    | (go_at_call 39; refine hah'.mono ?_; clear hah'; rintro e w' ⟨rfl, rfl⟩)
    | (go_at_call 18; refine hcol2.mono ?_; clear hcol2; rintro e W3 ⟨pr, nr, cr, rfl, HKR, HKB, HB3⟩; have c3 := (HB3.out.cell (p := ⟨bB, 0, none⟩) hbl).trans c0)
    | (at_builtin; refine wpList_tapp2 rfl _ _ rfl base _ P w HB.out.row hbase _ HB3.out [((op, at_, s.data.toList, n, castL (kidsOf m ks)), .slice pr nr cr)] m 1 HM.out.symm rfl (by decide) _ (by simp [flatT, flatN]) rfl (by rfl) (by intro q hq; simp only [List.mem_cons, List.not_mem_nil, or_false] at hq; subst hq; exact ⟨HKR.out, fun _ => HKB.out⟩) (by omega) ?_; intro g5 c5 w5 HT5 HL5 HBut HLoc; have c6 := (HCF.out w5 HBut.out).1; have f6 := (HCF.out w5 HBut.out).2))
  go_ret
  have hblk5 : w5.heap[bB]? = some (.cells #[.slice pv m cv] 52 (0, 0)) := ((HBut.out.both bB hbl HB.out.ne).1).trans HB.out.blk
  have hne5 : (Value.slice (some ⟨g5, 0, none⟩) (m + 1) c5).ownBlock ≠ some bB := by
    intro e
    simp only [Value.ownBlock, Option.some.injEq] at e
    subst e
    rcases HLoc.out with h | h
    · exact HB.out.ne h.symm
    · omega
  refine ⟨rfl, _, .slice pr nr cr, ⟨?_, HT5.out.set hblk5 (fun i e => by cases e) hne5, HB.out.hb, ⟨_, _, by rw [HL5.out]⟩⟩, But.setCell (p := fun k => k = bB ∨ (Value.slice pv m cv).ownBlock = some k) (HBut.out.more fun k _ e => Or.inr e) (x := ⟨bB, 0, none⟩) (fun _ => Or.inl rfl) _, ?_, HKB.out⟩
  · simp [World.setCell, Array.getElem?_modify, hblk5]
  · rcases HLoc.out with h | h
    · exact Or.inl h
    · exact Or.inr ⟨g5, rfl, h⟩
end Go.Proofs.YtkmmcphiijolkaaDoor
