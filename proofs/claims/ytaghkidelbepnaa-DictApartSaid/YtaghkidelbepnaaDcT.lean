/-
  The program's dict: New, a new key is added, at this program.
-/
import Derived.Test.YtaghkidelbepnaaDcS
set_option linter.unusedVariables false
set_option linter.unusedSimpArgs false
namespace Go.Proofs.Ytaghkidelbepnaa
open Go.RowKit
open Di

theorem dnew_is (w : World) : Calls Try.prog 13 #[] w fun e w' => ∃ a v mb, e = .returned (ptrV a) ∧ Hid (DS w' a v mb [] (fun _ => none) 0) ∧ Hid (Below w.heap.size w w') ∧ Hid (∀ k, BK a v mb k → w.heap.size ≤ k) := by
  have HS := Lib.hid (dsized_is 0 (by omega) w)
  go_enter Try.func13, Try.ntmps13
  go_wp2_with (go_at_call 34; refine HS.out.mono ?_; rintro e w1 ⟨a, v, mb, rfl, H1, H2, H3⟩)
  go_ret
  exact ⟨a, v, mb, rfl, H1, H2, H3⟩
/-- A pair with its mark is appended, in a region that draws its order. -/
theorem step_eapp {ops : Array Oper} {o : Oper} {a : Act} {K : Act → World → Prop} {Q : Exit → Act → World → Prop} {E : Prop} (hgd : o.guard = none) (s x : Operand) (ho : o.op = .call { callee := .builtin .append, args := #[s, x], argTypes := #[70, 70] })
    (W : World) (v : Value) (l : List Ent) (hown : W.ownsRow 0 75 7 v l.length (l.flatMap cE)) (n : Nat) (hn : l.length = n) (bl : Nat) (p : Ent) (hbl : W.heap[bl]? = some (.cells #[.int .i64 p.1.1.1, .int .i64 p.1.1.2.1, .string p.1.1.2.2, .int .i64 p.1.2.1, .int .i64 p.1.2.2.1, .string p.1.2.2.2, .bool p.2] 75))
    (hs : a.eval s = v) (hx : a.eval x = .slice (some ⟨bl, 0, none⟩) 1 1) (hl : n ≤ 1000000)
    (h : ∀ g cap w', Hid (w'.ownsRow 0 75 7 (.slice (some ⟨g, 0, none⟩) (n + 1) cap) (n + 1) ((l ++ [p]).flatMap cE)) → Hid (W.grownBy w' v.ownBlock) → Hid (v.ownBlock = some g ∨ W.heap.size ≤ g) → Hid (g < w'.heap.size) → K (a.put o.dst (.slice (some ⟨g, 0, none⟩) (n + 1) cap)) w') :
    if Region.wanted o (yielded ops a.tmps) = true then Oper.wp Try.prog o a W K Q else E := by
  obtain ⟨i0, hi, hz0, hz1, hz2⟩ := info_parts infoEnt
  subst hn
  refine step_append_lies _ hgd s x 70 ho 0 75 i0 _ 7 72 Try.underlying70 hi hz0 hz1 hz2 rfl (by decide) v l.length _ hs hown ⟨bl, 0, none⟩ 1 1 (cE p) hx rfl ?_ ?_ (by decide) (by unfold maxLen; omega) (by omega) (Nat.zero_le _) _ rfl ?_
  · intro j u hu
    have hc : W.cell? ⟨bl, 0 + j, none⟩ = (cE p)[j]? := by
      simp only [World.cell?, hbl, Nat.zero_add]
      rw [← Array.getElem?_toList]
      rfl
    unfold Addr.add
    split
    · rename_i e; subst e; rw [show (⟨bl, 0, none⟩ : Addr) = ⟨bl, 0 + 0, none⟩ from rfl, hc]; exact hu
    · show W.cell? ⟨bl, 0 + j, none⟩ = _
      rw [hc]; exact hu
  · intro u hu
    simp only [List.mem_cons, List.not_mem_nil, or_false] at hu
    rcases hu with rfl | rfl | rfl | rfl | rfl | rfl | rfl <;> rfl
  · intro g cap w' h1 h2 h3 h4
    refine h g cap w' (show World.ownsRow _ _ _ _ _ _ _ from ?_) h2 (show _ ∨ _ from h3.imp id (fun e => by omega)) h4
    rw [List.flatMap_append, List.flatMap_singleton]
    exact h1
theorem DS.turned {w w' : World} {a mb n n' : Nat} {v : Value} {es : List Ent} {f f' : V → Option Nat} (h : DS w a v mb es f n) (hg : w.grownBy w' (some mb)) (hm : MapN w' mb n' f') : DS w' a v mb es f' n' := by
  have h1 := hg.block a h.lt (fun e => h.mb_ne (Option.some.inj e).symm)
  have h2 : ∀ k, v.ownBlock = some k → w'.heap[k]? = w.heap[k]? := fun k hk => hg.block k (h.row_lt k hk) (fun e => h.own_mb (by rw [hk]; exact e))
  refine ⟨h1.trans h.head, ⟨h.row.1, ?_⟩, hm⟩
  rcases h.row.2 with hn | ⟨g, cap, cur, hv, hbg, hg', rest⟩
  · exact .inl hn
  · exact .inr ⟨g, cap, cur, hv, hbg, (h2 g (by rw [hv]; rfl)).trans hg', rest⟩
theorem DS.app {w2 W w5 : World} {a mb g m n cap : Nat} {v : Value} {es : List Ent} {f : V → Option Nat} {p : Ent} (h : DS w2 a v mb es f m) (hW : Below w2.heap.size w2 W) (hg : W.grownBy w5 v.ownBlock) (hn : es.length = n) (h5 : w5.ownsRow 0 75 7 (.slice (some ⟨g, 0, none⟩) (n + 1) cap) (n + 1) ((es ++ [p]).flatMap cE)) (hl : v.ownBlock = some g ∨ W.heap.size ≤ g) :
    w5.heap[a]? = some (.cells #[v, .map (some mb)] 73) ∧ g ≠ a ∧ DS (w5.setCell ⟨a, 0, none⟩ (.slice (some ⟨g, 0, none⟩) (n + 1) cap)) a (.slice (some ⟨g, 0, none⟩) (n + 1) cap) mb (es ++ [p]) f m := by
  have hb := h.lt
  have hm := h.map.lt
  have hs := hW.size
  have hh : w5.heap[a]? = some (.cells #[v, .map (some mb)] 73) := by
    rw [hg.block a (Nat.lt_of_lt_of_le hb hs) (fun e => h.own_ne e.symm), hW.block a hb]
    exact h.head
  have hmm : w5.heap[mb]? = w2.heap[mb]? := by
    rw [hg.block mb (Nat.lt_of_lt_of_le hm hs) (fun e => h.own_mb e.symm), hW.block mb hm]
  have hga : g ≠ a := by
    rintro rfl
    rcases hl with e | e
    · exact h.own_ne e
    · omega
  refine ⟨hh, hga, ?_, ?_, ?_⟩
  · unfold World.setCell
    simp only [Array.getElem?_modify, if_true, hh, Option.map_some]
    rfl
  · have hlen : (es ++ [p]).length = n + 1 := by simp [hn]
    rw [hlen]
    refine ⟨h5.1, ?_⟩
    rcases h5.2 with ⟨hv, _⟩ | ⟨g', cap', cur, hv, h0, hgb', rest⟩
    · simp at hv
    · simp only [Value.slice.injEq, Option.some.injEq, Addr.mk.injEq, and_true, true_and] at hv
      obtain ⟨rfl, rfl⟩ := hv
      exact .inr ⟨g, _, cur, rfl, h0, (Below.heap_setCell w5 _ _ g hga).trans hgb', rest⟩
  · exact h.map.of_block ((Below.heap_setCell w5 _ _ mb h.mb_ne).trans hmm)
theorem slice_form {w : World} {T : TypeId} {sz n : Nat} {v : Value} {l : List Value} (h : w.ownsRow 0 T sz v n l) : ∃ pa cap, v = .slice pa n cap := by
  rcases h.2 with ⟨rfl, rfl⟩ | ⟨g, cap, cur, rfl, _⟩
  · exact ⟨_, _, rfl⟩
  · exact ⟨_, _, rfl⟩
set_option maxHeartbeats 4000000 in
set_option maxRecDepth 100000 in
theorem dadd_is {w : World} {a mb m : Nat} {v : Value} {es : List Ent} {f : V → Option Nat} {k x : V} (hk : Vok k) (H : Hid (DS w a v mb es f m)) (hf : f k = none) (hl : es.length ≤ 50000) (hm : m ≤ 50000) :
    Calls Try.prog 37 #[ptrV a, vV k, vV x] w fun e w' => ∃ v', e = .returned (.tuple #[]) ∧ Hid (DS w' a v' mb (es ++ [((k, x), false)]) (fun y => if y = k then some es.length else f y) (m + 1)) ∧ Hid (But (BK a v mb) w w') ∧ Hid (∀ j, v'.ownBlock = some j → v.ownBlock = some j ∨ w.heap.size ≤ j) := by
  obtain ⟨W, hW⟩ : ∃ W, W = (w.alloc (.cells #[.int .i64 k.1, .int .i64 k.2.1, .string k.2.2] 32)).alloc (.cells #[.int .i64 x.1, .int .i64 x.2.1, .string x.2.2] 32) := ⟨_, rfl⟩
  have HB : Hid (Below w.heap.size w W) := (show Below _ _ _ by rw [hW]; exact two_below _ _ _)
  have hbx : W.heap[w.heap.size]? = some (.cells #[.int .i64 k.1, .int .i64 k.2.1, .string k.2.2] 32) := by
    rw [hW]; exact (Below.heap_alloc _ _ _ (by rw [World.size_alloc]; omega)).trans (heap_alloc_new w _)
  have hby : W.heap[w.heap.size + 1]? = some (.cells #[.int .i64 x.1, .int .i64 x.2.1, .string x.2.2] 32) := by rw [hW]; exact two_heap _ _ _
  have hD := H.out.below HB.out
  obtain ⟨n, hn⟩ : ∃ n, es.length = n := ⟨_, rfl⟩
  obtain ⟨W1, hput, hM1, hG1⟩ := (hD.map.of_block (w' := W.drew) rfl).put (by omega) hk hf n
  have hD1 := (hD.below ((Below.refl _ _).drew)).turned hG1 hM1
  have hg1 : ∀ j, w.heap.size ≤ j → j < W.heap.size → W1.heap[j]? = W.heap[j]? := fun j hj hj2 => (hG1.block j hj2 (fun e => by have := H.out.map.lt; have := Option.some.inj e; omega))
  have hlt := (Array.getElem?_eq_some_iff.1 hby).1
  have hbx1 := (hg1 _ (Nat.le_refl _) (by omega)).trans hbx
  have hby1 := (hg1 (w.heap.size + 1) (by omega) hlt).trans hby
  obtain ⟨bx, hbxx⟩ : ∃ bx, w.heap.size = bx := ⟨_, rfl⟩
  rw [hbxx] at hbx hby hbx1 hby1
  obtain ⟨c0, c1, c2⟩ := V_cells hbx
  obtain ⟨k0, k1, k2⟩ := V_cells hbx1
  obtain ⟨d0, d1, d2⟩ := V_cells hby1
  obtain ⟨pa, cap, hv⟩ := slice_form hD.row
  subst hv
  rw [hn] at hD hD1 H hl ⊢
  have a0 := hD.cell0
  have a1 := hD.cell1
  have b0 := hD1.cell0
  have b1 := hD1.cell1
  have HN := Lib.hid hn
  have HD1 := Lib.hid hD1
  have HW := Lib.hid hW
  have HBX := Lib.hid hbxx
  have HB1 : Hid (But (BK a (.slice pa n cap) mb) w W1) := (show But _ _ _ from ((But.of_below HB.out).drewN 1).grown hG1 (fun j e _ => Or.inr (Or.inr (Option.some.inj e).symm)))
  have b0' := fun o => (World.cell?_alloc_lt W1 o ⟨a, 0, none⟩ HD1.out.lt).trans b0
  clear hbx hby hbx1 hby1 hD hD1 hW hbxx hn hg1 hG1 hM1 hlt hf
  go_enter Try.func37, Try.ntmps37
  go_upto_region 1 with (fail)
  rw [← HW.out, HBX.out]
  go_region
  go_upto_region 2 with (fail)
  go_region_law (refine step_eapp (by rfl) _ _ (by rfl) _ _ es (by exact HD1.out.row.alloc _) n HN.out _ ((k, x), false) (by exact heap_alloc_new W1 _) (by rfl) (by rfl) (by omega) ?_; intro g5 c5 w5 HO HG HS HL5; have hBW := (below_new W1 (.cells #[.int .i64 k.1, .int .i64 k.2.1, .string k.2.2, .int .i64 x.1, .int .i64 x.2.1, .string x.2.2, .bool false] 75)).drew; have HA := Lib.hid (HD1.out.app hBW HG.out HN.out HO.out HS.out); have HBT := Lib.hid ((HB1.out.trans (.of_below hBW)).grown HG.out (fun k hk _ => Or.inr (Or.inl hk))); have hsz := hBW.size; clear hBW; have x5 : w5.cell? ⟨a, 0, none⟩ = some (.slice pa n cap) := (by simp [World.cell?, HA.out.1]); have y5 := V_frozen HA.out.1 0)
  all_goals
    go_wp2_with fail
    go_end0
    refine ⟨.slice (some ⟨g5, 0, none⟩) (n + 1) c5, rfl, (show DS _ _ _ _ _ _ _ from ?_), (show But _ _ _ from ?_), (show ∀ j, _ from fun j hj => ?_)⟩
    · exact ⟨HA.out.2.2.head, HA.out.2.2.row, HA.out.2.2.map⟩
    · exact HBT.out.setCell (p := ⟨a, 0, none⟩) (fun _ => Or.inl rfl) _
    · simp only [Value.ownBlock, Option.some.injEq] at hj
      subst hj
      have h1 := HB1.out.size
      rcases HS.out with h | h
      · exact Or.inl h
      · refine Or.inr ?_
        omega
end Go.Proofs.Ytaghkidelbepnaa
