/-
  The reference's Del, Clone, at this program.
-/
import Derived.Test.YtaghkidelbepnaaDiF
set_option linter.unusedVariables false
set_option linter.unusedSimpArgs false
namespace Go.Proofs.Ytaghkidelbepnaa
open Go.RowKit
open Di

set_option maxHeartbeats 4000000 in
theorem rDel_no {w : World} {b : Nat} {v : Value} {l : List Pr} {k : V} (hi : idx l k = none) (H : Hid (RD w b v l)) (hl : l.length ≤ 100000) :
    Calls Try.prog 36 #[.pointer (some ⟨b, 0, none⟩), vV k] w (PutEnd w b v false l) := by
  obtain ⟨W, hW⟩ : ∃ W, W = w.alloc (.cells #[.int .i64 k.1, .int .i64 k.2.1, .string k.2.2] 32) := ⟨_, rfl⟩
  have HB : Hid (Below w.heap.size w W) := (show Below _ _ _ by rw [hW]; exact below_new _ _)
  have hbx := box_cells w k
  rw [← hW] at hbx
  obtain ⟨c0, c1, c2⟩ := V_cells hbx
  have HD := Lib.hid (H.out.below HB.out)
  have HW := Lib.hid hW
  obtain ⟨bx, hbxx⟩ : ∃ bx, w.heap.size = bx := ⟨_, rfl⟩
  rw [hbxx] at c0 c1 c2
  have HBX := Lib.hid hbxx
  clear hbx hW hbxx
  have hat : Hid (atI l k = -1) := (show _ = _ by unfold atI; rw [hi])
  go_enter Try.func36, Try.ntmps36
  go_upto_region 1 with (fail)
  rw [← HW.out, HBX.out]
  go_wp2_with (go_at_call 38; refine (rat_is hat HD (by omega)).mono ?_; rintro e w1 ⟨rfl, HB1⟩)
  go_ret
  exact ⟨v, rfl, HD.out.below HB1, But.of_below (HB.out.trans (HB1.mono HB.out.size)), (show ∀ j, _ from fun j hj => Or.inl hj)⟩
/-- The row of a new block is laid in the dict. -/
theorem RD.lay {w1 w5 : World} {b g n cap : Nat} {v : Value} {l l' : List Pr} (h : RD w1 b v l) (hb : Below w1.heap.size w1 w5) (h5 : w5.ownsRow w1.heap.size 60 6 (.slice (some ⟨g, 0, none⟩) n cap) n (l'.flatMap cP)) (hn : l'.length = n) :
    w5.heap[b]? = some (.cells #[v] 29) ∧ w1.heap.size ≤ g ∧ RD (w5.setCell ⟨b, 0, none⟩ (.slice (some ⟨g, 0, none⟩) n cap)) b (.slice (some ⟨g, 0, none⟩) n cap) l' := by
  have hlt := h.lt
  have hh : w5.heap[b]? = some (.cells #[v] 29) := by rw [hb.block b hlt]; exact h.head
  subst hn
  obtain ⟨hlen, hr⟩ := h5
  rcases hr with ⟨hv, _⟩ | ⟨g', cap', cur, hv, h0, hgb', rest⟩
  · simp at hv
  · simp only [Value.slice.injEq, Option.some.injEq, Addr.mk.injEq, and_true, true_and] at hv
    obtain ⟨rfl, rfl⟩ := hv
    refine ⟨hh, h0, ?_, hlen, .inr ⟨g, cap, cur, rfl, Nat.zero_le _, (Below.heap_setCell w5 _ _ g (by show g ≠ b; omega)).trans hgb', rest⟩⟩
    unfold World.setCell
    simp only [Array.getElem?_modify, if_true, hh, Option.map_some]
    rfl
theorem grow_below {w1 W w5 : World} {k : Nat} (hb : Below w1.heap.size w1 W) (hg : W.grownBy w5 (some k)) (hk : w1.heap.size ≤ k) : Below w1.heap.size w1 w5 := hb.grown hg hb.size (fun j e => by cases e; exact hk)
theorem rest_block {g i n cap : Nat} {ad : Addr} {m c : Nat} (h : restV g i n cap = .slice (some ad) m c) : ad.block = g := by
  unfold restV at h
  simp only [Value.slice.injEq, Option.some.injEq] at h
  rw [← h.1]
  split <;> rfl
set_option maxHeartbeats 8000000 in
set_option maxRecDepth 100000 in
theorem rDel_yes {w : World} {b : Nat} {v : Value} {l : List Pr} {k : V} {i : Nat} (hi : idx l k = some i) (H : Hid (RD w b v l)) (hl : l.length ≤ 100000) :
    Calls Try.prog 36 #[.pointer (some ⟨b, 0, none⟩), vV k] w (PutEnd w b v true (l.take i ++ l.drop (i + 1))) := by
  obtain ⟨W, hW⟩ : ∃ W, W = w.alloc (.cells #[.int .i64 k.1, .int .i64 k.2.1, .string k.2.2] 32) := ⟨_, rfl⟩
  have HB : Hid (Below w.heap.size w W) := (show Below _ _ _ by rw [hW]; exact below_new _ _)
  have hbx := box_cells w k
  rw [← hW] at hbx
  obtain ⟨c0, c1, c2⟩ := V_cells hbx
  have HD := Lib.hid (H.out.below HB.out)
  have HW := Lib.hid hW
  obtain ⟨bx, hbxx⟩ : ∃ bx, w.heap.size = bx := ⟨_, rfl⟩
  rw [hbxx] at c0 c1 c2
  have HBX := Lib.hid hbxx
  clear hbx hW hbxx
  have hat : Hid (atI l k = (i : Int)) := (show _ = _ by unfold atI; rw [hi])
  have hlt := idx_lt hi
  obtain ⟨n, hn⟩ : ∃ n, l.length = n := ⟨_, rfl⟩
  obtain ⟨x, hx⟩ := idx_some hi
  obtain ⟨g, cap, hv, _⟩ := HD.out.pair hx
  subst hv
  rw [hn] at hlt hl H HD ⊢
  have HN := Lib.hid hn
  have HL : Hid (l.length ≤ 1000000) := (show _ ≤ _ by omega)
  have hcap : n ≤ cap := by
    rcases HD.out.row.2 with ⟨hv, _⟩ | ⟨g', cap', cur, hv, _, _, hnc, _⟩
    · simp at hv
    · simp only [Value.slice.injEq, Option.some.injEq, Addr.mk.injEq, and_true, true_and] at hv
      omega
  have hcap' : (i : Int) ≤ (cap : Int) := by omega
  have hrest := run_rest g n cap (i + 1) (by omega)
  obtain ⟨rv, hrv⟩ : ∃ rv, restV g (i + 1) n cap = rv := ⟨_, rfl⟩
  rw [hrv] at hrest
  have HRV := Lib.hid hrv
  have hw1 : IntKind.i64.wrap ((i : Int) + 1) = ((i + 1 : Nat) : Int) := by rw [IntWalk.i64_left]; unfold wrap64; omega
  obtain ⟨i1, hi1⟩ : ∃ i1 : Int, ((i + 1 : Nat) : Int) = i1 := ⟨_, rfl⟩
  rw [hi1] at hw1 hrest
  have HTL : Hid ((l.take i).length = i) := (show _ = _ by rw [List.length_take]; omega)
  have HDL : Hid (i + (l.drop (i + 1)).length = n - 1) := (show _ = _ by rw [List.length_drop]; omega)
  clear hi hn hx hrv hi1 hcap
  go_enter Try.func36, Try.ntmps36
  go_upto_region 1 with (fail)
  rw [← HW.out, HBX.out]
  go_wp2_with (go_at_call 38; refine (rat_is hat HD HL.out).mono ?_; rintro e w1 ⟨rfl, HB1⟩; have HD1 := Lib.hid (HD.out.below HB1); have a0 := HD1.out.cell)
  have a0' := fun o => (World.cell?_alloc_lt w1 o ⟨b, 0, none⟩ HD1.out.lt).trans a0
  have HFR := Lib.hid (own_front (by have := HD1.out.row; rw [HN.out] at this; exact this) HN.out (Nat.le_of_lt hlt))
  have HRS := Lib.hid (own_rest (i := i + 1) (by have := HD1.out.row; rw [HN.out] at this; exact this) HN.out hlt)
  rw [HRV.out] at HRS
  have H0 := Lib.hid (World.ownsRow_lit (e := 60) (size := 6) (base := w1.heap.size) w1 #[] 0 (Nat.le_refl _) (Nat.zero_le _) rfl)
  have HGL : Hid (g < w1.heap.size) := (show _ < _ from HD1.out.row_lt g rfl)
  have HF1 : Hid (∀ ad m c, Value.slice (some ⟨g, 0, none⟩) i cap = .slice (some ad) m c → ad.block < w1.heap.size) := (show ∀ ad m c, _ → _ from fun ad m c e => by simp only [Value.slice.injEq, Option.some.injEq] at e; rw [← e.1]; exact HGL.out)
  have HF2 : Hid (∀ ad m c, rv = .slice (some ad) m c → ad.block < w1.heap.size) := (show ∀ ad m c, _ → _ from fun ad m c e => by rw [← HRV.out] at e; rw [rest_block e]; exact HGL.out)
  clear c0 c1 c2
  go_region_law (first
    | (refine step_papps (by rfl) _ _ (by rfl) _ w1.heap.size g5 c5 (l.take i) i HTL.out (by have := HO5.out; rw [List.nil_append] at this; exact this) HB5.out.size rv (l.drop (i + 1)) (HRS.out.below HF2.out HB5.out) (n - 1) HDL.out (by omega) (by rfl) (by rfl) ?_; intro g6 c6 w6 HO6 HG6 HS6; have HB6 := Lib.hid (grow_below HB5.out HG6.out HK5.out); have HA := Lib.hid (HD1.out.lay HB6.out HO6.out (by rw [List.length_append, HTL.out, HDL.out])); have x6 : w6.cell? ⟨b, 0, none⟩ = some (.slice (some ⟨g, 0, none⟩) n cap) := (by simp [World.cell?, HA.out.1]); have y6 := V_frozen HA.out.1 0)
    | (refine step_papps (by rfl) _ _ (by rfl) _ w1.heap.size w1.heap.size 0 [] 0 rfl (by exact H0.out) (by first | exact (below_new w1 _).size | exact (below_new w1 _).drew.size) (.slice (some ⟨g, 0, none⟩) i cap) (l.take i) (HFR.out.below HF1.out (by first | exact below_new w1 _ | exact (below_new w1 _).drew)) i (by rw [HTL.out]; simp) (by omega) (by rfl) (by rfl) ?_; intro g5 c5 w5 HO5 HG5 HS5; have HB5 := Lib.hid (grow_below (by first | exact below_new w1 _ | exact (below_new w1 _).drew) HG5.out (Nat.le_refl _)); have HK5 : Hid (w1.heap.size ≤ g5) := (HO5.out.lt g5 rfl).1; have x5 := (HB5.out.cell (p := ⟨b, 0, none⟩) HD1.out.lt).trans a0))
  all_goals
    go_wp2_with fail
    go_ret
    refine ⟨_, rfl, (show RD _ _ _ _ from ⟨HA.out.2.2.head, HA.out.2.2.row⟩), (show But _ _ _ from ?_), (show ∀ j, _ from fun j hj => ?_)⟩
    · exact (But.of_below ((HB.out.trans (HB1.mono HB.out.size)).trans (HB6.out.mono (Nat.le_trans HB.out.size HB1.size)))).setCell (p := ⟨b, 0, none⟩) (fun _ => Or.inl rfl) _
    · simp only [Value.ownBlock, Option.some.injEq] at hj
      subst hj
      exact Or.inr (Nat.le_trans HB.out.size (Nat.le_trans HB1.size HA.out.2.1))
/-- Put, whole. -/
theorem rPut_is {w : World} {b : Nat} {v : Value} {l l' : List Pr} {k x : V} {ok : Bool} (hr : Hid (Di.put l k x = (ok, l'))) (H : Hid (RD w b v l)) (hl : l.length ≤ 100000) :
    Calls Try.prog 21 #[.pointer (some ⟨b, 0, none⟩), vV k, vV x] w (PutEnd w b v ok l') := by
  have hr := hr.out
  unfold Di.put at hr
  by_cases hk : keyOk k = true
  · rw [if_pos hk] at hr
    cases hi : idx l k with
    | some i => rw [hi] at hr; cases hr; exact rPut_there hi hk H hl
    | none =>
      rw [hi] at hr
      simp only at hr
      by_cases hf : l.length < mx
      · rw [if_pos hf] at hr; cases hr; exact rPut_app hi hk H hf
      · rw [if_neg hf] at hr; cases hr; exact rPut_full hi hk H hl (by have : mx = 4096 := rfl; omega)
  · rw [if_neg hk] at hr
    cases hr
    exact rPut_no (show keyOk k = false by simpa using hk) H hl
theorem rDel_is {w : World} {b : Nat} {v : Value} {l l' : List Pr} {k : V} {ok : Bool} (hr : Hid (Di.del l k = (ok, l'))) (H : Hid (RD w b v l)) (hl : l.length ≤ 100000) :
    Calls Try.prog 36 #[.pointer (some ⟨b, 0, none⟩), vV k] w (PutEnd w b v ok l') := by
  have hr := hr.out
  unfold Di.del at hr
  cases hi : idx l k with
  | some i => rw [hi] at hr; cases hr; exact rDel_yes hi H hl
  | none => rw [hi] at hr; cases hr; exact rDel_no hi H hl
end Go.Proofs.Ytaghkidelbepnaa
