/-
  The reference's dict: put, whole, at this program.
-/
import Derived.Test.YtaghkidelbepnaaDiD
set_option linter.unusedVariables false
set_option linter.unusedSimpArgs false
namespace Go.Proofs.Ytaghkidelbepnaa
open Go.RowKit
open Di

set_option maxHeartbeats 4000000 in
theorem rPut_no {w : World} {b : Nat} {v : Value} {l : List Pr} {k x : V} (hk : Hid (keyOk k = false)) (H : Hid (RD w b v l)) (hl : l.length ≤ 100000) :
    Calls Try.prog 21 #[.pointer (some ⟨b, 0, none⟩), vV k, vV x] w (PutEnd w b v false l) := by
  obtain ⟨W, hW⟩ : ∃ W, W = (w.alloc (.cells #[.int .i64 k.1, .int .i64 k.2.1, .string k.2.2] 32)).alloc (.cells #[.int .i64 x.1, .int .i64 x.2.1, .string x.2.2] 32) := ⟨_, rfl⟩
  have HB : Hid (Below w.heap.size w W) := (show Below _ _ _ by rw [hW]; exact two_below _ _ _)
  have hbx : W.heap[w.heap.size]? = some (.cells #[.int .i64 k.1, .int .i64 k.2.1, .string k.2.2] 32) := by
    rw [hW]
    show ((w.heap.push _).push _)[_]? = _
    rw [Array.getElem?_push, if_neg (by simp), Array.getElem?_push, if_pos rfl]
  have hby : W.heap[w.heap.size + 1]? = some (.cells #[.int .i64 x.1, .int .i64 x.2.1, .string x.2.2] 32) := by rw [hW]; exact two_heap _ _ _
  have HD := Lib.hid (H.out.below HB.out)
  have HW := Lib.hid hW
  obtain ⟨bx, hbxx⟩ : ∃ bx, w.heap.size = bx := ⟨_, rfl⟩
  rw [hbxx] at hbx hby
  obtain ⟨c0, c1, c2⟩ := V_cells hbx
  have HXX := Lib.hid hbx
  have HBY := Lib.hid hby
  have HBX := Lib.hid hbxx
  have HLT : Hid (bx + 1 < W.heap.size) := (show _ < _ from (Array.getElem?_eq_some_iff.1 hby).1)
  clear hbx hby hW hbxx
  obtain ⟨r, hat⟩ := hid_ex (atI l k)
  go_enter Try.func21, Try.ntmps21
  go_upto_region 1 with (fail)
  rw [← HW.out, HBX.out]
  go_wp2_with (first
    | (go_at_call 18; refine (rKey_is hk _).mono ?_; rintro e w2 ⟨rfl, HB2⟩)
    | (go_at_call 38; refine (rat_is hat HD (by omega)).mono ?_; rintro e w1 ⟨rfl, HB1⟩; have e1 := (HB1.block _ (Nat.lt_of_succ_lt HLT.out)).trans HXX.out; obtain ⟨b0, b1, b2⟩ := V_cells e1; clear e1))
  go_ret
  exact ⟨v, rfl, (HD.out.below HB1).below HB2, But.of_below ((HB.out.trans (HB1.mono HB.out.size)).trans (HB2.mono (Nat.le_trans HB.out.size HB1.size))), (show ∀ j, _ from fun j hj => Or.inl hj)⟩
set_option maxHeartbeats 4000000 in
theorem rPut_full {w : World} {b : Nat} {v : Value} {l : List Pr} {k x : V} (hi : idx l k = none) (hk : Hid (keyOk k = true)) (H : Hid (RD w b v l)) (hl : l.length ≤ 100000) (hf : 4096 ≤ l.length) :
    Calls Try.prog 21 #[.pointer (some ⟨b, 0, none⟩), vV k, vV x] w (PutEnd w b v false l) := by
  obtain ⟨W, hW⟩ : ∃ W, W = (w.alloc (.cells #[.int .i64 k.1, .int .i64 k.2.1, .string k.2.2] 32)).alloc (.cells #[.int .i64 x.1, .int .i64 x.2.1, .string x.2.2] 32) := ⟨_, rfl⟩
  have HB : Hid (Below w.heap.size w W) := (show Below _ _ _ by rw [hW]; exact two_below _ _ _)
  have hbx : W.heap[w.heap.size]? = some (.cells #[.int .i64 k.1, .int .i64 k.2.1, .string k.2.2] 32) := by
    rw [hW]
    show ((w.heap.push _).push _)[_]? = _
    rw [Array.getElem?_push, if_neg (by simp), Array.getElem?_push, if_pos rfl]
  have hby : W.heap[w.heap.size + 1]? = some (.cells #[.int .i64 x.1, .int .i64 x.2.1, .string x.2.2] 32) := by rw [hW]; exact two_heap _ _ _
  have HD := Lib.hid (H.out.below HB.out)
  have HW := Lib.hid hW
  obtain ⟨bx, hbxx⟩ : ∃ bx, w.heap.size = bx := ⟨_, rfl⟩
  rw [hbxx] at hbx hby
  obtain ⟨c0, c1, c2⟩ := V_cells hbx
  have HXX := Lib.hid hbx
  have HBY := Lib.hid hby
  have HBX := Lib.hid hbxx
  have HLT : Hid (bx + 1 < W.heap.size) := (show _ < _ from (Array.getElem?_eq_some_iff.1 hby).1)
  clear hbx hby hW hbxx
  have hat : Hid (atI l k = -1) := (show _ = _ by unfold atI; rw [hi])
  obtain ⟨n, hn⟩ : ∃ n, l.length = n := ⟨_, rfl⟩
  have HN := Lib.hid hn
  have HL : Hid (l.length ≤ 1000000) := (show _ ≤ _ by omega)
  rw [hn] at hf hl
  clear hn
  obtain ⟨pa, cap, hv, _⟩ := own_form cP_len HD.out.row
  subst hv
  have hf' : (4096 : Int) ≤ (n : Int) := by omega
  go_enter Try.func21, Try.ntmps21
  go_upto_region 1 with (fail)
  rw [← HW.out, HBX.out]
  go_wp2_with (first
    | (go_at_call 18; refine (rKey_is hk _).mono ?_; rintro e w2 ⟨rfl, HB2⟩; have hD2 := (HD.out.below HB1).below HB2; have a0 := hD2.cell; rw [HN.out] at a0; clear hD2)
    | (go_at_call 38; refine (rat_is hat HD HL.out).mono ?_; rintro e w1 ⟨rfl, HB1⟩; have e1 := (HB1.block _ (Nat.lt_of_succ_lt HLT.out)).trans HXX.out; obtain ⟨b0, b1, b2⟩ := V_cells e1; clear e1))
  go_ret
  exact ⟨_, rfl, (HD.out.below HB1).below HB2, But.of_below ((HB.out.trans (HB1.mono HB.out.size)).trans (HB2.mono (Nat.le_trans HB.out.size HB1.size))), (show ∀ j, _ from fun j hj => Or.inl hj)⟩
set_option maxHeartbeats 4000000 in
set_option maxRecDepth 100000 in
theorem rPut_app {w : World} {b : Nat} {v : Value} {l : List Pr} {k x : V} (hi : idx l k = none) (hk : Hid (keyOk k = true)) (H : Hid (RD w b v l)) (hf : l.length < 4096) :
    Calls Try.prog 21 #[.pointer (some ⟨b, 0, none⟩), vV k, vV x] w (PutEnd w b v true (l ++ [(k, x)])) := by
  obtain ⟨W, hW⟩ : ∃ W, W = (w.alloc (.cells #[.int .i64 k.1, .int .i64 k.2.1, .string k.2.2] 32)).alloc (.cells #[.int .i64 x.1, .int .i64 x.2.1, .string x.2.2] 32) := ⟨_, rfl⟩
  have HB : Hid (Below w.heap.size w W) := (show Below _ _ _ by rw [hW]; exact two_below _ _ _)
  have hbx : W.heap[w.heap.size]? = some (.cells #[.int .i64 k.1, .int .i64 k.2.1, .string k.2.2] 32) := by
    rw [hW]
    show ((w.heap.push _).push _)[_]? = _
    rw [Array.getElem?_push, if_neg (by simp), Array.getElem?_push, if_pos rfl]
  have hby : W.heap[w.heap.size + 1]? = some (.cells #[.int .i64 x.1, .int .i64 x.2.1, .string x.2.2] 32) := by rw [hW]; exact two_heap _ _ _
  have HD := Lib.hid (H.out.below HB.out)
  have HW := Lib.hid hW
  obtain ⟨bx, hbxx⟩ : ∃ bx, w.heap.size = bx := ⟨_, rfl⟩
  rw [hbxx] at hbx hby
  obtain ⟨c0, c1, c2⟩ := V_cells hbx
  have HXX := Lib.hid hbx
  have HBY := Lib.hid hby
  have HBX := Lib.hid hbxx
  have HLT : Hid (bx + 1 < W.heap.size) := (show _ < _ from (Array.getElem?_eq_some_iff.1 hby).1)
  clear hbx hby hW hbxx
  have hat : Hid (atI l k = -1) := (show _ = _ by unfold atI; rw [hi])
  obtain ⟨n, hn⟩ : ∃ n, l.length = n := ⟨_, rfl⟩
  have HN := Lib.hid hn
  have HL : Hid (l.length ≤ 1000000) := (show _ ≤ _ by omega)
  rw [hn] at hf
  clear hn
  obtain ⟨pa, cap, hv, _⟩ := own_form cP_len HD.out.row
  subst hv
  rw [HN.out] at HD H ⊢
  have hf' : ¬ (4096 : Int) ≤ (n : Int) := by omega
  go_enter Try.func21, Try.ntmps21
  go_upto_region 1 with (fail)
  rw [← HW.out, HBX.out]
  go_wp2_with (first
    | (go_at_call 18; refine (rKey_is hk _).mono ?_; rintro e w2 ⟨rfl, HB2⟩; have hD2 := (HD.out.below HB1).below HB2; have e1 := (HB2.block _ (Nat.lt_of_lt_of_le HLT.out HB1.size)).trans ((HB1.block _ HLT.out).trans HBY.out); obtain ⟨d0, d1, d2⟩ := V_cells e1; have e2 := (HB2.block _ (Nat.lt_of_lt_of_le (Nat.lt_of_succ_lt HLT.out) HB1.size)).trans ((HB1.block _ (Nat.lt_of_succ_lt HLT.out)).trans HXX.out); obtain ⟨k0, k1, k2⟩ := V_cells e2; have a0 := hD2.cell; have HD2 := Lib.hid hD2; clear e1 e2 hD2)
    | (go_at_call 38; refine (rat_is hat HD HL.out).mono ?_; rintro e w1 ⟨rfl, HB1⟩; have e1 := (HB1.block _ (Nat.lt_of_succ_lt HLT.out)).trans HXX.out; obtain ⟨b0, b1, b2⟩ := V_cells e1; clear e1))
  have a0' := fun o => (World.cell?_alloc_lt w2 o ⟨b, 0, none⟩ HD2.out.lt).trans a0
  clear b0 b1 b2 c0 c1 c2
  go_region_law (refine step_papp (by rfl) _ _ (by rfl) _ _ l (by exact HD2.out.row.alloc _) n HN.out _ (k, x) (by exact heap_alloc_new w2 _) (by rfl) (by rfl) (by omega) ?_; intro g5 c5 w5 HO HG HS HL5; have hBW := (below_new w2 (.cells #[.int .i64 k.1, .int .i64 k.2.1, .string k.2.2, .int .i64 x.1, .int .i64 x.2.1, .string x.2.2] 60)).drew; have HA := Lib.hid (HD2.out.app hBW HG.out HN.out HO.out HS.out); have HBT := Lib.hid (((But.of_below (P := fun j => j = b ∨ (Value.slice pa n cap).ownBlock = some j) ((HB.out.trans (HB1.mono HB.out.size)).trans (HB2.mono (Nat.le_trans HB.out.size HB1.size)))).trans (.of_below hBW)).grown HG.out (fun k hk _ => Or.inr hk)); have hsz := hBW.size; clear hBW; have x5 : w5.cell? ⟨b, 0, none⟩ = some (.slice pa n cap) := (by simp [World.cell?, HA.out.1]); have y5 := V_frozen HA.out.1 0)
  all_goals
    go_wp2_with fail
    go_ret
    refine ⟨_, rfl, HA.out.2.2, (show But _ _ _ from ?_), (show ∀ j, _ from fun j hj => ?_)⟩
    · exact HBT.out.setCell (p := ⟨b, 0, none⟩) (fun _ => Or.inl rfl) _
    · simp only [Value.ownBlock, Option.some.injEq] at hj
      subst hj
      have h1 := HB.out.size
      have h2 := HB1.size
      have h3 := HB2.size
      rcases HS.out with h | h
      · exact Or.inl h
      · refine Or.inr ?_
        omega
end Go.Proofs.Ytaghkidelbepnaa
