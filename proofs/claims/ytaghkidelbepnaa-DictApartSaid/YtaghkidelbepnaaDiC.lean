/-
  The reference's dict: where a key is, what it has, at this program.
-/
import Derived.Test.YtaghkidelbepnaaDiB
set_option linter.unusedVariables false
set_option linter.unusedSimpArgs false
namespace Go.Proofs.Ytaghkidelbepnaa
open Go.RowKit
open Di

theorem cP_len (p : Pr) : (cP p).length = 6 := rfl
/-- Block b is a dict of the reference's: v is its row of pairs. -/
structure RD (w : World) (b : Nat) (v : Value) (l : List Pr) : Prop where
  head : w.heap[b]? = some (.cells #[v] 29)
  row : w.ownsRow 0 60 6 v l.length (l.flatMap cP)
theorem RD.lt {w : World} {b : Nat} {v : Value} {l : List Pr} (h : RD w b v l) : b < w.heap.size := (Array.getElem?_eq_some_iff.1 h.head).1
theorem RD.row_lt {w : World} {b : Nat} {v : Value} {l : List Pr} (h : RD w b v l) : ∀ k, v.ownBlock = some k → k < w.heap.size := fun k hk => (h.row.lt k hk).2
theorem RD.kept {w w' : World} {b : Nat} {v : Value} {l : List Pr} (h : RD w b v l) (hb : w'.heap[b]? = w.heap[b]?) (hr : ∀ k, v.ownBlock = some k → w'.heap[k]? = w.heap[k]?) : RD w' b v l := by
  refine ⟨hb.trans h.head, h.row.1, ?_⟩
  rcases h.row.2 with hn | ⟨g, cap, cur, hv, hbg, hg, rest⟩
  · exact .inl hn
  · exact .inr ⟨g, cap, cur, hv, hbg, (hr g (by rw [hv]; rfl)).trans hg, rest⟩
theorem RD.below {w w' : World} {b : Nat} {v : Value} {l : List Pr} (h : RD w b v l) (hb : Below w.heap.size w w') : RD w' b v l := h.kept (hb.block b h.lt) (fun k hk => hb.block k (h.row_lt k hk))
theorem RD.cell {w : World} {b : Nat} {v : Value} {l : List Pr} (h : RD w b v l) : w.cell? ⟨b, 0, none⟩ = some v := by simp [World.cell?, h.head]
theorem RD.frozen {w : World} {b : Nat} {v : Value} {l : List Pr} (h : RD w b v l) : w.frozen? ⟨b, 0, none⟩ = false := by simp [World.frozen?, h.head]
def atI (l : List Pr) (k : V) : Int := match idx l k with | some i => (i : Int) | none => -1
theorem box_cells (w : World) (x : V) : (w.alloc (.cells #[.int .i64 x.1, .int .i64 x.2.1, .string x.2.2] 32)).heap[w.heap.size]? = some (.cells #[.int .i64 x.1, .int .i64 x.2.1, .string x.2.2] 32) := by
  show (w.heap.push _)[_]? = _
  rw [Array.getElem?_push, if_pos rfl]
theorem V_cells {w : World} {b : Nat} {x : V} (h : w.heap[b]? = some (.cells #[.int .i64 x.1, .int .i64 x.2.1, .string x.2.2] 32)) : w.cell? ⟨b, 0, none⟩ = some (.int .i64 x.1) ∧ w.cell? ⟨b, 1, none⟩ = some (.int .i64 x.2.1) ∧ w.cell? ⟨b, 2, none⟩ = some (.string x.2.2) := by
  refine ⟨?_, ?_, ?_⟩ <;> simp [World.cell?, h]
theorem below_new (w : World) (o : Obj) : Below w.heap.size w (w.alloc o) := (Below.refl _ w).alloc (Nat.le_refl _) _
theorem below_dr {B : Nat} {a w : World} (h : Below B a w) (n : Nat) : Below B a (w.drewN n) := h.trans ⟨rfl, rfl, rfl, Nat.le_refl _, fun _ _ => rfl⟩
set_option maxHeartbeats 4000000 in
theorem rat_is {w : World} {b : Nat} {v : Value} {l : List Pr} {k : V} {r : Int} (hr : Hid (atI l k = r)) (H : Hid (RD w b v l)) (hl : l.length ≤ 1000000) :
    Calls Try.prog 38 #[.pointer (some ⟨b, 0, none⟩), vV k] w fun e w' => e = .returned (.int .i64 r) ∧ Below w.heap.size w w' := by
  obtain ⟨W, hW⟩ : ∃ W, W = w.alloc (.cells #[.int .i64 k.1, .int .i64 k.2.1, .string k.2.2] 32) := ⟨_, rfl⟩
  have HB : Hid (Below w.heap.size w W) := (show Below _ _ _ by rw [hW]; exact below_new _ _)
  have hbx := box_cells w k
  rw [← hW] at hbx
  obtain ⟨c0, c1, c2⟩ := V_cells hbx
  have hD := H.out.below HB.out
  have d0 := hD.cell
  obtain ⟨pa, cap, rfl, hrow⟩ := own_form cP_len hD.row
  obtain ⟨n, hn⟩ : ∃ n, l.length = n := ⟨_, rfl⟩
  have HR := Lib.hid hrow
  have HN := Lib.hid hn
  have HW := Lib.hid hW
  rw [hn] at hl d0
  have heq := eql_V
  obtain ⟨bx, hbxx⟩ : ∃ bx, w.heap.size = bx := ⟨_, rfl⟩
  rw [hbxx] at c0 c1 c2
  have HBX := Lib.hid hbxx
  clear hbx hD hrow hn hW hbxx
  go_enter Try.func38, Try.ntmps38
  go_wp2_with fail
  rw [← HW.out, HBX.out]
  go_loopw [5] (fun v5 wr => ∃ i : Nat, v5 = .int .i64 (i : Int) ∧ i ≤ n ∧ Hid (∀ (j : Nat) (p : Pr), j < i → l[j]? = some p → p.1 ≠ k) ∧ ∃ q, wr = W.drewN q) (fun v5 _ => n - (intOf v5).toNat)
  case atStart => exact ⟨0, rfl, Nat.zero_le _, (show ∀ (j : Nat) (p : Pr), j < 0 → _ from fun j p hj => absurd hj (by omega)), 0, rfl⟩
  case round =>
    obtain ⟨i, rfl, hi, HF, q, rfl⟩ := hrel
    by_cases hlt : i < n
    · obtain ⟨p, hp⟩ : ∃ p, l[i]? = some p := ⟨_, List.getElem?_eq_getElem (by have := HN.out; omega)⟩
      obtain ⟨g, rfl, hg, _, hcs⟩ := HR.out i p hp
      have a0 := hcs 0 _ rfl
      have a1 := hcs 1 _ rfl
      have a2 := hcs 2 _ rfl
      simp only [Nat.add_zero] at a0
      have HP := Lib.hid hp
      clear hcs hp
      have hcmp := fun wx => heq wx p.1 k
      by_cases he : p.1 = k
      · have hd : decide (p.1 = k) = true := by simp [he]
        rw [hd] at hcmp
        have HE : Hid (r = (i : Int)) := (show _ = _ by
          rw [← hr.out]
          unfold atI
          rw [idx_first ⟨p.2, by rw [HP.out, ← he]⟩ HF.out])
        clear heq hd
        go_wp2_with fail
        go_quiet (fail)
        go_wp2_with fail
        go_ret
        exact ⟨by rw [HE.out]; rfl, below_dr (below_dr HB.out _) _⟩
      · have hd : decide (p.1 = k) = false := by simp [he]
        rw [hd] at hcmp
        have HF2 : Hid (∀ (j : Nat) (p : Pr), j < i + 1 → l[j]? = some p → p.1 ≠ k) := (show ∀ _, _ from fun j p' hj hjp => by
          rcases Nat.lt_or_ge j i with h | h
          · exact HF.out j p' h hjp
          · obtain rfl : j = i := by omega
            rw [HP.out] at hjp
            cases hjp
            exact he)
        clear heq hd
        go_wp2_with fail
        go_quiet (fail)
        go_wp2_with fail
        exact ⟨⟨i + 1, by go_num, by omega, HF2, q + nq, by first | rfl | rw [World.drewN_drewN]⟩, by simp [intOf]; omega⟩
    · have HE : Hid (r = -1) := (show _ = _ by
        rw [← hr.out]
        unfold atI
        rw [idx_absent (fun j p hj => HF.out j p (by have := (List.getElem?_eq_some_iff.1 hj).1; have := HN.out; omega) hj)])
      clear heq
      go_wp2_with fail
      go_ret
      exact ⟨by rw [HE.out]; rfl, below_dr HB.out _⟩
/-- A value in a new variable, at an end. -/
theorem ret_VB {R : Ending → World → Prop} {fn : Func} {k m : Nat} (hf : fn.results = #[.cell k 32, .tmp m]) (tmps : Array Value) (w : World) (b : Nat) (x : V) (u : Value) (fr : Nat × Nat) (hp : tmps[k]? = some (.pointer (some ⟨b, 0, none⟩))) (hb : w.heap[b]? = some (.cells #[.int .i64 x.1, .int .i64 x.2.1, .string x.2.2] 32 fr)) (hm : tmps[m]? = some u) (h : R (.returned (.tuple #[vV x, u])) w) :
    bodyPost Try.prog fn R Exit.ret { tmps := tmps, defers := [] } w := by
  have h0 : w.cell? ⟨b, 0, none⟩ = some (.int .i64 x.1) := by simp [World.cell?, hb]
  have h1 : w.cell? ⟨b, 1, none⟩ = some (.int .i64 x.2.1) := by simp [World.cell?, hb]
  have h2 : w.cell? ⟨b, 2, none⟩ = some (.string x.2.2) := by simp [World.cell?, hb]
  refine ⟨rfl, .tuple #[vV x, u], ?_, h⟩
  simp [results, hf, hp, hm, go_sem, h0, h1, h2]
theorem V_frozen {w : World} {b : Nat} {cs : Array Value} {t : TypeId} (h : w.heap[b]? = some (.cells cs t)) (i : Nat) : w.frozen? ⟨b, i, none⟩ = false := by simp [World.frozen?, h]
theorem V_store {w : World} {b : Nat} {x0 x1 x2 u0 u1 u2 : Value} {t : TypeId} (h : w.heap[b]? = some (.cells #[x0, x1, x2] t)) : (((w.setCell ⟨b, 0, none⟩ u0).setCell ⟨b, 1, none⟩ u1).setCell ⟨b, 2, none⟩ u2).heap[b]? = some (.cells #[u0, u1, u2] t) := by
  unfold World.setCell
  simp only [Array.getElem?_modify, if_true, h, Option.map_some]
  rfl
theorem set3_below {B : Nat} {a w : World} (h : Below B a w) {b : Nat} (hb : B ≤ b) (u0 u1 u2 : Value) : Below B a (((w.setCell ⟨b, 0, none⟩ u0).setCell ⟨b, 1, none⟩ u1).setCell ⟨b, 2, none⟩ u2) :=
  ((h.setCell (p := ⟨b, 0, none⟩) hb u0).setCell (p := ⟨b, 1, none⟩) hb u1).setCell (p := ⟨b, 2, none⟩) hb u2
theorem RD.pair {w : World} {b : Nat} {v : Value} {l : List Pr} (h : RD w b v l) {i : Nat} {p : Pr} (hi : l[i]? = some p) : ∃ g cap, v = .slice (some ⟨g, 0, none⟩) l.length cap ∧ g < w.heap.size ∧ w.cell? ⟨g, i * 6 + 3, none⟩ = some (.int .i64 p.2.1) ∧ w.cell? ⟨g, i * 6 + 4, none⟩ = some (.int .i64 p.2.2.1) ∧ w.cell? ⟨g, i * 6 + 5, none⟩ = some (.string p.2.2.2) := by
  obtain ⟨pa, cap, rfl, hr⟩ := own_form cP_len h.row
  obtain ⟨g, rfl, hg, _, hc⟩ := hr i p hi
  exact ⟨g, cap, rfl, hg, hc 3 _ rfl, hc 4 _ rfl, hc 5 _ rfl⟩
set_option maxHeartbeats 4000000 in
theorem rGet_is {w : World} {b : Nat} {v : Value} {l : List Pr} {k x : V} {ok : Bool} (hr : Hid (Di.get l k = (x, ok))) (H : Hid (RD w b v l)) (hl : l.length ≤ 1000000) :
    Calls Try.prog 35 #[.pointer (some ⟨b, 0, none⟩), vV k] w fun e w' => e = .returned (.tuple #[.agg #[.int .i64 x.1, .int .i64 x.2.1, .string x.2.2], .bool ok]) ∧ Below w.heap.size w w' := by
  obtain ⟨W, hW⟩ : ∃ W, W = (w.alloc (.cells #[.int .i64 k.1, .int .i64 k.2.1, .string k.2.2] 32)).alloc (.cells #[.int .i64 0, .int .i64 0, .string ⟨#[]⟩] 32) := ⟨_, rfl⟩
  have HB : Hid (Below w.heap.size w W) := (show Below _ _ _ by rw [hW]; exact two_below _ _ _)
  have hbx : W.heap[w.heap.size]? = some (.cells #[.int .i64 k.1, .int .i64 k.2.1, .string k.2.2] 32) := by
    rw [hW]
    show ((w.heap.push _).push _)[_]? = _
    rw [Array.getElem?_push, if_neg (by simp), Array.getElem?_push, if_pos rfl]
  have hby : W.heap[w.heap.size + 1]? = some (.cells #[.int .i64 zeroV.1, .int .i64 zeroV.2.1, .string zeroV.2.2] 32) := by rw [hW]; exact two_heap _ _ _
  obtain ⟨c0, c1, c2⟩ := V_cells hbx
  have HD := Lib.hid (H.out.below HB.out)
  have HW := Lib.hid hW
  obtain ⟨bx, hbxx⟩ : ∃ bx, w.heap.size = bx := ⟨_, rfl⟩
  rw [hbxx] at c0 c1 c2 hby
  have HBY := Lib.hid hby
  have HBX := Lib.hid hbxx
  have HLT : Hid (bx + 1 < W.heap.size) := (show _ < _ from (Array.getElem?_eq_some_iff.1 hby).1)
  clear hbx hby hW hbxx
  cases hi : idx l k with
  | none =>
    have hat : Hid (atI l k = -1) := (show _ = _ by unfold atI; rw [hi])
    have HE : Hid ((x, ok) = (zeroV, false)) := (show _ = _ by rw [← hr.out]; unfold Di.get; rw [hi])
    go_enter Try.func35, Try.ntmps35
    go_upto_region 1 with (fail)
    rw [← HW.out, HBX.out]
    go_wp2_with (go_at_call 38; refine (rat_is hat HD hl).mono ?_; rintro e w1 ⟨rfl, HB1⟩; have HY := Lib.hid ((HB1.block _ HLT.out).trans HBY.out); obtain ⟨y0, y1, y2⟩ := V_cells HY.out; have f0 := V_frozen HY.out 0; have f1 := V_frozen HY.out 1; have f2 := V_frozen HY.out 2)
    refine ret_VB rfl _ _ (bx + 1) zeroV _ _ rfl (V_store HY.out) rfl ?_
    have h := HE.out
    cases h
    exact ⟨rfl, set3_below (HB.out.trans (HB1.mono HB.out.size)) (by have := HBX.out; omega) _ _ _⟩
  | some i =>
    obtain ⟨x', hx'⟩ := idx_some hi
    have hat : Hid (atI l k = (i : Int)) := (show _ = _ by unfold atI; rw [hi])
    have HE : Hid ((x, ok) = (x', true)) := (show _ = _ by rw [← hr.out]; unfold Di.get; rw [hi]; simp only; rw [hx']; rfl)
    have hlt : i < l.length := idx_lt hi
    have HX := Lib.hid hx'
    clear hx' hi
    go_enter Try.func35, Try.ntmps35
    go_upto_region 1 with (fail)
    rw [← HW.out, HBX.out]
    go_wp2_with (go_at_call 38; refine (rat_is hat HD hl).mono ?_; rintro e w1 ⟨rfl, HB1⟩; have HY := Lib.hid ((HB1.block _ HLT.out).trans HBY.out); obtain ⟨y0, y1, y2⟩ := V_cells HY.out; have f0 := V_frozen HY.out 0; have f1 := V_frozen HY.out 1; have f2 := V_frozen HY.out 2; have hD1 := HD.out.below HB1; have d0 := hD1.cell; obtain ⟨g, cap, hv, hg, a3, a4, a5⟩ := hD1.pair HX.out; rw [hv] at d0; clear hD1 hv)
    refine ret_VB rfl _ _ (bx + 1) x' _ _ rfl (V_store HY.out) rfl ?_
    have h := HE.out
    cases h
    exact ⟨rfl, set3_below (HB.out.trans (HB1.mono HB.out.size)) (by have := HBX.out; omega) _ _ _⟩
end Go.Proofs.Ytaghkidelbepnaa
