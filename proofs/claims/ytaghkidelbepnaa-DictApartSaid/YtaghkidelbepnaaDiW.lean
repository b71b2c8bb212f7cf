/-
  The law's row, shown, at this program.
-/
import Derived.Test.YtaghkidelbepnaaDiV
set_option linter.unusedVariables false
set_option linter.unusedSimpArgs false
namespace Go.Proofs.Ytaghkidelbepnaa
open Go.RowKit
open Di

theorem cV_len (x : V) : (cV x).length = 3 := rfl
/-- A row of values of the call's own. -/
def VRow (B : Nat) (v : Value) (l : List V) (w : World) : Prop := w.ownsRow B 32 3 v l.length (l.flatMap cV)
theorem VRow.below {B : Nat} {v : Value} {l : List V} {w w' : World} (h : VRow B v l w) (hb : Below w.heap.size w w') : VRow B v l w' := by
  refine ⟨h.1, ?_⟩
  rcases h.2 with hn | ⟨g, cap, cur, hv, hbg, hg, rest⟩
  · exact .inl hn
  · exact .inr ⟨g, cap, cur, hv, hbg, (hb.block g (Array.getElem?_eq_some_iff.1 hg).1).trans hg, rest⟩
theorem take_succ_eq {α : Type} {l m : List α} {k : Nat} {x y : α} (hx : l[k]? = some x) (hy : m[k]? = some y) (h : l.take k = m.take k) (he : x = y) : l.take (k + 1) = m.take (k + 1) := by
  rw [List.take_add_one, List.take_add_one, hx, hy, h, he]
set_option maxHeartbeats 4000000 in
theorem row_is {w : World} {Ba Bb : Nat} {va vb : Value} {la lb : List V} {r : Bool} (hr : Hid (decide (la = lb) = r)) (HA : Hid (VRow Ba va la w)) (HB : Hid (VRow Bb vb lb w)) (hl : la.length ≤ 1000000) (hl2 : lb.length ≤ 1000000) :
    Calls Try.prog 27 #[va, vb] w fun e w' => e = .returned (.bool r) ∧ Below w.heap.size w w' := by
  obtain ⟨pa, ca, rfl, fa⟩ := own_form cV_len HA.out
  obtain ⟨pb, cb, rfl, fb⟩ := own_form cV_len HB.out
  have FA := Lib.hid fa
  have FB := Lib.hid fb
  obtain ⟨n, hn⟩ : ∃ n, la.length = n := ⟨_, rfl⟩
  obtain ⟨m, hm⟩ : ∃ m, lb.length = m := ⟨_, rfl⟩
  have HN := Lib.hid hn
  have HM := Lib.hid hm
  rw [hn] at hl ⊢
  rw [hm] at hl2 ⊢
  have heq := neq_V
  clear fa fb hn hm
  by_cases hnm : n = m
  · subst hnm
    have g0 : ((n : Int) != (n : Int)) = false := by simp
    go_enter Try.func27, Try.ntmps27
    go_wp2_with fail
    go_loopw [5] (fun v5 wr => ∃ i : Nat, v5 = .int .i64 (i : Int) ∧ i ≤ n ∧ Hid (la.take i = lb.take i) ∧ ∃ q, wr = w.drewN q) (fun v5 _ => n - (intOf v5).toNat)
    case atStart => exact ⟨0, rfl, Nat.zero_le _, rfl, 0, rfl⟩
    case round =>
      obtain ⟨i, rfl, hi, HE, q, rfl⟩ := hrel
      by_cases hlt : i < n
      · obtain ⟨x, hx⟩ : ∃ x, la[i]? = some x := ⟨_, List.getElem?_eq_getElem (by have := HN.out; omega)⟩
        obtain ⟨y, hy⟩ : ∃ y, lb[i]? = some y := ⟨_, List.getElem?_eq_getElem (by have := HM.out; omega)⟩
        obtain ⟨ga, rfl, hga, _, hca⟩ := FA.out i x hx
        obtain ⟨gb, rfl, hgb, _, hcb⟩ := FB.out i y hy
        have a0 := hca 0 _ rfl
        have a1 := hca 1 _ rfl
        have a2 := hca 2 _ rfl
        have b0 := hcb 0 _ rfl
        have b1 := hcb 1 _ rfl
        have b2 := hcb 2 _ rfl
        simp only [Nat.add_zero] at a0 b0
        have HX := Lib.hid hx
        have HY := Lib.hid hy
        clear hca hcb hx hy
        have hcmp := fun wx => heq wx x y
        by_cases hxy : x = y
        · have hd : (!decide (x = y)) = false := by simp [hxy]
          rw [hd] at hcmp
          have HE2 := Lib.hid (take_succ_eq HX.out HY.out HE.out hxy)
          clear heq hd
          go_wp2_with fail
          go_quiet (fail)
          go_wp2_with fail
          exact ⟨⟨i + 1, by go_num, by omega, HE2, q + nq, by first | rfl | rw [World.drewN_drewN]⟩, by simp [intOf]; omega⟩
        · have hd : (!decide (x = y)) = true := by simp [hxy]
          rw [hd] at hcmp
          have HR : Hid (r = false) := (show _ = _ by
            rw [← hr.out]
            apply decide_eq_false
            intro e
            rw [e] at HX
            have := HX.out.symm.trans HY.out
            cases this
            exact hxy rfl)
          clear heq hd
          go_wp2_with fail
          go_quiet (fail)
          go_wp2_with fail
          go_ret
          exact ⟨by rw [HR.out]; rfl, below_dr (below_dr (Below.refl _ _) _) _⟩
      · have HR : Hid (r = true) := (show _ = _ by
          rw [← hr.out]
          apply decide_eq_true
          have h := HE.out
          rw [List.take_of_length_le (by have := HN.out; omega), List.take_of_length_le (by have := HM.out; omega)] at h
          exact h)
        clear heq
        go_wp2_with fail
        go_ret
        exact ⟨by rw [HR.out]; rfl, below_dr (Below.refl _ _) _⟩
  · have g0 : ((n : Int) != (m : Int)) = true := by simp; omega
    have HR : Hid (r = false) := (show _ = _ by
      rw [← hr.out]
      apply decide_eq_false
      intro e
      exact hnm (by rw [← HN.out, ← HM.out, e]))
    rw [HR.out]
    clear heq
    go_enter Try.func27, Try.ntmps27
    go_wp2_with fail
    go_ret
    exact ⟨rfl, Below.refl _ _⟩
/-- A dict of the call's own. -/
structure One (I : DictI) (w0 : World) (a : Nat) (l : List Pr) (w : World) : Prop where
  d : I.DR w a l
  fd : ∀ k, I.FR w a k → w0.heap.size ≤ k
  bel : Below w0.heap.size w0 w
theorem One.below {I : DictI} {w0 w w' : World} {a : Nat} {l : List Pr} (h : One I w0 a l w) (hb : Below w.heap.size w w') : One I w0 a l w' := by
  obtain ⟨h1, h2⟩ := I.kept h.d hb.size (fun k hk => hb.block k (I.lt h.d hk))
  exact ⟨h1, fun k hk => h.fd k (h2 k hk), h.bel.trans (hb.mono h.bel.size)⟩
theorem One.step {I : DictI} {w0 w w' : World} {a : Nat} {l l' : List Pr} (h : One I w0 a l w) (hd : I.DR w' a l') (hb : But (I.FR w a) w w') (hf : ∀ j, I.FR w' a j → I.FR w a j ∨ w.heap.size ≤ j) : One I w0 a l' w' :=
  ⟨hd, fun k hk => (hf k hk).elim (h.fd k) (fun e => Nat.le_trans h.bel.size e), h.bel.trans (hb.below h.bel.size (fun k hk e => by have := h.fd k e; omega))⟩
theorem vok_small {k n : Int} (hk : 0 ≤ k ∧ k ≤ 9) (hn : -9223372036854775808 ≤ n ∧ n ≤ 9223372036854775807) : Vok (k, n, Di.mt) := ⟨(show -9223372036854775808 ≤ k ∧ k ≤ 9223372036854775807 by omega), hn, (show Di.mt.size ≤ _ by decide)⟩
abbrev sh0 : List Pr := []
abbrev sh1 : List Pr := [(((2, 1, Di.mt) : V), ((2, 5, Di.mt) : V))]
abbrev sh2 : List Pr := [(((2, 1, Di.mt) : V), ((2, 5, Di.mt) : V)), (((1, 1, Di.mt) : V), ((2, 6, Di.mt) : V))]
abbrev sh3 : List Pr := [(((2, 1, Di.mt) : V), ((2, 7, Di.mt) : V)), (((1, 1, Di.mt) : V), ((2, 6, Di.mt) : V))]
abbrev sh4 : List Pr := [(((2, 1, Di.mt) : V), ((2, 7, Di.mt) : V))]
abbrev sh5 : List Pr := [(((2, 1, Di.mt) : V), ((2, 7, Di.mt) : V)), (((0, 0, Di.mt) : V), ((2, 8, Di.mt) : V))]
abbrev sh6 : List Pr := [(((2, 1, Di.mt) : V), ((2, 7, Di.mt) : V)), (((0, 0, Di.mt) : V), ((2, 8, Di.mt) : V)), (((1, 1, Di.mt) : V), ((2, 9, Di.mt) : V))]
theorem sp0 : Di.put sh0 ((2, 1, Di.mt) : V) ((2, 5, Di.mt) : V) = (true, sh1) := by decide +kernel
theorem sp1 : Di.put sh1 ((1, 1, Di.mt) : V) ((2, 6, Di.mt) : V) = (true, sh2) := by decide +kernel
theorem sp2 : Di.put sh2 ((2, 1, Di.mt) : V) ((2, 7, Di.mt) : V) = (true, sh3) := by decide +kernel
theorem sp3 : Di.del sh3 ((1, 1, Di.mt) : V) = (true, sh4) := by decide +kernel
theorem sp4 : Di.put sh4 ((0, 0, Di.mt) : V) ((2, 8, Di.mt) : V) = (true, sh5) := by decide +kernel
theorem sp5 : Di.put sh5 ((1, 1, Di.mt) : V) ((2, 9, Di.mt) : V) = (true, sh6) := by decide +kernel
set_option maxHeartbeats 8000000 in
set_option maxRecDepth 100000 in
theorem shown10 (I : DictI) (w : World) : Calls Try.prog 12 #[] w fun e w' => e = .returned (.bool true) ∧ Below w.heap.size w w' := by
  have HV : ∀ k n : Int, 0 ≤ k ∧ k ≤ 9 → 0 ≤ n ∧ n ≤ 9 → Hid (Vok (k, n, Di.mt)) := fun k n h1 h2 => vok_small h1 (by omega)
  go_enter Try.func12, Try.ntmps12
  go_upto_region 4 with (go_at_call 13; refine (I.new_ _).mono ?_; rintro e w1 ⟨a, rfl, HD1, HB1, HF1⟩; have HS : Hid (One I w a sh0 w1) := (show One _ _ _ _ _ from ⟨HD1.out, HF1.out, HB1.out⟩); clear HD1 HB1 HF1)
  go_upto_region 5 with (first
    | (go_at_call 20; refine (I.put_ (k := ((2, 1, Di.mt) : V)) (x := ((2, 5, Di.mt) : V)) (Lib.hid sp0) (Lib.hid HS.out.d) (by decide) (HV _ _ (by omega) (by omega)).out (HV _ _ (by omega) (by omega)).out).mono ?_; rintro e wn ⟨rfl, hd, hb, hf⟩; have HT := Lib.hid (HS.out.step hd.out hb.out hf.out); clear HS hd hb hf; have HS := HT; clear HT)
    | (go_at_call 33; refine (yes_is _).mono ?_; rintro e wn ⟨rfl, hb⟩; have HT := Lib.hid (HS.out.below hb); clear HS hb; have HS := HT; clear HT)
    | (go_at_call 32; refine (one_is _ _).mono ?_; rintro e wn ⟨rfl, hb⟩; have HT := Lib.hid (HS.out.below hb); clear HS hb; have HS := HT; clear HT))
  go_upto_region 6 with (first
    | (go_at_call 20; refine (I.put_ (k := ((1, 1, Di.mt) : V)) (x := ((2, 6, Di.mt) : V)) (Lib.hid sp1) (Lib.hid HS.out.d) (by decide) (HV _ _ (by omega) (by omega)).out (HV _ _ (by omega) (by omega)).out).mono ?_; rintro e wn ⟨rfl, hd, hb, hf⟩; have HT := Lib.hid (HS.out.step hd.out hb.out hf.out); clear HS hd hb hf; have HS := HT; clear HT)
    | (go_at_call 33; refine (yes_is _).mono ?_; rintro e wn ⟨rfl, hb⟩; have HT := Lib.hid (HS.out.below hb); clear HS hb; have HS := HT; clear HT)
    | (go_at_call 32; refine (one_is _ _).mono ?_; rintro e wn ⟨rfl, hb⟩; have HT := Lib.hid (HS.out.below hb); clear HS hb; have HS := HT; clear HT))
  go_upto_region 7 with (first
    | (go_at_call 20; refine (I.put_ (k := ((2, 1, Di.mt) : V)) (x := ((2, 7, Di.mt) : V)) (Lib.hid sp2) (Lib.hid HS.out.d) (by decide) (HV _ _ (by omega) (by omega)).out (HV _ _ (by omega) (by omega)).out).mono ?_; rintro e wn ⟨rfl, hd, hb, hf⟩; have HT := Lib.hid (HS.out.step hd.out hb.out hf.out); clear HS hd hb hf; have HS := HT; clear HT)
    | (go_at_call 33; refine (yes_is _).mono ?_; rintro e wn ⟨rfl, hb⟩; have HT := Lib.hid (HS.out.below hb); clear HS hb; have HS := HT; clear HT)
    | (go_at_call 32; refine (one_is _ _).mono ?_; rintro e wn ⟨rfl, hb⟩; have HT := Lib.hid (HS.out.below hb); clear HS hb; have HS := HT; clear HT))
  go_upto_region 8 with (first
    | (go_at_call 23; refine (I.del_ (k := ((1, 1, Di.mt) : V)) (Lib.hid sp3) (Lib.hid HS.out.d) (by decide) (HV _ _ (by omega) (by omega)).out).mono ?_; rintro e wn ⟨rfl, hd, hb, hf⟩; have HT := Lib.hid (HS.out.step hd.out hb.out hf.out); clear HS hd hb hf; have HS := HT; clear HT)
    | (go_at_call 33; refine (yes_is _).mono ?_; rintro e wn ⟨rfl, hb⟩; have HT := Lib.hid (HS.out.below hb); clear HS hb; have HS := HT; clear HT)
    | (go_at_call 32; refine (one_is _ _).mono ?_; rintro e wn ⟨rfl, hb⟩; have HT := Lib.hid (HS.out.below hb); clear HS hb; have HS := HT; clear HT))
  go_upto_region 9 with (first
    | (go_at_call 20; refine (I.put_ (k := ((0, 0, Di.mt) : V)) (x := ((2, 8, Di.mt) : V)) (Lib.hid sp4) (Lib.hid HS.out.d) (by decide) (HV _ _ (by omega) (by omega)).out (HV _ _ (by omega) (by omega)).out).mono ?_; rintro e wn ⟨rfl, hd, hb, hf⟩; have HT := Lib.hid (HS.out.step hd.out hb.out hf.out); clear HS hd hb hf; have HS := HT; clear HT)
    | (go_at_call 33; refine (yes_is _).mono ?_; rintro e wn ⟨rfl, hb⟩; have HT := Lib.hid (HS.out.below hb); clear HS hb; have HS := HT; clear HT)
    | (go_at_call 32; refine (one_is _ _).mono ?_; rintro e wn ⟨rfl, hb⟩; have HT := Lib.hid (HS.out.below hb); clear HS hb; have HS := HT; clear HT))
  go_upto_region 10 with (first
    | (go_at_call 20; refine (I.put_ (k := ((1, 1, Di.mt) : V)) (x := ((2, 9, Di.mt) : V)) (Lib.hid sp5) (Lib.hid HS.out.d) (by decide) (HV _ _ (by omega) (by omega)).out (HV _ _ (by omega) (by omega)).out).mono ?_; rintro e wn ⟨rfl, hd, hb, hf⟩; have HT := Lib.hid (HS.out.step hd.out hb.out hf.out); clear HS hd hb hf; have HS := HT; clear HT)
    | (go_at_call 33; refine (yes_is _).mono ?_; rintro e wn ⟨rfl, hb⟩; have HT := Lib.hid (HS.out.below hb); clear HS hb; have HS := HT; clear HT)
    | (go_at_call 32; refine (one_is _ _).mono ?_; rintro e wn ⟨rfl, hb⟩; have HT := Lib.hid (HS.out.below hb); clear HS hb; have HS := HT; clear HT))
  go_wp2_with (first
    | (go_at_call 27; refine (row_is (la := [((2, 1, Di.mt) : V), ((0, 0, Di.mt) : V), ((1, 1, Di.mt) : V)]) (lb := [((2, 1, Di.mt) : V), ((0, 0, Di.mt) : V), ((1, 1, Di.mt) : V)]) (r := true) (show decide _ = true from by decide +kernel) HKR HLR (by decide) (by decide)).mono ?_; rintro e wn ⟨rfl, hb⟩; have HT := Lib.hid (HS.out.below hb); clear HS hb; have HS := HT; clear HT)
    | (go_at_call 33; refine (yes_is _).mono ?_; rintro e wn ⟨rfl, hb⟩; have HT := Lib.hid (HS.out.below (hb.trans ((below_new wn (.cells #[.int .i64 2, .int .i64 1, .string ⟨#[]⟩, .int .i64 0, .int .i64 0, .string ⟨#[]⟩, .int .i64 1, .int .i64 1, .string ⟨#[]⟩] 32)).mono hb.size))); have HK2 := Lib.hid (VRow.below HKR.out (hb.trans ((below_new wn (.cells #[.int .i64 2, .int .i64 1, .string ⟨#[]⟩, .int .i64 0, .int .i64 0, .string ⟨#[]⟩, .int .i64 1, .int .i64 1, .string ⟨#[]⟩] 32)).mono hb.size))); have HLR : Hid (VRow wn.heap.size (.slice (some ⟨wn.heap.size, 0, none⟩) 3 3) [((2, 1, Di.mt) : V), ((0, 0, Di.mt) : V), ((1, 1, Di.mt) : V)] (wn.alloc (.cells #[.int .i64 2, .int .i64 1, .string ⟨#[]⟩, .int .i64 0, .int .i64 0, .string ⟨#[]⟩, .int .i64 1, .int .i64 1, .string ⟨#[]⟩] 32))) := (World.ownsRow_lit (e := 32) (size := 3) (base := wn.heap.size) wn #[.int .i64 2, .int .i64 1, .string ⟨#[]⟩, .int .i64 0, .int .i64 0, .string ⟨#[]⟩, .int .i64 1, .int .i64 1, .string ⟨#[]⟩] 3 (Nat.le_refl _) (by decide) rfl); clear HS HKR hb; have HS := HT; have HKR := HK2; clear HT HK2)
    | (go_at_call 32; refine (one_is _ _).mono ?_; rintro e wn ⟨rfl, hb⟩; have HT := Lib.hid (HS.out.below hb); have HK2 := Lib.hid (VRow.below HKR.out hb); clear HS HKR hb; have HS := HT; have HKR := HK2; clear HT HK2)
    | (go_at_call 26; refine (I.keys_ (n := 3) (show sh6.length = 3 from rfl) (Lib.hid HS.out.d) (by decide)).mono ?_; rintro e wn ⟨pk, ck, rfl, ho, hb⟩; have HT := Lib.hid (HS.out.below hb.out); have HKR : Hid (VRow _ (.slice pk 3 ck) [((2, 1, Di.mt) : V), ((0, 0, Di.mt) : V), ((1, 1, Di.mt) : V)] wn) := ho.out; clear HS hb ho; have HS := HT; clear HT))
  go_ret
  exact ⟨rfl, HS.out.bel⟩
end Go.Proofs.Ytaghkidelbepnaa
