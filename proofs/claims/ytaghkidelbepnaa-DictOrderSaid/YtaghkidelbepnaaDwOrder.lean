/-
  DictOrder of layer 10: the walk, at this program.
-/
import Derived.Test.YtaghkidelbepnaaDiL
set_option linter.unusedVariables false
set_option linter.unusedSimpArgs false
namespace Go.Proofs.Ytaghkidelbepnaa
namespace lawDictOrder
open Go.RowKit
open Di

/-- A row of values of the call's own, apart from the dict. -/
structure Rw (I : DictI) (a B : Nat) (v : Value) (l : List V) (w : World) : Prop where
  row : VRow B v l w
  ap : ∀ k, v.ownBlock = some k → ¬ I.FR w a k
theorem Rw.lt {I : DictI} {a B : Nat} {v : Value} {l : List V} {w : World} (h : Rw I a B v l w) {k : Nat} (hk : v.ownBlock = some k) : B ≤ k ∧ k < w.heap.size := h.row.lt k hk
theorem Rw.below {I : DictI} {a B : Nat} {v : Value} {l : List V} {ld : List Pr} {w w' : World} (h : Rw I a B v l w) (hd : I.DR w a ld) (hb : Below w.heap.size w w') : Rw I a B v l w' :=
  ⟨h.row.below hb, fun k hk e => h.ap k hk ((I.kept hd hb.size (fun j hj => hb.block j (I.lt hd hj))).2 k e)⟩
theorem vrow_blk {B : Nat} {v : Value} {l : List V} {w w' : World} (h : VRow B v l w) (hb : ∀ k, v.ownBlock = some k → w'.heap[k]? = w.heap[k]?) : VRow B v l w' := by
  refine ⟨h.1, ?_⟩
  rcases h.2 with h2 | ⟨g, cap, cur, rfl, hg, hgb, r⟩
  · exact Or.inl h2
  · exact Or.inr ⟨g, cap, cur, rfl, hg, (hb g rfl).trans hgb, r⟩
theorem Rw.step {I : DictI} {a B : Nat} {v : Value} {l : List V} {w w' : World} (h : Rw I a B v l w) (hb : But (I.FR w a) w w') (hf : ∀ j, I.FR w' a j → I.FR w a j ∨ w.heap.size ≤ j) : Rw I a B v l w' :=
  ⟨vrow_blk h.row (fun k hk => hb.block k (h.lt hk).2 (h.ap k hk)), fun k hk e => (hf k e).elim (h.ap k hk) (fun e2 => by have := (h.lt hk).2; omega)⟩
theorem Rw.keys {I : DictI} {a : Nat} {v : Value} {l : List V} {ld : List Pr} {w w' : World} (hd : I.DR w a ld) (hr : VRow w.heap.size v l w') (hb : Below w.heap.size w w') : Rw I a w.heap.size v l w' :=
  ⟨hr, fun k hk e => by
    have h1 := (hr.lt k hk).1
    have h2 := I.lt hd ((I.kept hd hb.size (fun j hj => hb.block j (I.lt hd hj))).2 k e)
    omega⟩
theorem keys_at {L : List Pr} {a : V} (hs : (lk L a).isSome = true) (hn : Nd L) : ∃ t : Nat, t < L.length ∧ (L.map (·.1))[t]? = some a ∧ (∀ j, (L.map (·.1))[j]? = some a → j = t) ∧ (era L a).map (·.1) = (L.map (·.1)).take t ++ (L.map (·.1)).drop (t + 1) := by
  induction L with
  | nil => simp [lk] at hs
  | cons p l ih =>
    unfold Nd at hn ih
    rw [List.map_cons, List.nodup_cons] at hn
    by_cases h : p.1 = a
    · refine ⟨0, by simp, by simp [h], fun j hj => ?_, ?_⟩
      · cases j with
        | zero => rfl
        | succ j =>
          rw [List.map_cons, List.getElem?_cons_succ] at hj
          exact absurd (List.mem_of_getElem? hj) (by rw [← h]; exact hn.1)
      · unfold era; rw [if_pos h]; simp
    · unfold lk at hs
      rw [if_neg h] at hs
      obtain ⟨t, h1, h2, h3, h4⟩ := ih hs hn.2
      refine ⟨t + 1, by simp; omega, by simpa using h2, fun j hj => ?_, ?_⟩
      · cases j with
        | zero => simp at hj; exact absurd hj h
        | succ j =>
          rw [List.map_cons, List.getElem?_cons_succ] at hj
          rw [h3 j hj]
      · unfold era
        rw [if_neg h, List.map_cons, h4]
        simp
theorem order {L : List Pr} {a : V} (x0 x1 : V) (ha : keyOk a = true) (hn : Nd L) (hl : L.length ≤ 100) : ∃ (L1 L2 L3 L4 : List Pr) (K : List V) (t : Nat), put L a x0 = (true, L1) ∧ L1.map (·.1) = K ∧ put L1 a x1 = (true, L2) ∧ L2.map (·.1) = K ∧ t < K.length ∧ K[t]? = some a ∧ (∀ j, K[j]? = some a → j = t) ∧
    del L2 a = (true, L3) ∧ L3.map (·.1) = K.take t ++ K.drop (t + 1) ∧ put L3 a x0 = (true, L4) ∧ L4.map (·.1) = (K.take t ++ K.drop (t + 1)) ++ [a] ∧ K.length ≤ 101 := by
  have n1 := upd_nd a x0 hn
  have s1 : lk (upd L a x0) a = some x0 := by rw [lk_upd, if_pos rfl]
  have l1 : (upd L a x0).length ≤ 101 := by rw [upd_length]; split <;> omega
  have n2 := upd_nd a x1 n1
  have s2 : lk (upd (upd L a x0) a x1) a = some x1 := by rw [lk_upd, if_pos rfl]
  have k2 : (upd (upd L a x0) a x1).map (·.1) = (upd L a x0).map (·.1) := by rw [upd_keys, s1]; rfl
  obtain ⟨t, h1, h2, h3, h4⟩ := keys_at (a := a) (by rw [s2]; rfl) n2
  have s3 : lk (era (upd (upd L a x0) a x1) a) a = none := by rw [lk_era _ _ n2, if_pos rfl]
  have len2 : (upd (upd L a x0) a x1).length = (upd L a x0).length := by have := congrArg List.length k2; simpa using this
  have l3 : (era (upd (upd L a x0) a x1) a).length < mx := by rw [era_length, s2]; simp; unfold mx; omega
  rw [k2] at h2 h3 h4
  refine ⟨_, _, _, _, _, t, put_upd x0 ha (.inl (by unfold mx; omega)), rfl, put_upd x1 ha (.inl (by unfold mx; omega)), k2, by rw [List.length_map]; omega, h2, h3, by rw [del_era, s2]; rfl, h4, put_upd x0 ha (.inl l3), ?_, by rw [List.length_map]; exact l1⟩
  rw [upd_keys, s3, h4]; rfl
/-- A block beside the dict. -/
structure Blk (I : DictI) (a b : Nat) (o : Obj) (w : World) : Prop where
  at_ : w.heap[b]? = some o
  ap : ¬ I.FR w a b
theorem Blk.lt {I : DictI} {a b : Nat} {o : Obj} {w : World} (h : Blk I a b o w) : b < w.heap.size := (Array.getElem?_eq_some_iff.1 h.at_).1
theorem Blk.below {I : DictI} {a b : Nat} {o : Obj} {ld : List Pr} {w w' : World} (h : Blk I a b o w) (hd : I.DR w a ld) (hb : Below w.heap.size w w') : Blk I a b o w' :=
  ⟨(hb.block b h.lt).trans h.at_, fun e => h.ap ((I.kept hd hb.size (fun j hj => hb.block j (I.lt hd hj))).2 b e)⟩
theorem Blk.step {I : DictI} {a b : Nat} {o : Obj} {w w' : World} (h : Blk I a b o w) (hb : But (I.FR w a) w w') (hf : ∀ j, I.FR w' a j → I.FR w a j ∨ w.heap.size ≤ j) : Blk I a b o w' :=
  ⟨(hb.block b h.lt h.ap).trans h.at_, fun e => (hf b e).elim h.ap (fun e2 => by have := h.lt; omega)⟩
theorem cells6 {w : World} {b : Nat} {t : TypeId} {x0 x1 x2 x3 x4 x5 : Value} (h : w.heap[b]? = some (.cells #[x0, x1, x2, x3, x4, x5] t)) : w.cell? ⟨b, 0, none⟩ = some x0 ∧ w.cell? ⟨b, 1, none⟩ = some x1 ∧ w.cell? ⟨b, 2, none⟩ = some x2 ∧ w.cell? ⟨b, 3, none⟩ = some x3 ∧ w.cell? ⟨b, 4, none⟩ = some x4 ∧ w.cell? ⟨b, 5, none⟩ = some x5 := by
  refine ⟨?_, ?_, ?_, ?_, ?_, ?_⟩ <;> simp [World.cell?, h]
abbrev pbox (x y : V) : Obj := .cells #[.int .i64 x.1, .int .i64 x.2.1, .string x.2.2, .int .i64 y.1, .int .i64 y.2.1, .string y.2.2] 45
set_option maxHeartbeats 16000000 in
set_option maxRecDepth 100000 in
theorem walk (I : DictI) {k x y : V} {v0 : Value} {l : List Cl} {w : World} (HV : Hid (Vok k)) (HX : Hid (Vok x)) (HY : Hid (Vok y)) (HC : Hid (CRow v0 l w)) (HOK : Hid (∀ c ∈ l, Cok c)) (hl : l.length ≤ 140737488355328) :
    Calls Try.prog 6 #[v0, vV k, .agg #[.int .i64 x.1, .int .i64 x.2.1, .string x.2.2, .int .i64 y.1, .int .i64 y.2.1, .string y.2.2]] w fun e w' => e = .returned (.bool true) ∧ Below w.heap.size w w' := by
  obtain ⟨W, hW⟩ : ∃ W, W = (w.alloc (.cells #[.int .i64 k.1, .int .i64 k.2.1, .string k.2.2] 32)).alloc (pbox x y) := ⟨_, rfl⟩
  have HB : Hid (Below w.heap.size w W) := (show Below _ _ _ by rw [hW]; exact two_below _ _ _)
  obtain ⟨b4, hb4⟩ : ∃ bx, w.heap.size = bx := ⟨_, rfl⟩
  obtain ⟨b5, hb5⟩ : ∃ bx, w.heap.size + 1 = bx := ⟨_, rfl⟩
  have HE4 : Hid (BoxV W b4 k) := (show BoxV _ _ _ by rw [hW, ← hb4]; exact two_first _ _ _)
  have HE5 : Hid (W.heap[b5]? = some (pbox x y)) := (show _ = _ by rw [hW, ← hb5]; exact two_heap _ _ _)
  have HB4 := Lib.hid hb4
  have HB5 := Lib.hid hb5
  have HW := Lib.hid hW
  obtain ⟨pa, cap, hv0, _⟩ := HC.out.form
  subst hv0
  obtain ⟨L, hL⟩ : ∃ L, Di.made l = L := ⟨_, rfl⟩
  have HLL : Hid (L.length ≤ 100) := (show _ ≤ _ by rw [← hL]; have := made_length l; omega)
  have HLN : Hid (Nd L) := (show Nd _ by rw [← hL]; exact made_nd l)
  have HL := Lib.hid hL
  obtain ⟨f, hf⟩ := hid_ex (fitK k)
  have HKF : Hid (keyOk f = true) := (show _ = _ by rw [← hf.out]; exact fitK_ok k)
  have HFV : Hid (Vok f) := (show Vok f by rw [← hf.out]; exact fitK_vok HV.out)
  obtain ⟨L1, L2, L3, L4, K, t, q1, q2, q3, q4, q5, q6, q7, q8, q9, q10, q11, q12⟩ := order x y HKF.out HLN.out HLL.out
  obtain ⟨n, hn⟩ : ∃ n, K.length = n := ⟨_, rfl⟩
  obtain ⟨M, hM⟩ : ∃ M, K.take t ++ K.drop (t + 1) = M := ⟨_, rfl⟩
  rw [hM] at q9 q11
  have P1 := Lib.hid q1
  have P2 := Lib.hid q2
  have P3 := Lib.hid q3
  have P4 := Lib.hid q4
  have P6 := Lib.hid q6
  have P7 := Lib.hid q7
  have P8 := Lib.hid q8
  have P9 := Lib.hid q9
  have P10 := Lib.hid q10
  have P11 := Lib.hid q11
  have HM := Lib.hid hM
  have HN := Lib.hid hn
  have hlen : ∀ (X : List Pr) (Y : List V), X.map (·.1) = Y → X.length = Y.length := fun X Y h => by rw [← h, List.length_map]
  have HN1 : Hid (L1.length = n) := (show _ = _ by rw [hlen L1 K q2, hn])
  have HN2 : Hid (L2.length = n) := (show _ = _ by rw [hlen L2 K q4, hn])
  have hMl : M.length = n - 1 := by rw [← hM, List.length_append, List.length_take, List.length_drop, hn]; omega
  have HML := Lib.hid hMl
  have HN3 : Hid (L3.length = n - 1) := (show _ = _ by rw [hlen L3 M q9, hMl])
  have HN4 : Hid (L4.length = n) := (show _ = _ by rw [hlen L4 _ q11, List.length_append, hMl]; simp; omega)
  have HNB : Hid (n ≤ 101 ∧ t < n) := (show _ ∧ _ by omega)
  clear hW hb4 hb5 hL q1 q2 q3 q4 q5 q6 q7 q8 q9 q10 q11 q12 hn hM hlen hMl
  go_enter Try.func6, Try.ntmps6
  go_upto_region 1 with (fail)
  rw [← HW.out, HB5.out, HB4.out]
  go_upto_region 3 with (first
    | (go_at_call 17; refine (made_is I (Lib.hid (HC.out.below (HB.out.trans (HB1.mono HB.out.size)))) HOK hl).mono ?_; rintro e w2 ⟨a, br, vr, rfl, HT2, HB2⟩; rw [HL.out] at HT2)
    | (go_at_call 12; refine (shown10 I _).mono ?_; rintro e w1 ⟨rfl, HB1⟩))
  have HS : Hid (Sta I w a L [(b4, k)] w2) := (show Sta _ _ _ _ _ _ from Sta.made (HB.out.trans (HB1.mono HB.out.size)) HT2.out HB2.out (fun b y hy => by simp at hy; obtain ⟨rfl, rfl⟩ := hy; exact HE4.out.below HB1))
  have HQ : Hid (Blk I a b5 (pbox x y) w2) := (show Blk _ _ _ _ _ from by
    have h1 : w1.heap[b5]? = some (pbox x y) := (HB1.block b5 (Array.getElem?_eq_some_iff.1 HE5.out).1).trans HE5.out
    have h2 := (Array.getElem?_eq_some_iff.1 h1).1
    exact ⟨(HB2.out.block b5 h2).trans h1, fun e => by have := HT2.out.fd b5 e; omega⟩)
  obtain ⟨a0, a1, a2⟩ := HS.out.cells (b := b4) (x := k) (by simp)
  clear HB1 HB2 HT2 HW HB HE4 HE5
  go_upto_region 6 with (go_at_call 24; refine (rFit_is hf _).mono ?_; rintro e w3 ⟨rfl, HB3⟩)
  obtain ⟨W3, hW3⟩ : ∃ W, W = w3.alloc (.cells #[.int .i64 f.1, .int .i64 f.2.1, .string f.2.2] 32) := ⟨_, rfl⟩
  obtain ⟨b10, hb10⟩ : ∃ b, w3.heap.size = b := ⟨_, rfl⟩
  have HS3 := Lib.hid ((HS.out.below HB3).box f hW3 hb10)
  have HQ3 : Hid (Blk I a b5 (pbox x y) W3) := (show Blk _ _ _ _ _ by rw [hW3]; exact HQ.out.below HS.out.one.d (HB3.trans ((below_new w3 _).mono HB3.size)))
  rw [← hW3, hb10]
  clear hW3 hb10 a0 a1 a2 HS HB3 HQ
  obtain ⟨c0, c1, c2⟩ := HS3.out.cells (b := b10) (x := f) (by simp)
  obtain ⟨a0, a1, a2, a3, a4, a5⟩ := cells6 HQ3.out.at_
  go_upto_region 7 with (go_at_call 20; refine (I.put_ P1 (Lib.hid HS3.out.one.d) (by have := HLL.out; omega) HFV.out HX.out).mono ?_; rintro e w4 ⟨rfl, HDn, HBn, HFn⟩)
  have HS4 := Lib.hid (HS3.out.step HDn.out HBn.out HFn.out)
  have HQ4 := Lib.hid (HQ3.out.step HBn.out HFn.out)
  clear HDn HBn HFn HS3 HQ3 a0 a1 a2 a3 a4 a5 c0 c1 c2
  go_upto_region 8 with (go_at_call 26; refine (I.keys_ HN1 (Lib.hid HS4.out.one.d) (by have := HNB.out; omega)).mono ?_; rintro e w5 ⟨pk, ck, rfl, HO, HBn⟩; rw [P2.out] at HO)
  have HR5 : Hid (Rw I a w4.heap.size (.slice pk n ck) K w5) := (show Rw _ _ _ _ _ _ from Rw.keys HS4.out.one.d (by have := HO.out; unfold VRow; rw [HN.out]; exact this) HBn.out)
  have HS5 := Lib.hid (HS4.out.below HBn.out)
  have HQ5 := Lib.hid (HQ4.out.below HS4.out.one.d HBn.out)
  clear HS4 HQ4 HO HBn
  obtain ⟨c0, c1, c2⟩ := HS5.out.cells (b := b10) (x := f) (by simp)
  obtain ⟨a0, a1, a2, a3, a4, a5⟩ := cells6 HQ5.out.at_
  go_upto_region 9 with (go_at_call 20; refine (I.put_ P3 (Lib.hid HS5.out.one.d) (by have := HNB.out; have := HN1.out; omega) HFV.out HY.out).mono ?_; rintro e w6 ⟨rfl, HDn, HBn, HFn⟩)
  have HS6 := Lib.hid (HS5.out.step HDn.out HBn.out HFn.out)
  have HQ6 := Lib.hid (HQ5.out.step HBn.out HFn.out)
  have HR6 := Lib.hid (HR5.out.step HBn.out HFn.out)
  clear HDn HBn HFn HS5 HQ5 HR5 a0 a1 a2 a3 a4 a5 c0 c1 c2
  go_upto_region 12 with (go_at_call 26; refine (I.keys_ HN2 (Lib.hid HS6.out.one.d) (by have := HNB.out; omega)).mono ?_; rintro e w7 ⟨p2, k2, rfl, HO, HBn⟩; rw [P4.out] at HO)
  have HU7 : Hid (Rw I a w6.heap.size (.slice p2 n k2) K w7) := (show Rw _ _ _ _ _ _ from Rw.keys HS6.out.one.d (by have := HO.out; unfold VRow; rw [HN.out]; exact this) HBn.out)
  have HS7 := Lib.hid (HS6.out.below HBn.out)
  have HQ7 := Lib.hid (HQ6.out.below HS6.out.one.d HBn.out)
  have HR7 := Lib.hid (HR6.out.below HS6.out.one.d HBn.out)
  clear HS6 HQ6 HR6 HO HBn
  have FK := Lib.hid (own_cells cV_len HN.out (by have := HR7.out.row; unfold VRow at this; rw [HN.out] at this; exact this) (Below.refl _ w7))
  obtain ⟨gk, rfl⟩ : ∃ gk, pk = some ⟨gk, 0, none⟩ := by obtain ⟨g, h, _⟩ := FK.out t f P6.out; exact ⟨g, h⟩
  obtain ⟨c0, c1, c2⟩ := HS7.out.cells (b := b10) (x := f) (by simp)
  go_loopw [15, 16] (fun v15 v16 wr => ∃ i : Nat, v16 = .int .i64 (i : Int) ∧ i ≤ n ∧ v15 = .int .i64 (if i ≤ t then -1 else (t : Int)) ∧ ∃ q, wr = w7.drewN q) (fun _ v16 _ => n - (intOf v16).toNat)
  case atStart => exact ⟨0, rfl, Nat.zero_le _, by simp, 0, rfl⟩
  case round =>
    obtain ⟨i, rfl, hi, rfl, q, rfl⟩ := hrel
    have hn101 : n ≤ 101 := HNB.out.1
    by_cases hlt : i < n
    · obtain ⟨z, hz⟩ : ∃ z, K[i]? = some z := ⟨_, List.getElem?_eq_getElem (by have := HN.out; omega)⟩
      obtain ⟨g, hg, hc⟩ := FK.out i z hz
      simp only [Option.some.injEq, Addr.mk.injEq, and_true] at hg
      subst hg
      have d0 := hc 0 _ rfl
      have d1 := hc 1 _ rfl
      have d2 := hc 2 _ rfl
      simp only [Nat.add_zero] at d0
      have hcmp := fun wx => eql_V wx z f
      have hlt' : (i : Int) < (n : Int) := by omega
      by_cases hit : i = t
      · have hzf : z = f := by have := P6.out; rw [hit] at hz; rw [hz] at this; exact Option.some.inj this
        have hd : decide (z = f) = true := by simp [hzf]
        rw [hd] at hcmp
        have hv : (if i ≤ t then (-1 : Int) else (t : Int)) = -1 := if_pos (by omega)
        rw [hv]
        have hv2 : (if i + 1 ≤ t then (-1 : Int) else (t : Int)) = (i : Int) := by rw [if_neg (by omega), hit]
        have HV2 := Lib.hid hv2
        clear hc hz hd hzf hv hv2 hit
        go_wp2_with fail
        go_quiet (fail)
        go_wp2_with fail
        exact ⟨⟨i + 1, by go_num, by omega, by rw [HV2.out], q + nq, by first | rfl | rw [World.drewN_drewN]⟩, by simp [intOf]; omega⟩
      · have hzf : z ≠ f := fun e => hit (P7.out i (by rw [hz, e]))
        have hd : decide (z = f) = false := by simp [hzf]
        rw [hd] at hcmp
        obtain ⟨vv, hvv⟩ : ∃ vv, (if i ≤ t then (-1 : Int) else (t : Int)) = vv := ⟨_, rfl⟩
        have hv2 : (if i + 1 ≤ t then (-1 : Int) else (t : Int)) = vv := by rw [← hvv]; by_cases h : i ≤ t; { rw [if_pos h, if_pos (by omega)] }; { rw [if_neg h, if_neg (by omega)] }
        rw [hvv]
        have HV2 := Lib.hid hv2
        clear hc hz hd hzf hvv hv2 hit
        go_wp2_with fail
        go_quiet (fail)
        go_wp2_with fail
        exact ⟨⟨i + 1, by go_num, by omega, by rw [HV2.out], q + nq, by first | rfl | rw [World.drewN_drewN]⟩, by simp [intOf]; omega⟩
    · have hv : (if i ≤ t then (-1 : Int) else (t : Int)) = (t : Int) := if_neg (by have := HNB.out; omega)
      rw [hv]
      have hin : i = n := by omega
      subst hin
      clear hv c0 c1 c2
      obtain ⟨W8, hW8⟩ : ∃ W, W = w7.drewN q := ⟨_, rfl⟩
      have hb8 : Below w7.heap.size w7 W8 := by rw [hW8]; exact below_dr (Below.refl _ _) _
      have HS8 := Lib.hid (HS7.out.below hb8)
      have HQ8 := Lib.hid (HQ7.out.below HS7.out.one.d hb8)
      have HR8 := Lib.hid (HR7.out.below HS7.out.one.d hb8)
      have HU8 := Lib.hid (HU7.out.below HS7.out.one.d hb8)
      rw [← hW8]
      clear hW8 hb8 HS7 HQ7 HR7 HU7 FK hlt hi
      have ht0 : ¬ (t : Int) < 0 := by omega
      go_upto_region 18 with (go_at_call 27; refine (row_is (la := K) (lb := K) (r := true) (show decide _ = true from by simp) (show VRow _ _ _ _ from HR8.out.row) (show VRow _ _ _ _ from HU8.out.row) (by have := HNB.out; have := HN.out; omega) (by have := HNB.out; have := HN.out; omega)).mono ?_; rintro e w9 ⟨rfl, hb⟩; have HS9 := Lib.hid (HS8.out.below hb); have HQ9 := Lib.hid (HQ8.out.below HS8.out.one.d hb); have HR9 := Lib.hid (HR8.out.below HS8.out.one.d hb))
      clear HS8 HQ8 HR8 HU8
      obtain ⟨c0, c1, c2⟩ := HS9.out.cells (b := b10) (x := f) (by simp)
      have HTN : Hid (t < i ∧ i ≤ 101) := (show _ ∧ _ from ⟨HNB.out.2, HNB.out.1⟩)
      go_upto_region 19 with (go_at_call 23; refine (I.del_ P8 (Lib.hid HS9.out.one.d) (by have := HTN.out; have := HN2.out; omega) HFV.out).mono ?_; rintro e w10 ⟨rfl, HDn, HBn, HFn⟩)
      have HS10 := Lib.hid (HS9.out.step HDn.out HBn.out HFn.out)
      have HQ10 := Lib.hid (HQ9.out.step HBn.out HFn.out)
      have HR10 := Lib.hid (HR9.out.step HBn.out HFn.out)
      clear HDn HBn HFn HS9 HQ9 HR9 c0 c1 c2
      have hti := HTN.out.1
      have HRO : Hid (w10.ownsRow w4.heap.size 32 3 (.slice (some ⟨gk, 0, none⟩) i ck) i (K.flatMap cV)) := (show World.ownsRow _ _ _ _ _ _ _ by have := HR10.out.row; unfold VRow at this; rw [HN.out] at this; exact this)
      have hcap : i ≤ ck := by
        rcases HRO.out.2 with ⟨hv, _⟩ | ⟨g', cap', cur, hv, _, _, hnc, _⟩
        · simp at hv
        · simp only [Value.slice.injEq, Option.some.injEq, Addr.mk.injEq, and_true, true_and] at hv
          omega
      have hcap' : (t : Int) ≤ (ck : Int) := by omega
      have hrest := run_restV gk i ck (t + 1) (by omega)
      obtain ⟨rv, hrv⟩ : ∃ rv, restVV gk (t + 1) i ck = rv := ⟨_, rfl⟩
      rw [hrv] at hrest
      have HRV := Lib.hid hrv
      have hw1 : IntKind.i64.wrap ((t : Int) + 1) = ((t + 1 : Nat) : Int) := by rw [IntWalk.i64_left]; unfold wrap64; omega
      obtain ⟨i1, hi1⟩ : ∃ i1 : Int, ((t + 1 : Nat) : Int) = i1 := ⟨_, rfl⟩
      rw [hi1] at hw1 hrest
      have HTL : Hid ((K.take t).length = t) := (show _ = _ by rw [List.length_take, HN.out]; omega)
      have HDL : Hid (t + (K.drop (t + 1)).length = i - 1) := (show _ = _ by rw [List.length_drop, HN.out]; omega)
      have HFR := Lib.hid (own_frontV HRO.out HN.out (Nat.le_of_lt hti))
      have HRS := Lib.hid (own_restV (i := t + 1) HRO.out HN.out hti)
      rw [HRV.out] at HRS
      have H0 := Lib.hid (World.ownsRow_lit (e := 32) (size := 3) (base := w10.heap.size) w10 #[] 0 (Nat.le_refl _) (Nat.zero_le _) rfl)
      have HGL : Hid (gk < w10.heap.size) := (show _ < _ from (HRO.out.lt gk rfl).2)
      have HF1 : Hid (∀ ad m c, Value.slice (some ⟨gk, 0, none⟩) t ck = .slice (some ad) m c → ad.block < w10.heap.size) := (show ∀ ad m c, _ → _ from fun ad m c e => by simp only [Value.slice.injEq, Option.some.injEq] at e; rw [← e.1]; exact HGL.out)
      have HF2 : Hid (∀ ad m c, rv = .slice (some ad) m c → ad.block < w10.heap.size) := (show ∀ ad m c, _ → _ from fun ad m c e => by rw [← HRV.out] at e; rw [rest_blockV e]; exact HGL.out)
      have HKC : Hid (∀ w6 : World, Below w10.heap.size w10 w6 → w6.cell? ⟨b10, 0, none⟩ = some (.int .i64 f.1) ∧ w6.cell? ⟨b10, 1, none⟩ = some (.int .i64 f.2.1) ∧ w6.cell? ⟨b10, 2, none⟩ = some (.string f.2.2)) := (show ∀ w6 : World, _ → _ from fun w6 h6 => (HS10.out.below h6).cells (by simp))
      obtain ⟨c0, c1, c2⟩ := HKC.out w10 (Below.refl _ _)
      clear hrv hi1 hcap hti
      go_region_held3 (fun w' => w'.cell? ⟨b10, 0, none⟩ = some (.int .i64 f.1) ∧ w'.cell? ⟨b10, 1, none⟩ = some (.int .i64 f.2.1) ∧ w'.cell? ⟨b10, 2, none⟩ = some (.string f.2.2))
        (first
          | (go_keep; done)
          | with_reducible exact c6'
          | with_reducible exact c5'
          | fail)
        ((first
          | (refine step_vapps (by rfl) _ _ (by rfl) _ w10.heap.size g5 c5 (K.take t) t HTL.out (by have := HO5.out; rw [List.nil_append] at this; exact this) HB5.out.size rv (K.drop (t + 1)) (HRS.out.below HF2.out HB5.out) (i - 1) HDL.out (by have := HTN.out; omega) (by rfl) (by rfl) ?_; intro g6 c6 w6 HO6 HG6 HS6; have HB6 := Lib.hid (grow_below HB5.out HG6.out HK5.out); have c6' := HKC.out w6 HB6.out)
          | (refine step_vapps (by rfl) _ _ (by rfl) _ w10.heap.size w10.heap.size 0 [] 0 rfl (by exact H0.out) (by first | exact (below_new w10 _).size | exact (below_new w10 _).drew.size) (.slice (some ⟨gk, 0, none⟩) t ck) (K.take t) (HFR.out.below HF1.out (by first | exact below_new w10 _ | exact (below_new w10 _).drew)) t (by rw [HTL.out]; simp) (by have := HTN.out; omega) (by rfl) (by rfl) ?_; intro g5 c5 w5 HO5 HG5 HS5; have HB5 := Lib.hid (grow_below (by first | exact below_new w10 _ | exact (below_new w10 _).drew) HG5.out (Nat.le_refl _)); have HK5 : Hid (w10.heap.size ≤ g5) := (HO5.out.lt g5 rfl).1; have c5' := HKC.out w5 HB5.out)
          | fail))
      have hb10 : b10 < w10.heap.size := HS10.out.lt (b := b10) (x := f) (by simp)
      have hg6 : w10.heap.size ≤ g6 := (HO6.out.lt g6 rfl).1
      have HV6 : Hid (Rw I a w10.heap.size (.slice (some ⟨g6, 0, none⟩) (i - 1) c6) M w6) := (show Rw _ _ _ _ _ _ from Rw.keys HS10.out.one.d (by have := HO6.out; unfold VRow; rw [HML.out]; rw [HM.out] at this; exact this) HB6.out)
      have HS6 := Lib.hid (HS10.out.below HB6.out)
      have HQ6 := Lib.hid (HQ10.out.below HS10.out.one.d HB6.out)
      have HBG : Hid (b10 < g6) := (show _ < _ by omega)
      have HWG : Hid (w.heap.size ≤ w10.heap.size ∧ w10.heap.size ≤ g6) := (show _ ∧ _ from ⟨HS10.out.one.bel.size, hg6⟩)
      have HBX10 : Hid (b10 < w10.heap.size) := (show _ < _ from hb10)
      obtain ⟨m, hm⟩ : ∃ m, i - 1 = m := ⟨_, rfl⟩
      have him : m + 1 = i := by have := HTN.out; omega
      rw [hm] at HV6 HML HN3
      rw [hm]
      have HIM := Lib.hid him
      clear hb10 hg6 HKC HS10 HQ10 HR10 HRO HRV HRS HFR HF1 HF2 H0 HGL HTL HDL c0 c1 c2 c5' c6' HB5 HB6 HG5 HG6 HO5 HO6 HS5 HK5 hrest hw1 hm him hcap'
      go_upto_region 21 with (go_at_call 26; refine (I.keys_ HN3 (Lib.hid HS6.out.one.d) (by have := HTN.out; have := HIM.out; omega)).mono ?_; rintro e w11 ⟨p3, k3, rfl, HO, HBn⟩; rw [P9.out] at HO)
      have HU11 : Hid (Rw I a w6.heap.size (.slice p3 m k3) M w11) := (show Rw _ _ _ _ _ _ from Rw.keys HS6.out.one.d (by have := HO.out; unfold VRow; rw [HML.out]; exact this) HBn.out)
      have HS11 := Lib.hid (HS6.out.below HBn.out)
      have HQ11 := Lib.hid (HQ6.out.below HS6.out.one.d HBn.out)
      have HV11 := Lib.hid (HV6.out.below HS6.out.one.d HBn.out)
      clear HS6 HQ6 HV6 HO HBn
      obtain ⟨c0, c1, c2⟩ := HS11.out.cells (b := b10) (x := f) (by simp)
      obtain ⟨a0, a1, a2, a3, a4, a5⟩ := cells6 HQ11.out.at_
      go_upto_region 22 with (go_at_call 20; refine (I.put_ P10 (Lib.hid HS11.out.one.d) (by have := HTN.out; have := HN3.out; have := HIM.out; omega) HFV.out HX.out).mono ?_; rintro e w12 ⟨rfl, HDn, HBn, HFn⟩)
      have HS12 := Lib.hid (HS11.out.step HDn.out HBn.out HFn.out)
      have HU12 := Lib.hid (HU11.out.step HBn.out HFn.out)
      have HV12 := Lib.hid (HV11.out.step HBn.out HFn.out)
      clear HDn HBn HFn HS11 HQ11 HU11 HV11 a0 a1 a2 a3 a4 a5 c0 c1 c2
      have hbd : Below w12.heap.size w12 w12.drew := below_dr (Below.refl _ _) 1
      have HSd := Lib.hid (HS12.out.below hbd)
      have HUd := Lib.hid (HU12.out.below HS12.out.one.d hbd)
      have HVd := Lib.hid (HV12.out.below HS12.out.one.d hbd)
      have HKC : Hid (∀ w' : World, w'.heap[b10]? = w12.heap[b10]? → w'.cell? ⟨b10, 0, none⟩ = some (.int .i64 f.1) ∧ w'.cell? ⟨b10, 1, none⟩ = some (.int .i64 f.2.1) ∧ w'.cell? ⟨b10, 2, none⟩ = some (.string f.2.2)) := (show ∀ w' : World, _ → _ from fun w' h => V_cells (h.trans (HS12.out.bx b10 f (by simp))))
      have HLB : Hid (b10 < w12.heap.size) := (show _ < _ from HS12.out.lt (b := b10) (x := f) (by simp))
      have HBEL : Hid (Below w.heap.size w w12.drew) := (show Below _ _ _ from HSd.out.one.bel)
      obtain ⟨c0, c1, c2⟩ := HKC.out w12 rfl
      clear hbd HS12 HU12 HV12
      go_region_held3 (fun w' => w'.cell? ⟨b10, 0, none⟩ = some (.int .i64 f.1) ∧ w'.cell? ⟨b10, 1, none⟩ = some (.int .i64 f.2.1) ∧ w'.cell? ⟨b10, 2, none⟩ = some (.string f.2.2))
        (first
          | (go_keep; done)
          | with_reducible exact x16
          | with_reducible exact x15
          | with_reducible exact x14
          | with_reducible exact x13
          | fail)
        ((first
          | (go_at_call 27; (refine (row_is (la := M ++ [f]) (lb := M ++ [f]) (r := true) (show decide _ = true from by simp) HR15 (show VRow _ _ _ _ by have := HO15.out; unfold VRow; rw [List.length_append, HML.out, show m + [f].length = i from HIM.out]; exact this) (by have := HTN.out; have := HML.out; have := HIM.out; rw [List.length_append]; simp; omega) (by have := HTN.out; have := HML.out; have := HIM.out; rw [List.length_append]; simp; omega)).mono ?_; rintro e w16 ⟨rfl, hb16⟩; have HB16 := Lib.hid hb16; have x16 := HKC.out w16 ((hb16.block b10 HL15.out).trans HE15.out)))
          | (refine step_vappsg (by first | rfl | simp [Region.wanted, yielded]) _ _ (by rfl) _ w10.heap.size g6 c6 M m HML.out (HV14.out.alloc _) (by have := HB14.out; simp; omega) (.slice (some ⟨w14.heap.size, 0, none⟩) 1 1) [f] (src_box (box_cells w14 f)) i HIM.out (by have := HTN.out; omega) (by rfl) (by rfl) ?_; intro g8 c8 w15 HO15 HG15 HS15; have hbw : Below w14.heap.size w14 (w14.alloc (.cells #[.int .i64 f.1, .int .i64 f.2.1, .string f.2.2] 32)) := below_new w14 _; have hgg : ∀ j, j < w14.heap.size → j ≠ g6 → w15.heap[j]? = w14.heap[j]? := fun j hj hn => (HG15.out.block j (Nat.lt_of_lt_of_le hj hbw.size) (fun e => hn (by injection e))).trans (hbw.block j hj); have hsz : w14.heap.size ≤ w15.heap.size := Nat.le_trans hbw.size HG15.out.size; have e15 : w15.heap[b10]? = w12.heap[b10]? := (hgg b10 (by have := HB14.out; have := HLB13.out; omega) (by have := HBG.out; omega)).trans HX14.out; have x15 := HKC.out w15 e15; have HE15 := Lib.hid e15; have HL15 : Hid (b10 < w15.heap.size) := (show _ < _ by have := HB14.out; have := HLB13.out; omega); have HR15 : Hid (VRow w13.heap.size (.slice p4 i k4) (M ++ [f]) w15) := (show VRow _ _ _ _ from vrow_blk HR14.out (fun j hj => hgg j (HR14.out.lt j hj).2 (by have := (HR14.out.lt j hj).1; have := HLG13.out; omega))); have HBT15 : Hid (Below w.heap.size w w15) := (show Below _ _ _ from (HBEL.out.trans ((HB13.out.trans (HB34.out.mono HB13.out.size)).mono HBEL.out.size)).trans ⟨HG15.out.os.trans hbw.os, HG15.out.tape.trans hbw.tape, HG15.out.output.trans hbw.output, hsz, fun j hj => hgg j (by have := HB14.out; have := HWG.out; omega) (by have := HWG.out; omega)⟩); clear e15 hsz hgg hbw)
          | (refine step_vappsg (by first | rfl | simp [Region.wanted, yielded]) _ _ (by rfl) _ w10.heap.size g6 c6 M m HML.out HV14.out (by have := HB14.out; omega) (.slice (some ⟨w13.heap.size, 0, none⟩) 1 1) [f] (src_box HX13b.out) i HIM.out (by have := HTN.out; omega) (by rfl) (by rfl) ?_; intro g8 c8 w15 HO15 HG15 HS15; have hbw : Below w14.heap.size w14 w14 := Below.refl _ _; have hgg : ∀ j, j < w14.heap.size → j ≠ g6 → w15.heap[j]? = w14.heap[j]? := fun j hj hn => (HG15.out.block j (Nat.lt_of_lt_of_le hj hbw.size) (fun e => hn (by injection e))).trans (hbw.block j hj); have hsz : w14.heap.size ≤ w15.heap.size := Nat.le_trans hbw.size HG15.out.size; have e15 : w15.heap[b10]? = w12.heap[b10]? := (hgg b10 (by have := HB14.out; have := HLB13.out; omega) (by have := HBG.out; omega)).trans HX14.out; have x15 := HKC.out w15 e15; have HE15 := Lib.hid e15; have HL15 : Hid (b10 < w15.heap.size) := (show _ < _ by have := HB14.out; have := HLB13.out; omega); have HR15 : Hid (VRow w13.heap.size (.slice p4 i k4) (M ++ [f]) w15) := (show VRow _ _ _ _ from vrow_blk HR14.out (fun j hj => hgg j (HR14.out.lt j hj).2 (by have := (HR14.out.lt j hj).1; have := HLG13.out; omega))); have HBT15 : Hid (Below w.heap.size w w15) := (show Below _ _ _ from (HBEL.out.trans ((HB13.out.trans (HB34.out.mono HB13.out.size)).mono HBEL.out.size)).trans ⟨HG15.out.os.trans hbw.os, HG15.out.tape.trans hbw.tape, HG15.out.output.trans hbw.output, hsz, fun j hj => hgg j (by have := HB14.out; have := HWG.out; omega) (by have := HWG.out; omega)⟩); clear e15 hsz hgg hbw)
          | (go_at_call 26; refine (I.keys_ HN4 (Lib.hid HS13.out.one.d) (by have := HTN.out; omega)).mono ?_; rintro e w14 ⟨p4, k4, rfl, HO, hb⟩; rw [P11.out] at HO; have HB34 : Hid (Below w13.heap.size w13 w14) := (show Below _ _ _ from hb.out); have e14 : w14.heap[b10]? = w12.heap[b10]? := (HB34.out.block b10 (Nat.lt_of_lt_of_le HLB.out HB13.out.size)).trans (HB13.out.block b10 HLB.out); have x14 := HKC.out w14 e14; have HX14 := Lib.hid e14; clear e14; have HR14 : Hid (VRow w13.heap.size (.slice p4 i k4) (M ++ [f]) w14) := (show VRow _ _ _ _ from (show VRow w13.heap.size (.slice p4 i k4) (M ++ [f]) w14 by have := HO.out; unfold VRow; rw [List.length_append, HML.out, show m + [f].length = i from HIM.out]; exact this)); have HV14 : Hid (w14.ownsRow w10.heap.size 32 3 (.slice (some ⟨g6, 0, none⟩) m c6) m (M.flatMap cV)) := (show World.ownsRow _ _ _ _ _ _ _ by have := (HV13.out.row.below HB34.out); unfold VRow at this; rw [HML.out] at this; exact this); have HB14 : Hid (w10.heap.size ≤ w14.heap.size) := (show _ ≤ _ from Nat.le_of_lt (Nat.lt_of_le_of_lt (HV14.out.lt g6 rfl).1 (HV14.out.lt g6 rfl).2)))
          | (go_at_call 26; refine (I.keys_ HN4 (Lib.hid HS13b.out.one.d) (by have := HTN.out; omega)).mono ?_; rintro e w14 ⟨p4, k4, rfl, HO, hb⟩; rw [P11.out] at HO; have HB34 : Hid (Below w13.heap.size w13 w14) := (show Below _ _ _ from (below_new w13 (.cells #[.int .i64 f.1, .int .i64 f.2.1, .string f.2.2] 32)).trans (hb.out.mono (below_new w13 _).size)); have e14 : w14.heap[b10]? = w12.heap[b10]? := (HB34.out.block b10 (Nat.lt_of_lt_of_le HLB.out HB13.out.size)).trans (HB13.out.block b10 HLB.out); have x14 := HKC.out w14 e14; have HX14 := Lib.hid e14; clear e14; have HR14 : Hid (VRow w13.heap.size (.slice p4 i k4) (M ++ [f]) w14) := (show VRow _ _ _ _ from (show VRow (w13.alloc (.cells #[.int .i64 f.1, .int .i64 f.2.1, .string f.2.2] 32)).heap.size (.slice p4 i k4) (M ++ [f]) w14 by have := HO.out; unfold VRow; rw [List.length_append, HML.out, show m + [f].length = i from HIM.out]; exact this).lower (by simp)); have HV14 : Hid (w14.ownsRow w10.heap.size 32 3 (.slice (some ⟨g6, 0, none⟩) m c6) m (M.flatMap cV)) := (show World.ownsRow _ _ _ _ _ _ _ by have := (HV13.out.row.below HB34.out); unfold VRow at this; rw [HML.out] at this; exact this); have HB14 : Hid (w10.heap.size ≤ w14.heap.size) := (show _ ≤ _ from Nat.le_of_lt (Nat.lt_of_le_of_lt (HV14.out.lt g6 rfl).1 (HV14.out.lt g6 rfl).2)); have HX13b : Hid (BoxV w14 w13.heap.size f) := (show BoxV _ _ _ from (hb.out.block w13.heap.size (by simp)).trans (box_cells w13 f)))
          | (go_at_call 27; (refine (row_is (la := M) (lb := M) (r := true) (show decide _ = true from by simp) (show VRow _ _ _ _ by have := HUd.out.row; unfold VRow at this ⊢; rw [HML.out] at this ⊢; exact this) (show VRow _ _ _ _ by have := HVd.out.row; unfold VRow at this ⊢; rw [HML.out] at this ⊢; exact this) (by have := HTN.out; have := HML.out; have := HIM.out; omega) (by have := HTN.out; have := HML.out; have := HIM.out; omega)).mono ?_; rintro e w13 ⟨rfl, hb13⟩; have HS13 := Lib.hid (HSd.out.below hb13); have HV13 := Lib.hid (HVd.out.below HSd.out.one.d hb13); have x13 := HKC.out w13 (hb13.block b10 HLB.out); have HLB13 : Hid (b10 < w10.heap.size) := HBX10; have HLG13 : Hid (g6 < w13.heap.size) := (show _ < _ from (HV13.out.row.lt g6 rfl).2); have HB13 := Lib.hid hb13; have HS13b := Lib.hid (HS13.out.below (below_new w13 (.cells #[.int .i64 f.1, .int .i64 f.2.1, .string f.2.2] 32)))))
          | fail))
      all_goals
        clear x13 x14 x15 x16 c0 c1 c2 HB13 HB34
        go_wp2_with fail
        go_ret
        exact ⟨rfl, HBT15.out.trans (HB16.out.mono HBT15.out.size)⟩
end lawDictOrder
end Go.Proofs.Ytaghkidelbepnaa
