/-
  DictRows of layer 10: the walk, at this program.
-/
import Derived.Test.YtaghkidelbepnaaDwKeys
import Derived.Test.YtaghkidelbepnaaDiH
set_option linter.unusedVariables false
set_option linter.unusedSimpArgs false
namespace Go.Proofs.Ytaghkidelbepnaa
namespace lawDictRows
open Go.RowKit
open Di
open lawDictKeys (AllK made_keys)

theorem upd_none {k : V} (x : V) : ∀ {l : List Pr}, lk l k = none → upd l k x = l ++ [(k, x)]
  | [], _ => rfl
  | p :: l, h => by
    unfold lk at h
    unfold upd
    split at h
    · cases h
    · rename_i hp
      rw [if_neg hp, upd_none x h]
      rfl
theorem put_next {L : List Pr} {i : Nat} {p : Pr} (hn : Nd L) (hk : AllK L) (hl : L.length ≤ 100) (h : L[i]? = some p) : put (L.take i) p.1 p.2 = (true, L.take (i + 1)) := by
  have hi := (List.getElem?_eq_some_iff.1 h).1
  have hno : lk (L.take i) p.1 = none := by
    apply lk_none.2
    intro q hq e
    obtain ⟨j, hj⟩ := List.getElem?_of_mem hq
    have hji : j < i := by have := (List.getElem?_eq_some_iff.1 hj).1; rw [List.length_take] at this; omega
    rw [List.getElem?_take, if_pos hji] at hj
    have h1 : (L.map (·.1))[j]? = some p.1 := by rw [List.getElem?_map, hj, ← e]; rfl
    have h2 : (L.map (·.1))[i]? = some p.1 := by rw [List.getElem?_map, h]; rfl
    have := (List.getElem?_inj (by rw [List.length_map]; omega) hn).1 (h1.trans h2.symm)
    omega
  rw [put_upd p.2 (hk p (List.mem_of_getElem? h)) (.inl (by rw [List.length_take]; unfold mx; omega)), upd_none _ hno, List.take_add_one, h]
  rfl
theorem rev_nd {L : List Pr} (h : Nd L) : Nd L.reverse := by unfold Nd at *; rw [List.map_reverse]; exact (List.reverse_perm _).nodup_iff.2 h
theorem rev_keys {L : List Pr} (h : AllK L) : AllK L.reverse := fun p hp => h p (List.mem_reverse.1 hp)
theorem rev_at {L : List Pr} {i : Nat} (h : i < L.length) : L.reverse[i]? = L[L.length - 1 - i]? := by rw [List.getElem?_reverse h]
/-- Two dicts apart, and a row of pairs apart from both. -/
structure Duo (I : DictI) (w0 : World) (a b : Nat) (la lb : List Pr) (B : Nat) (v : Value) (l : List Pr) (w : World) : Prop where
  da : I.DR w a la
  db : I.DR w b lb
  ap : ∀ k, I.FR w a k → ¬ I.FR w b k
  row : w.ownsRow B 60 6 v l.length (l.flatMap cP)
  ra : ∀ k, v.ownBlock = some k → ¬ I.FR w a k ∧ ¬ I.FR w b k
  lo : ∀ k, I.FR w a k ∨ I.FR w b k → w0.heap.size ≤ k
  bel : Below w0.heap.size w0 w
theorem own_blk {T : TypeId} {B n sz : Nat} {v : Value} {xs : List Value} {w w' : World} (h : w.ownsRow B T sz v n xs) (hb : ∀ k, v.ownBlock = some k → w'.heap[k]? = w.heap[k]?) : w'.ownsRow B T sz v n xs := by
  refine ⟨h.1, ?_⟩
  rcases h.2 with h2 | ⟨g, cap, cur, rfl, hg, hgb, r⟩
  · exact Or.inl h2
  · exact Or.inr ⟨g, cap, cur, rfl, hg, (hb g rfl).trans hgb, r⟩
theorem Duo.below {I : DictI} {w0 w w' : World} {a b B : Nat} {la lb l : List Pr} {v : Value} (h : Duo I w0 a b la lb B v l w) (hb : Below w.heap.size w w') : Duo I w0 a b la lb B v l w' := by
  obtain ⟨a1, a2⟩ := I.kept h.da hb.size (fun k hk => hb.block k (I.lt h.da hk))
  obtain ⟨b1, b2⟩ := I.kept h.db hb.size (fun k hk => hb.block k (I.lt h.db hk))
  exact ⟨a1, b1, fun k hk e => h.ap k (a2 k hk) (b2 k e), own_blk h.row (fun k hk => hb.block k (h.row.lt k hk).2), fun k hk => ⟨fun e => (h.ra k hk).1 (a2 k e), fun e => (h.ra k hk).2 (b2 k e)⟩, fun k hk => h.lo k (hk.imp (a2 k) (b2 k)), h.bel.trans (hb.mono h.bel.size)⟩
theorem Duo.step_a {I : DictI} {w0 w w' : World} {a b B : Nat} {la la' lb l : List Pr} {v : Value} (h : Duo I w0 a b la lb B v l w) (hd : I.DR w' a la') (hb : But (I.FR w a) w w') (hf : ∀ j, I.FR w' a j → I.FR w a j ∨ w.heap.size ≤ j) : Duo I w0 a b la' lb B v l w' := by
  obtain ⟨b1, b2⟩ := I.kept h.db hb.size (fun k hk => hb.block k (I.lt h.db hk) (fun e => h.ap k e hk))
  exact ⟨hd, b1, fun k hk e => (hf k hk).elim (fun e2 => h.ap k e2 (b2 k e)) (fun e2 => by have := I.lt h.db (b2 k e); omega), own_blk h.row (fun k hk => hb.block k (h.row.lt k hk).2 (h.ra k hk).1), fun k hk => ⟨fun e => (hf k e).elim (h.ra k hk).1 (fun e2 => by have := (h.row.lt k hk).2; omega), fun e => (h.ra k hk).2 (b2 k e)⟩,
    fun k hk => hk.elim (fun e => (hf k e).elim (fun e2 => h.lo k (Or.inl e2)) (fun e2 => Nat.le_trans h.bel.size e2)) (fun e => h.lo k (Or.inr (b2 k e))), h.bel.trans (hb.below h.bel.size (fun k hk e => by have := h.lo k (Or.inl e); omega))⟩
theorem Duo.swap {I : DictI} {w0 w : World} {a b B : Nat} {la lb l : List Pr} {v : Value} (h : Duo I w0 a b la lb B v l w) : Duo I w0 b a lb la B v l w :=
  ⟨h.db, h.da, fun k hk e => h.ap k e hk, h.row, fun k hk => (h.ra k hk).symm, fun k hk => h.lo k hk.symm, h.bel⟩
theorem Duo.step_b {I : DictI} {w0 w w' : World} {a b B : Nat} {la lb lb' l : List Pr} {v : Value} (h : Duo I w0 a b la lb B v l w) (hd : I.DR w' b lb') (hb : But (I.FR w b) w w') (hf : ∀ j, I.FR w' b j → I.FR w b j ∨ w.heap.size ≤ j) : Duo I w0 a b la lb' B v l w' := (h.swap.step_a hd hb hf).swap
theorem put_vok {l : List Pr} {k x : V} (h : ∀ p ∈ l, Vok p.1 ∧ Vok p.2) (hk : Vok k) (hx : Vok x) : ∀ p ∈ (Di.put l k x).2, Vok p.1 ∧ Vok p.2 := by
  unfold Di.put
  split
  · split
    · intro p hp
      rcases List.mem_or_eq_of_mem_set hp with hp | rfl
      · exact h p hp
      · exact ⟨hk, hx⟩
    · split
      · intro p hp
        rcases List.mem_append.1 hp with hp | hp
        · exact h p hp
        · simp at hp; subst hp; exact ⟨hk, hx⟩
      · exact h
  · exact h
theorem fold_vok : ∀ (cs : List Cl) (l : List Pr), (∀ p ∈ l, Vok p.1 ∧ Vok p.2) → (∀ c ∈ cs, Cok c) → ∀ p ∈ cs.foldl (fun l c => mk l (fit c)) l, Vok p.1 ∧ Vok p.2
  | [], l, h, _ => h
  | c :: cs, l, h, hc => by
    rw [List.foldl_cons]
    refine fold_vok cs _ ?_ (fun d hd => hc d (List.mem_cons_of_mem _ hd))
    have hf := fit_cok (hc c (List.mem_cons_self ..))
    unfold mk
    split
    · rw [del_era]; exact fun p hp => h p ((era_sub _ l).subset hp)
    · exact put_vok h hf.k hf.x
theorem made_vok {l : List Cl} (h : ∀ c ∈ l, Cok c) : ∀ p ∈ Di.made l, Vok p.1 ∧ Vok p.2 := fold_vok _ [] (fun p hp => by cases hp) (fun c hc => h c (List.mem_of_mem_take hc))
theorem neq_PP (w : World) (p : Pr) : (binOp .neq 60 (.agg #[.int .i64 p.1.1, .int .i64 p.1.2.1, .string p.1.2.2, .int .i64 p.2.1, .int .i64 p.2.2.1, .string p.2.2.2]) (.agg #[.int .i64 p.1.1, .int .i64 p.1.2.1, .string p.1.2.2, .int .i64 p.2.1, .int .i64 p.2.2.1, .string p.2.2.2])).run Try.prog w = .ok (.bool false) w := neq_P w p
set_option maxHeartbeats 16000000 in
set_option maxRecDepth 100000 in
theorem walk (I : DictI) {v0 : Value} {l : List Cl} {w : World} (HC : Hid (CRow v0 l w)) (HOK : Hid (∀ c ∈ l, Cok c)) (hl : l.length ≤ 140737488355328) :
    Calls Try.prog 10 #[v0] w fun e w' => e = .returned (.bool true) ∧ Below w.heap.size w w' := by
  obtain ⟨pa, cap, hv0, _⟩ := HC.out.form
  subst hv0
  obtain ⟨L, hL⟩ : ∃ L, Di.made l = L := ⟨_, rfl⟩
  have HLL : Hid (L.length ≤ 100) := (show _ ≤ _ by rw [← hL]; have := made_length l; omega)
  have HLN : Hid (Nd L) := (show Nd _ by rw [← hL]; exact made_nd l)
  have HLK : Hid (AllK L) := (show AllK _ by rw [← hL]; exact made_keys l)
  have HVK : Hid (∀ p ∈ L, Vok p.1 ∧ Vok p.2) := (show ∀ p ∈ L, _ by rw [← hL]; exact made_vok HOK.out)
  have HL := Lib.hid hL
  obtain ⟨n, hn⟩ : ∃ n, L.length = n := ⟨_, rfl⟩
  have HN := Lib.hid hn
  have hn100 : n ≤ 100 := by rw [← hn]; exact HLL.out
  clear hL hn
  go_enter Try.func10, Try.ntmps10
  go_upto_region 5 with (first
    | (go_at_call 13; have hq := HDA; refine (I.new_ _).mono ?_; rintro e w4 ⟨b, rfl, HDB, HBB, HFB⟩)
    | (go_at_call 13; have hq := HD2; refine (I.new_ _).mono ?_; rintro e w3 ⟨a, rfl, HDA, HBA, HFA⟩)
    | (go_at_call 17; refine (made_is I (Lib.hid (HC.out.below HB1)) HOK hl).mono ?_; rintro e w2 ⟨d, br, vr, rfl, HT2, HB2⟩; rw [HL.out] at HT2; have HD2 : Hid (I.DR w2 d L) := HT2.out.d)
    | (go_at_call 12; refine (shown10 I _).mono ?_; rintro e w1 ⟨rfl, HB1⟩))
  have HD4 : Hid (I.DR w4 d L) := (show I.DR _ _ _ from (I.kept (I.kept HD2.out HBA.out.size (fun k hk => HBA.out.block k (I.lt HD2.out hk))).1 HBB.out.size (fun k hk => HBB.out.block k (I.lt (I.kept HD2.out HBA.out.size (fun k hk => HBA.out.block k (I.lt HD2.out hk))).1 hk))).1)
  go_upto_region 8 with (go_at_call 30; refine (pairs_is I HN HD4 (by omega)).mono ?_; rintro e w5 ⟨p5, c5, rfl, HO5, HB5⟩)
  have HDU : Hid (Duo I w a b [] [] w4.heap.size (.slice p5 n c5) L w5) := (show Duo _ _ _ _ _ _ _ _ _ _ from by
    obtain ⟨a1, a2⟩ := I.kept HDA.out HBB.out.size (fun k hk => HBB.out.block k (I.lt HDA.out hk))
    obtain ⟨a3, a4⟩ := I.kept a1 HB5.size (fun k hk => HB5.block k (I.lt a1 hk))
    obtain ⟨b3, b4⟩ := I.kept HDB.out HB5.size (fun k hk => HB5.block k (I.lt HDB.out hk))
    have h13 : w.heap.size ≤ w2.heap.size := Nat.le_trans HB1.size HB2.out.size
    refine ⟨a3, b3, fun k hk e => ?_, by rw [HN.out]; exact HO5.out, fun k hk => ⟨fun e => ?_, fun e => ?_⟩, fun k hk => ?_, ?_⟩
    · have h1 := I.lt HDA.out (a2 k (a4 k hk))
      have h2 := HFB.out k (b4 k e)
      omega
    · have h1 := I.lt a1 (a4 k e)
      have h2 := (HO5.out.lt k hk).1
      omega
    · have h1 := I.lt HDB.out (b4 k e)
      have h2 := (HO5.out.lt k hk).1
      omega
    · rcases hk with e | e
      · exact Nat.le_trans h13 (HFA.out k (a2 k (a4 k e)))
      · exact Nat.le_trans (Nat.le_trans h13 HBA.out.size) (HFB.out k (b4 k e))
    · exact (HB1.trans (HB2.out.mono HB1.size)).trans (((HBA.out.trans (HBB.out.mono HBA.out.size)).trans (HB5.mono (Nat.le_trans HBA.out.size HBB.out.size))).mono h13))
  clear HB1 HT2 HB2 HD2 HDA HBA HFA HDB HBB HFB HD4 HO5 HB5 hq
  go_wp2_with fail
  go_loopw [9] (fun v9 wr => ∃ i : Nat, v9 = .int .i64 (i : Int) ∧ i ≤ n ∧ Hid (Duo I w a b (L.take i) (L.reverse.take i) w4.heap.size (.slice p5 n c5) L wr)) (fun v9 _ => n - (intOf v9).toNat)
  case atStart => exact ⟨0, rfl, Nat.zero_le _, HDU.out⟩
  case round =>
    obtain ⟨i, rfl, hi, HS⟩ := hrel
    clear HDU
    by_cases hlt : i < n
    · obtain ⟨p, hp⟩ : ∃ p, L[i]? = some p := ⟨_, List.getElem?_eq_getElem (by have := HN.out; omega)⟩
      obtain ⟨q, hq⟩ : ∃ q, L[n - 1 - i]? = some q := ⟨_, List.getElem?_eq_getElem (by have := HN.out; omega)⟩
      have hq2 : L.reverse[i]? = some q := by rw [rev_at (by have := HN.out; omega), HN.out]; exact hq
      have P1 := Lib.hid (put_next HLN.out HLK.out HLL.out hp)
      have P2 := Lib.hid (put_next (rev_nd HLN.out) (rev_keys HLK.out) (by rw [List.length_reverse]; exact HLL.out) hq2)
      have VP := Lib.hid (HVK.out p (List.mem_of_getElem? hp))
      have VQ := Lib.hid (HVK.out q (List.mem_of_getElem? hq))
      have FP : Hid (∀ w' : World, w'.ownsRow w4.heap.size 60 6 (.slice p5 n c5) n (L.flatMap cP) → ∀ g, p5 = some ⟨g, 0, none⟩ → ∀ (k : Nat) (x : Pr), L[k]? = some x → ∀ j u, (cP x)[j]? = some u → w'.cell? ⟨g, k * 6 + j, none⟩ = some u) := (show ∀ w' : World, _ → ∀ g, _ → _ from fun w' ho g hg k x hx j u hu => by
        obtain ⟨g', h1, h2⟩ := own_cells cP_len HN.out ho (Below.refl _ w') k x hx
        rw [hg] at h1
        simp only [Option.some.injEq, Addr.mk.injEq, and_true] at h1
        subst h1
        exact h2 j u hu)
      have HO := HS.out.row
      rw [HN.out] at HO
      obtain ⟨g, hg, _⟩ := own_cells cP_len HN.out HO (Below.refl _ _) i p hp
      subst hg
      obtain ⟨ix, hix⟩ : ∃ ix : Nat, n - 1 - i = ix := ⟨_, rfl⟩
      rw [hix] at hq
      obtain ⟨n1, hn1⟩ : ∃ n1 : Nat, n - 1 = n1 := ⟨_, rfl⟩
      have hw1 : IntKind.i64.wrap ((n : Int) - 1) = (n1 : Int) := by rw [IntWalk.i64_left]; unfold wrap64; omega
      have hw2 : IntKind.i64.wrap ((n1 : Int) - (i : Int)) = (ix : Int) := by rw [IntWalk.i64_left]; unfold wrap64; omega
      have KC : Hid (∀ w' : World, w'.ownsRow w4.heap.size 60 6 (.slice (some ⟨g, 0, none⟩) n c5) n (L.flatMap cP) → w'.cell? ⟨g, i * 6, none⟩ = some (.int .i64 p.1.1) ∧ w'.cell? ⟨g, i * 6 + 1, none⟩ = some (.int .i64 p.1.2.1) ∧ w'.cell? ⟨g, i * 6 + 2, none⟩ = some (.string p.1.2.2) ∧ w'.cell? ⟨g, i * 6 + 3, none⟩ = some (.int .i64 p.2.1) ∧ w'.cell? ⟨g, i * 6 + 4, none⟩ = some (.int .i64 p.2.2.1) ∧ w'.cell? ⟨g, i * 6 + 5, none⟩ = some (.string p.2.2.2) ∧
          w'.cell? ⟨g, ix * 6, none⟩ = some (.int .i64 q.1.1) ∧ w'.cell? ⟨g, ix * 6 + 1, none⟩ = some (.int .i64 q.1.2.1) ∧ w'.cell? ⟨g, ix * 6 + 2, none⟩ = some (.string q.1.2.2) ∧ w'.cell? ⟨g, ix * 6 + 3, none⟩ = some (.int .i64 q.2.1) ∧ w'.cell? ⟨g, ix * 6 + 4, none⟩ = some (.int .i64 q.2.2.1) ∧ w'.cell? ⟨g, ix * 6 + 5, none⟩ = some (.string q.2.2.2)) := (show ∀ w' : World, _ → _ from fun w' ho =>
        ⟨FP.out w' ho g rfl i p hp 0 _ rfl, FP.out w' ho g rfl i p hp 1 _ rfl, FP.out w' ho g rfl i p hp 2 _ rfl, FP.out w' ho g rfl i p hp 3 _ rfl, FP.out w' ho g rfl i p hp 4 _ rfl, FP.out w' ho g rfl i p hp 5 _ rfl, FP.out w' ho g rfl ix q hq 0 _ rfl, FP.out w' ho g rfl ix q hq 1 _ rfl, FP.out w' ho g rfl ix q hq 2 _ rfl, FP.out w' ho g rfl ix q hq 3 _ rfl, FP.out w' ho g rfl ix q hq 4 _ rfl, FP.out w' ho g rfl ix q hq 5 _ rfl⟩)
      have hlt' : (i : Int) < (n : Int) := by omega
      obtain ⟨k0, k1, k2, k3, k4, k5, m0, m1, m2, m3, m4, m5⟩ := KC.out wr HO
      have HSd : Hid (Duo I w a b (L.take i) (L.reverse.take i) w4.heap.size (.slice (some ⟨g, 0, none⟩) n c5) L wr.drew) := (show Duo _ _ _ _ _ _ _ _ _ _ from HS.out.below (below_dr (Below.refl _ _) 1))
      have HIX := Lib.hid hix
      have hixn : (ix : Int) < (n : Int) := by omega
      have hixn0 : (0 : Int) ≤ (ix : Int) := by omega
      clear FP HO hp hq hq2 hix hn1
      go_wp2_with fail
      go_region_held3 (fun w' => w'.cell? ⟨g, i * 6, none⟩ = some (.int .i64 p.1.1) ∧ w'.cell? ⟨g, i * 6 + 1, none⟩ = some (.int .i64 p.1.2.1) ∧ w'.cell? ⟨g, i * 6 + 2, none⟩ = some (.string p.1.2.2) ∧ w'.cell? ⟨g, i * 6 + 3, none⟩ = some (.int .i64 p.2.1) ∧ w'.cell? ⟨g, i * 6 + 4, none⟩ = some (.int .i64 p.2.2.1) ∧ w'.cell? ⟨g, i * 6 + 5, none⟩ = some (.string p.2.2.2) ∧
          w'.cell? ⟨g, ix * 6, none⟩ = some (.int .i64 q.1.1) ∧ w'.cell? ⟨g, ix * 6 + 1, none⟩ = some (.int .i64 q.1.2.1) ∧ w'.cell? ⟨g, ix * 6 + 2, none⟩ = some (.string q.1.2.2) ∧ w'.cell? ⟨g, ix * 6 + 3, none⟩ = some (.int .i64 q.2.1) ∧ w'.cell? ⟨g, ix * 6 + 4, none⟩ = some (.int .i64 q.2.2.1) ∧ w'.cell? ⟨g, ix * 6 + 5, none⟩ = some (.string q.2.2.2))
        (first
          | (go_keep; done)
          | with_reducible exact x7
          | with_reducible exact x6
          | fail)
        ((first
          | (go_at_call 20; (with_reducible (show Calls _ _ #[ptrV b, _, _] _ _)); refine (I.put_ P2 (Lib.hid HS6.out.db) (by rw [List.length_take]; have := HLL.out; omega) VQ.out.1 VQ.out.2).mono ?_; rintro e w7 ⟨rfl, hd, hb, hf⟩; have HS7 := Lib.hid (HS6.out.step_b hd.out hb.out hf.out); have x7 := KC.out w7 (by have := HS7.out.row; rw [HN.out] at this; exact this); clear hd hb hf)
          | (go_at_call 20; (with_reducible (show Calls _ _ #[ptrV a, _, _] _ _)); refine (I.put_ P1 (Lib.hid HSd.out.da) (by rw [List.length_take]; have := HLL.out; omega) VP.out.1 VP.out.2).mono ?_; rintro e w6 ⟨rfl, hd, hb, hf⟩; have HS6 := Lib.hid (HSd.out.step_a hd.out hb.out hf.out); have x6 := KC.out w6 (by have := HS6.out.row; rw [HN.out] at this; exact this); clear hd hb hf)
          | fail))
      all_goals
        clear x6 x7 k0 k1 k2 k3 k4 k5 m0 m1 m2 m3 m4 m5
        go_wp2_with fail
        go_roundw
        case rel => exact ⟨i + 1, by go_num, by omega, HS7.out⟩
        case measure => simp [intOf]; omega
    · have hin : i = n := by omega
      subst hin
      have HF : Hid (Duo I w a b L L.reverse w4.heap.size (.slice p5 i c5) L wr) := (show Duo _ _ _ _ _ _ _ _ _ _ by have := HS.out; rw [List.take_of_length_le (by have := HN.out; omega), List.take_of_length_le (by rw [List.length_reverse]; have := HN.out; omega)] at this; exact this)
      have HNR : Hid (L.reverse.length = i) := (show _ = _ by rw [List.length_reverse]; exact HN.out)
      clear HS hlt hi
      go_upto_region 17 with (first
        | (go_at_call 30; (with_reducible (show Calls _ _ #[ptrV b] _ _)); refine (pairs_is I HNR (Lib.hid HF6.out.db) (by omega)).mono ?_; rintro e w7 ⟨p7, c7, rfl, HO7, HB7⟩)
        | (go_at_call 30; (with_reducible (show Calls _ _ #[ptrV a] _ _)); refine (pairs_is I HN (Lib.hid HF.out.da) (by omega)).mono ?_; rintro e w6 ⟨p6, c6, rfl, HO6, HB6⟩; have HF6 := Lib.hid (HF.out.below HB6)))
      have HF7 := Lib.hid (HF6.out.below HB7)
      have FQ := Lib.hid (own_cells cP_len HN.out HO6.out HB7)
      have FR := Lib.hid (own_cells cP_len HNR.out HO7.out (Below.refl _ w7))
      have FP := Lib.hid (own_cells cP_len HN.out (by have := HF7.out.row; rw [HN.out] at this; exact this) (Below.refl _ w7))
      have HBEL : Hid (Below w.heap.size w w7) := (show Below _ _ _ from HF7.out.bel)
      have heq := neq_PP
      clear HO6 HO7 HB6 HB7 HF HF6 HF7
      go_wp2_with fail
      go_loopw [12] (fun v12 wr => ∃ j : Nat, v12 = .int .i64 (j : Int) ∧ j ≤ i ∧ ∃ q, wr = w7.drewN q) (fun v12 _ => i - (intOf v12).toNat)
      case atStart => exact ⟨0, rfl, Nat.zero_le _, 0, rfl⟩
      case round =>
        obtain ⟨j, rfl, hj, nd, rfl⟩ := hrel
        by_cases hlt : j < i
        · obtain ⟨p, hp⟩ : ∃ p, L[j]? = some p := ⟨_, List.getElem?_eq_getElem (by have := HN.out; omega)⟩
          obtain ⟨ix, hix⟩ : ∃ ix : Nat, i - 1 - j = ix := ⟨_, rfl⟩
          have hr : L.reverse[ix]? = some p := by rw [rev_at (by have := HN.out; omega), HN.out, ← hix, show i - 1 - (i - 1 - j) = j by omega]; exact hp
          obtain ⟨n1, hn1⟩ : ∃ n1 : Nat, i - 1 = n1 := ⟨_, rfl⟩
          have hw1 : IntKind.i64.wrap ((i : Int) - 1) = (n1 : Int) := by rw [IntWalk.i64_left]; unfold wrap64; omega
          have hw2 : IntKind.i64.wrap ((n1 : Int) - (j : Int)) = (ix : Int) := by rw [IntWalk.i64_left]; unfold wrap64; omega
          have hlt' : (j : Int) < (i : Int) := by omega
          have hixn : (ix : Int) < (i : Int) := by omega
          have hixn0 : (0 : Int) ≤ (ix : Int) := by omega
          obtain ⟨g1, rfl, hc1⟩ := FP.out j p hp
          obtain ⟨g2, rfl, hc2⟩ := FQ.out j p hp
          obtain ⟨g3, rfl, hc3⟩ := FR.out ix p hr
          have a0 := hc1 0 _ rfl
          have a1 := hc1 1 _ rfl
          have a2 := hc1 2 _ rfl
          have a3 := hc1 3 _ rfl
          have a4 := hc1 4 _ rfl
          have a5 := hc1 5 _ rfl
          have b0 := hc2 0 _ rfl
          have b1 := hc2 1 _ rfl
          have b2 := hc2 2 _ rfl
          have b3 := hc2 3 _ rfl
          have b4 := hc2 4 _ rfl
          have b5 := hc2 5 _ rfl
          have d0 := hc3 0 _ rfl
          have d1 := hc3 1 _ rfl
          have d2 := hc3 2 _ rfl
          have d3 := hc3 3 _ rfl
          have d4 := hc3 4 _ rfl
          have d5 := hc3 5 _ rfl
          simp only [Nat.add_zero] at a0 b0 d0
          have hcmp := fun w => heq w p
          clear hc1 hc2 hc3 hp hr hix hn1 heq
          go_wp2_with fail
          go_quiet (fail)
          go_wp2_with fail
          exact ⟨⟨j + 1, by go_num, by omega, nd + nq, by first | rfl | rw [World.drewN_drewN]⟩, by simp [intOf]; omega⟩
        · go_wp2_with fail
          go_ret
          exact ⟨rfl, below_dr HBEL.out _⟩
end lawDictRows
end Go.Proofs.Ytaghkidelbepnaa
