/-
  DictApart of layer 10: the walk, at this program.
-/
import Derived.Test.YtaghkidelbepnaaDiN
set_option linter.unusedVariables false
set_option linter.unusedSimpArgs false
namespace Go.Proofs.Ytaghkidelbepnaa
namespace lawDictApart
open Go.RowKit
open Di

def raw (c : Cl) : Cl := (c.1, c.2.1, c.2.2.1, true)
/-- The calls about one key, taken as they are. -/
def mine (a : V) (cs : List Cl) : List Cl := ((cs.map fit).filter (fun c => decide (c.2.1 = a))).map raw
theorem mine_nil (a : V) : mine a [] = [] := rfl
theorem mine_snoc (a : V) (cs : List Cl) (c : Cl) : mine a (cs ++ [c]) = if (fit c).2.1 = a then mine a cs ++ [raw (fit c)] else mine a cs := by
  unfold mine
  by_cases h : (fit c).2.1 = a <;> simp [h]
theorem mine_cons (a : V) (c : Cl) (cs : List Cl) : mine a (c :: cs) = if (fit c).2.1 = a then raw (fit c) :: mine a cs else mine a cs := by
  unfold mine
  by_cases h : (fit c).2.1 = a <;> simp [h]
theorem fitK_text (v : V) (h : v.2.2.size ≤ 12) : (fitK v).2.2.size ≤ 12 := by
  have hq : v.1 % 4 = 0 ∨ v.1 % 4 = 1 ∨ v.1 % 4 = 2 ∨ v.1 % 4 = 3 := by omega
  have he : Di.mt.size ≤ 12 := by decide
  rcases hq with e | e | e | e
  · have : fitK v = zeroV := by simp [fitK, e]
    rw [this]; exact he
  · have : fitK v = (1, v.2.1 % 2, Di.mt) := by simp [fitK, e]
    rw [this]; exact he
  · have : fitK v = (2, v.2.1, Di.mt) := by simp [fitK, e]
    rw [this]; exact he
  · have : fitK v = (3, 0, v.2.2) := by simp [fitK, e]
    rw [this]; exact h
theorem fit_raw (c : Cl) : fit (raw (fit c)) = raw (fit c) := by
  have h : (fit c).2.1.2.2.size ≤ 12 := by
    unfold fit
    simp only
    split
    · exact cut12_size _
    · exact fitK_text _ (cut12_size _)
  generalize fit c = d at h
  obtain ⟨q, ⟨k, n, s⟩, x, r⟩ := d
  simp only at h
  unfold fit raw cut12
  simp [h]
theorem mk_raw (l : List Pr) (c : Cl) : mk l (raw c) = mk l c := rfl
/-- What is at a key hangs on its own calls alone. -/
structure Ap (a : V) (L M : List Pr) : Prop where
  eq_ : lk L a = lk M a
  nL : Nd L
  nM : Nd M
  all : ∀ p ∈ M, p.1 = a
theorem all_one {M : List Pr} {a : V} (h : ∀ p ∈ M, p.1 = a) (hn : Nd M) : M.length ≤ 1 := by
  match M, h, hn with
  | [], _, _ => simp
  | [_], _, _ => simp
  | p :: q :: l, h, hn =>
    unfold Nd at hn
    simp only [List.map_cons, List.nodup_cons] at hn
    exact absurd (by rw [h p (by simp), h q (by simp)]; simp) hn.1
theorem Ap.same {a : V} {L M : List Pr} {c : Cl} (h : Ap a L M) (ha : keyOk a = true) (hc : c.2.1 = a) (hl : L.length < mx) : Ap a (Di.mk L c) (Di.mk M c) := by
  have hM : M.length < mx := by have := all_one h.all h.nM; unfold mx; omega
  subst hc
  unfold Di.mk
  split
  · rw [del_era, del_era]
    refine ⟨by rw [lk_era _ _ h.nL, lk_era _ _ h.nM, if_pos rfl, if_pos rfl], era_nd _ h.nL, era_nd _ h.nM, fun p hp => h.all p ((era_sub _ _).subset hp)⟩
  · rw [put_upd _ ha (.inl hl), put_upd _ ha (.inl hM)]
    refine ⟨by rw [lk_upd, lk_upd, if_pos rfl, if_pos rfl], upd_nd _ _ h.nL, upd_nd _ _ h.nM, fun p hp => ?_⟩
    have hk : p.1 ∈ (upd M c.2.1 c.2.2.1).map (·.1) := List.mem_map_of_mem hp
    rw [upd_keys] at hk
    split at hk
    · obtain ⟨q, hq, e⟩ := List.mem_map.1 hk; rw [← e]; exact h.all q hq
    · rcases List.mem_append.1 hk with hk | hk
      · obtain ⟨q, hq, e⟩ := List.mem_map.1 hk; rw [← e]; exact h.all q hq
      · simpa using hk
theorem Ap.other {a : V} {L M : List Pr} {c : Cl} (h : Ap a L M) (hc : c.2.1 ≠ a) (hl : L.length < mx) : Ap a (Di.mk L c) M := by
  refine ⟨?_, mk_nd c h.nL, h.nM, h.all⟩
  unfold Di.mk
  split
  · rw [del_era, lk_era _ _ h.nL, if_neg hc]; exact h.eq_
  · cases hk : keyOk c.2.1 with
    | false => rw [put_bad _ hk]; exact h.eq_
    | true => rw [put_upd _ hk (.inl hl), lk_upd, if_neg hc]; exact h.eq_
theorem fold_ap {a : V} (ha : keyOk a = true) : ∀ (cs : List Cl) (L M : List Pr), Ap a L M → L.length + cs.length ≤ 100 → Ap a (cs.foldl (fun l c => mk l (fit c)) L) ((mine a cs).foldl (fun l c => mk l (fit c)) M)
  | [], L, M, h, _ => h
  | c :: cs, L, M, h, hl => by
    rw [List.length_cons] at hl
    have h1 := mk_length L (fit c)
    rw [mine_cons, List.foldl_cons]
    split
    · rename_i hc
      rw [List.foldl_cons, fit_raw, mk_raw]
      exact fold_ap ha cs _ _ (h.same ha hc (by unfold mx; omega)) (by omega)
    · rename_i hc
      exact fold_ap ha cs _ _ (h.other hc (by unfold mx; omega)) (by omega)
theorem mine_length (a : V) (cs : List Cl) : (mine a cs).length ≤ cs.length := by
  unfold mine
  rw [List.length_map]
  exact Nat.le_trans (List.length_filter_le _ _) (by rw [List.length_map]; exact Nat.le_refl _)
theorem apart {a : V} (ha : keyOk a = true) (l : List Cl) : Di.get (Di.made (mine a (l.take 40))) a = Di.get (Di.made l) a ∧ (Di.made (mine a (l.take 40))).length ≤ 1 := by
  have h40 : (l.take 40).length ≤ 40 := by rw [List.length_take]; omega
  have h : Ap a (Di.made l) (Di.made (mine a (l.take 40))) := by
    unfold Di.made
    rw [List.take_of_length_le (Nat.le_trans (mine_length a _) h40)]
    exact fold_ap ha _ [] [] ⟨rfl, by simp [Nd], by simp [Nd], fun p hp => by cases hp⟩ (by simp; omega)
  exact ⟨by rw [get_lk, get_lk, h.eq_], all_one h.all h.nM⟩
theorem mine_cok {a : V} {l : List Cl} (h : ∀ c ∈ l, Cok c) : ∀ c ∈ mine a l, Cok c := by
  intro c hc
  unfold mine at hc
  obtain ⟨d, hd, rfl⟩ := List.mem_map.1 hc
  obtain ⟨e, he, rfl⟩ := List.mem_map.1 (List.mem_filter.1 hd).1
  have := fit_cok (h e he)
  exact ⟨this.k, this.x⟩
set_option maxHeartbeats 16000000 in
set_option maxRecDepth 100000 in
theorem walk (I : DictI) {k : V} {v0 : Value} {l : List Cl} {w : World} (HV : Hid (Vok k)) (HC : Hid (CRow v0 l w)) (HOK : Hid (∀ c ∈ l, Cok c)) (hl : l.length ≤ 140737488355328) :
    Calls Try.prog 11 #[v0, vV k] w fun e w' => e = .returned (.bool true) ∧ Below w.heap.size w w' := by
  obtain ⟨W, hW⟩ : ∃ W, W = w.alloc (.cells #[.int .i64 k.1, .int .i64 k.2.1, .string k.2.2] 32) := ⟨_, rfl⟩
  have HB : Hid (Below w.heap.size w W) := (show Below _ _ _ by rw [hW]; exact below_new _ _)
  obtain ⟨b3, hb3⟩ : ∃ bx, w.heap.size = bx := ⟨_, rfl⟩
  have HE3 : Hid (BoxV W b3 k) := (show BoxV _ _ _ by rw [hW, ← hb3]; exact box_cells _ _)
  have HB3 := Lib.hid hb3
  have HW := Lib.hid hW
  obtain ⟨pa, cap, hv0, hrow⟩ := HC.out.form
  subst hv0
  have HR := Lib.hid hrow
  obtain ⟨L, hL⟩ : ∃ L, Di.made l = L := ⟨_, rfl⟩
  have HLL : Hid (L.length ≤ 100) := (show _ ≤ _ by rw [← hL]; have := made_length l; omega)
  have HL := Lib.hid hL
  obtain ⟨f, hf⟩ := hid_ex (fitK k)
  have HKF : Hid (keyOk f = true) := (show _ = _ by rw [← hf.out]; exact fitK_ok k)
  have HFV : Hid (Vok f) := (show Vok f by rw [← hf.out]; exact fitK_vok HV.out)
  obtain ⟨M, hM⟩ : ∃ M, Di.made (mine f (l.take 40)) = M := ⟨_, rfl⟩
  obtain ⟨q1, q2⟩ := apart HKF.out l
  rw [hM, hL] at q1
  rw [hM] at q2
  obtain ⟨⟨x, ok⟩, G⟩ := hid_ex (Di.get L f)
  rw [G.out] at q1
  have G2 := Lib.hid q1
  have HML := Lib.hid q2
  have HM := Lib.hid hM
  obtain ⟨n, hn⟩ : ∃ n, l.length = n := ⟨_, rfl⟩
  have HN := Lib.hid hn
  rw [hn] at HC hl ⊢
  clear hW hb3 hL hM q1 q2 hrow hn
  go_enter Try.func11, Try.ntmps11
  go_upto_region 1 with (fail)
  rw [← HW.out, HB3.out]
  go_upto_region 3 with (first
    | (go_at_call 17; refine (made_is I (Lib.hid (HC.out.below (HB.out.trans (HB1.mono HB.out.size)))) HOK (by rw [HN.out]; exact hl)).mono ?_; rintro e w2 ⟨a, br, vr, rfl, HT2, HB2⟩; rw [HL.out] at HT2)
    | (go_at_call 12; refine (shown10 I _).mono ?_; rintro e w1 ⟨rfl, HB1⟩))
  have HS : Hid (Sta I w a L [(b3, k)] w2) := (show Sta _ _ _ _ _ _ from Sta.made (HB.out.trans (HB1.mono HB.out.size)) HT2.out HB2.out (fun b y hy => by simp at hy; obtain ⟨rfl, rfl⟩ := hy; exact HE3.out.below HB1))
  obtain ⟨a0, a1, a2⟩ := HS.out.cells (b := b3) (x := k) (by simp)
  clear HB1 HB2 HT2 HW HB HE3
  go_upto_region 4 with (go_at_call 24; refine (rFit_is hf _).mono ?_; rintro e w3 ⟨rfl, HBn⟩)
  obtain ⟨W3, hW3⟩ : ∃ W, W = w3.alloc (.cells #[.int .i64 f.1, .int .i64 f.2.1, .string f.2.2] 32) := ⟨_, rfl⟩
  obtain ⟨b8, hb8⟩ : ∃ b, w3.heap.size = b := ⟨_, rfl⟩
  have HS3 := Lib.hid ((HS.out.below HBn).box f hW3 hb8)
  rw [← hW3, hb8]
  clear hW3 hb8 a0 a1 a2 HS HBn
  have H0 := Lib.hid (World.ownsRow_lit (e := 34) (size := 8) (base := W3.heap.size) W3 #[] 0 (Nat.le_refl _) (Nat.zero_le _) rfl)
  have HB0 := Lib.hid (below_new W3 (.cells #[] 34))
  go_wp2_with fail
  go_loopw [9, 10] (fun v9 v10 wr => ∃ (i g c m : Nat), v10 = .int .i64 (i : Int) ∧ v9 = .slice (some ⟨g, 0, none⟩) m c ∧ i ≤ n ∧ i ≤ 40 ∧ Hid ((mine f (l.take i)).length = m) ∧ Hid (wr.ownsRow W3.heap.size 34 8 (.slice (some ⟨g, 0, none⟩) m c) m ((mine f (l.take i)).flatMap cC)) ∧ Hid (Below W3.heap.size W3 wr)) (fun _ v10 _ => 40 - (intOf v10).toNat)
  case atStart => exact ⟨0, W3.heap.size, 0, 0, rfl, rfl, Nat.zero_le _, Nat.zero_le _, rfl, H0.out, HB0.out⟩
  case round =>
    obtain ⟨i, g, c, m, rfl, rfl, hi, hi40, HMI, HO, HBW⟩ := hrel
    clear H0 HB0
    by_cases hgo : i < n ∧ i < 40
    · obtain ⟨hin, hi4⟩ := hgo
      obtain ⟨x0, hc⟩ : ∃ x, l[i]? = some x := ⟨_, List.getElem?_eq_getElem (by have := HN.out; omega)⟩
      obtain ⟨gr, o, rfl, hg, hcs⟩ := HR.out i x0 hc
      have hBall : Below w.heap.size w wr := HS3.out.one.bel.trans (HBW.out.mono HS3.out.one.bel.size)
      have hcell := fun j u hu => (hBall.cell (p := ⟨gr, o + i * 8 + j, none⟩) hg).trans (hcs j u hu)
      have a0 := hcell 0 _ rfl
      have a1 := hcell 1 _ rfl
      have a2 := hcell 2 _ rfl
      have a3 := hcell 3 _ rfl
      have a4 := hcell 4 _ rfl
      have a5 := hcell 5 _ rfl
      have a6 := hcell 6 _ rfl
      have a7 := hcell 7 _ rfl
      simp only [Nat.add_zero] at a0
      have HCK := Lib.hid (HOK.out x0 (List.mem_of_getElem? hc))
      obtain ⟨y, hy⟩ := hid_ex (fit x0)
      have HTK : Hid (mine f (l.take (i + 1)) = if y.2.1 = f then mine f (l.take i) ++ [raw y] else mine f (l.take i)) := (show _ = _ by rw [List.take_add_one, hc, Option.toList_some, mine_snoc, hy.out])
      have HM40 : Hid (m ≤ 40) := (show _ ≤ _ by have := mine_length f (l.take i); rw [HMI.out, List.length_take] at this; omega)
      have hin' : (i : Int) < (n : Int) := by omega
      have hi4' : (i : Int) < 40 := by omega
      clear hc hcs hcell hBall
      go_upto_region 9 with (go_at_call 15; refine (fit_is hy HCK.out.k.s _).mono ?_; rintro e w5 ⟨rfl, HB5⟩)
      obtain ⟨W5, hW5⟩ : ∃ W, W = w5.alloc (.cells #[.int .i64 y.1, .int .i64 y.2.1.1, .int .i64 y.2.1.2.1, .string y.2.1.2.2, .int .i64 y.2.2.1.1, .int .i64 y.2.2.1.2.1, .string y.2.2.1.2.2, .bool y.2.2.2] 34) := ⟨_, rfl⟩
      obtain ⟨b11, hb11⟩ : ∃ b, w5.heap.size = b := ⟨_, rfl⟩
      have h11 : W5.heap[b11]? = some (.cells #[.int .i64 y.1, .int .i64 y.2.1.1, .int .i64 y.2.1.2.1, .string y.2.1.2.2, .int .i64 y.2.2.1.1, .int .i64 y.2.2.1.2.1, .string y.2.2.1.2.2, .bool y.2.2.2] 34) := by rw [hW5, ← hb11]; exact heap_alloc_new w5 _
      have hb5 : Below wr.heap.size wr W5 := by rw [hW5]; exact HB5.trans ((below_new w5 _).mono HB5.size)
      have HLT : Hid (wr.heap.size ≤ b11) := (show _ ≤ _ by rw [← hb11]; exact HB5.size)
      have H11 := Lib.hid h11
      have HB5' := Lib.hid hb5
      rw [← hW5, hb11]
      clear hW5 hb11 a0 a1 a2 a3 a4 a5 a6 a7 HB5 h11 hb5
      obtain ⟨_, k1, k2, k3, _, _, _, _⟩ := C_cells H11.out
      obtain ⟨d0, d1, d2⟩ := (HS3.out.below (HBW.out.trans (HB5'.out.mono HBW.out.size))).cells (b := b8) (x := f) (by simp)
      have hcmp := fun wx => eql_V wx y.2.1 f
      have HO5 : Hid (W5.ownsRow W3.heap.size 34 8 (.slice (some ⟨g, 0, none⟩) m c) m ((mine f (l.take i)).flatMap cC)) := (show World.ownsRow _ _ _ _ _ _ _ from own_blkC HO.out (fun j hj => HB5'.out.block j (HO.out.lt j hj).2))
      have HBW5 : Hid (Below W3.heap.size W3 W5) := (show Below _ _ _ from HBW.out.trans (HB5'.out.mono HBW.out.size))
      have HG5 : Hid (g < b11 ∧ W3.heap.size ≤ g ∧ W3.heap.size ≤ b11) := (show _ ∧ _ ∧ _ by have := (HO.out.lt g rfl).2; have := (HO.out.lt g rfl).1; have := HLT.out; have := HBW.out.size; omega)
      by_cases hyf : y.2.1 = f
      · have hd : decide (y.2.1 = f) = true := by simp [hyf]
        rw [hd] at hcmp
        rw [if_pos hyf] at HTK
        clear hd hyf HO HBW HB5' HLT
        go_upto_region 10 with (fail)
        have hfz := V_frozen H11.out 7
        go_upto_region 11 with (fail)
        obtain ⟨W6, hW6⟩ : ∃ W, W = W5.setCell ⟨b11, 7, none⟩ (.bool true) := ⟨_, rfl⟩
        have h6 : W6.heap[b11]? = some (.cells #[.int .i64 y.1, .int .i64 y.2.1.1, .int .i64 y.2.1.2.1, .string y.2.1.2.2, .int .i64 y.2.2.1.1, .int .i64 y.2.2.1.2.1, .string y.2.2.1.2.2, .bool true] 34) := by rw [hW6, set_at H11.out 7 (.bool true)]; rfl
        have hO6 : W6.ownsRow W3.heap.size 34 8 (.slice (some ⟨g, 0, none⟩) m c) m ((mine f (l.take i)).flatMap cC) := own_blkC HO5.out (fun j hj => by rw [hW6]; exact Below.heap_setCell _ _ _ _ (by simp only [Value.ownBlock, Option.some.injEq] at hj; subst hj; have := HG5.out.1; show g ≠ b11; omega))
        have hb6 : Below W3.heap.size W3 W6 := by rw [hW6]; exact HBW5.out.setCell (p := ⟨b11, 7, none⟩) HG5.out.2.2 _
        have HO6 := Lib.hid hO6
        have HB6 := Lib.hid hb6
        rw [← hW6]
        clear hW6 k1 k2 k3 d0 d1 d2 hO6 hb6 hfz hcmp HBW5 HO5 H11
        obtain ⟨k0, k1, k2, k3, k4, k5, k6, k7⟩ := C_cells h6
        clear h6
        go_wp2_with (at_builtin; refine wpList_capps (by rfl) _ _ (by rfl) _ W3.heap.size g c (mine f (l.take i)) m HMI.out (HO6.out.alloc _) (by have := HB6.out.size; simp; omega) (.slice (some ⟨W6.heap.size, 0, none⟩) 1 1) [raw y] (src_call (c := raw y) (heap_alloc_new W6 _)) (m + 1) rfl (by have := HM40.out; omega) (by rfl) (by rfl) ?_; intro g8 c8 w8 HO8 HG8 HS8)
        refine ⟨⟨i + 1, g8, c8, m + 1, by go_num, rfl, by omega, by omega, ?_, ?_, ?_⟩, by simp [intOf]; omega⟩
        · exact (show _ = _ by rw [HTK.out, List.length_append, HMI.out]; rfl)
        · exact (show World.ownsRow _ _ _ _ _ _ _ by rw [HTK.out]; exact HO8.out)
        · exact (show Below _ _ _ from (HB6.out.trans ((below_new W6 _).mono HB6.out.size)).grown HG8.out (by have := HB6.out.size; simp; omega) (fun j e => by cases e; exact HG5.out.2.1))
      · have hd : decide (y.2.1 = f) = false := by simp [hyf]
        rw [hd] at hcmp
        rw [if_neg hyf] at HTK
        clear hd hyf HO HBW HB5' HLT
        go_wp2_with fail
        refine ⟨⟨i + 1, g, c, m, by go_num, rfl, by omega, by omega, ?_, ?_, HBW5⟩, by simp [intOf]; omega⟩
        · rw [HTK.out]; exact HMI
        · rw [HTK.out]; exact HO5
    · have hti : mine f (l.take i) = mine f (l.take 40) := by
        by_cases h : i < 40
        · rw [List.take_of_length_le (by have := HN.out; omega), List.take_of_length_le (by have := HN.out; omega)]
        · rw [show i = 40 by omega]
      rw [hti] at HMI HO
      have HC2 : Hid (CRow (.slice (some ⟨g, 0, none⟩) m c) (mine f (l.take 40)) wr) := (show CRow _ _ _ from own_crow (by rw [HMI.out]; exact HO.out))
      have HK2 : Hid (∀ c ∈ mine f (l.take 40), Cok c) := (show ∀ c ∈ _, _ from mine_cok (fun c hc => HOK.out c (List.mem_of_mem_take hc)))
      have HM40 : Hid (m ≤ 40) := (show _ ≤ _ by have := mine_length f (l.take 40); rw [HMI.out, List.length_take] at this; omega)
      have HS6 := Lib.hid (HS3.out.below HBW.out)
      obtain ⟨mm, hmm⟩ : ∃ mm, M.length = mm := ⟨_, rfl⟩
      have HMM := Lib.hid hmm
      have hmm1 : mm ≤ 1 := by rw [← hmm]; exact HML.out
      have hmm2 : (mm : Int) ≤ 1 := by omega
      have heq := fun w => eql_V w x x
      simp only [decide_true] at heq
      have hgo' : (¬ (i : Int) < (n : Int)) ∨ ((i : Int) < (n : Int) ∧ ¬ (i : Int) < 40) := by omega
      clear hti HO HBW HS3 hmm
      rcases hgo' with h1 | ⟨h1, h2⟩
      all_goals
        go_upto_region 15 with (go_at_call 17; refine (made_is I HC2 HK2 (by rw [HMI.out]; have := HM40.out; omega)).mono ?_; rintro e w9 ⟨a2, br2, vr2, rfl, HT9, HB9⟩; rw [HM.out] at HT9)
        have HS9 := Lib.hid (HS6.out.below HB9.out)
        obtain ⟨c0, c1, c2⟩ := HS9.out.cells (b := b8) (x := f) (by simp)
        clear HS6 HC2 HK2 HB9
        go_upto_region 16 with (go_at_call 22; refine (I.get_ G (Lib.hid HS9.out.one.d) (by have := HLL.out; omega) HFV.out).mono ?_; rintro e w10 ⟨rfl, HBn⟩)
        obtain ⟨W10, hW⟩ : ∃ W, W = w10.alloc (.cells #[.int .i64 x.1, .int .i64 x.2.1, .string x.2.2] 32) := ⟨_, rfl⟩
        obtain ⟨b14, hb⟩ : ∃ b, w10.heap.size = b := ⟨_, rfl⟩
        have HS10 := Lib.hid ((HS9.out.below HBn).box x hW hb)
        have HT10 : Hid (Two I wr.heap.size W10 a2 br2 vr2 M M) := (show Two _ _ _ _ _ _ _ _ by rw [hW]; exact HT9.out.below (HBn.trans ((below_new w10 _).mono HBn.size)))
        rw [← hW, hb]
        clear hW hb HBn HS9 HT9 c0 c1 c2
        obtain ⟨c0, c1, c2⟩ := HS10.out.cells (b := b8) (x := f) (by simp)
        go_upto_region 17 with (go_at_call 22; refine (I.get_ G2 (Lib.hid HT10.out.d) (by have := HML.out; omega) HFV.out).mono ?_; rintro e w11 ⟨rfl, HBn⟩)
        obtain ⟨W11, hW⟩ : ∃ W, W = w11.alloc (.cells #[.int .i64 x.1, .int .i64 x.2.1, .string x.2.2] 32) := ⟨_, rfl⟩
        obtain ⟨b16, hb⟩ : ∃ b, w11.heap.size = b := ⟨_, rfl⟩
        have HS11 := Lib.hid ((HS10.out.below HBn).box x hW hb)
        have HT11 : Hid (Two I wr.heap.size W11 a2 br2 vr2 M M) := (show Two _ _ _ _ _ _ _ _ by rw [hW]; exact HT10.out.below (HBn.trans ((below_new w11 _).mono HBn.size)))
        rw [← hW, hb]
        clear hW hb HBn HS10 HT10 c0 c1 c2
        obtain ⟨c0, c1, c2⟩ := HS11.out.cells (b := b14) (x := x) (by simp)
        obtain ⟨d0, d1, d2⟩ := HS11.out.cells (b := b16) (x := x) (by simp)
        go_wp2_with (go_at_call 25; refine (I.len_ HMM (Lib.hid HT11.out.d) (by omega)).mono ?_; rintro e w12 ⟨rfl, HBn⟩)
        go_ret
        exact ⟨rfl, HS11.out.one.bel.trans (HBn.mono HS11.out.one.bel.size)⟩
end lawDictApart
end Go.Proofs.Ytaghkidelbepnaa
