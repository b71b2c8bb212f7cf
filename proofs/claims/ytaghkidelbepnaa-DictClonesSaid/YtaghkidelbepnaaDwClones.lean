/-
  DictClones of layer 10: the walk, at this program.
-/
import Derived.Test.YtaghkidelbepnaaDiY
set_option linter.unusedVariables false
set_option linter.unusedSimpArgs false
namespace Go.Proofs.Ytaghkidelbepnaa
namespace lawDictClones
open Go.RowKit
open Di

def playF (L : List Pr) (l : List Cl) (i : Nat) : List Pr := (l.take i).foldl (fun l c => op l (fit c)) L
theorem playF_succ {L : List Pr} {l : List Cl} {i : Nat} {c : Cl} (h : l[i]? = some c) : playF L l (i + 1) = op (playF L l i) (fit c) := by
  unfold playF
  rw [List.take_add_one, h, List.foldl_append]
  rfl
theorem playF_over {L : List Pr} {l : List Cl} {i : Nat} (h : ¬ i < l.length) : playF L l (i + 1) = playF L l i := by
  unfold playF
  rw [List.take_of_length_le (by omega), List.take_of_length_le (by omega)]
theorem playF_len (L : List Pr) (l : List Cl) (i : Nat) : (playF L l i).length ≤ L.length + i := by
  have := fold_length (fun l c => op l (fit c)) (fun l c => op_length l (fit c)) (l.take i) L
  unfold playF
  have h2 : (l.take i).length ≤ i := by rw [List.length_take]; omega
  omega
theorem Two.other {I : DictI} {B : Nat} {w w' : World} {e c : Nat} {u : Value} {m : List Pr} {P : Nat → Prop} (h : Two I B w e c u m m) (hb : But P w w') (hP : ∀ k, Both I w e c u k → ¬ P k) : Two I B w' e c u m m ∧ ∀ k, Both I w' e c u k → Both I w e c u k := by
  obtain ⟨h1, h2⟩ := I.kept h.d hb.size (fun k hk => hb.block k (I.lt h.d hk) (hP k (Or.inl hk)))
  exact ⟨⟨h1, h.r.but hb (hP _ (Or.inr (Or.inl rfl))) (fun j hj => hP j (Or.inr (Or.inr hj))), fun k hk => h.fd k (h2 k hk), h.fb, h.fv, fun k hk => h.ap k (h2 k hk)⟩, fun k hk => hk.imp_left (h2 k)⟩
/-- Two dicts of the program's, and two of the reference's, apart. -/
structure Four (I : DictI) (B : Nat) (w : World) (a b : Nat) (v : Value) (l : List Pr) (e c : Nat) (u : Value) (m : List Pr) : Prop where
  t1 : Two I B w a b v l l
  t2 : Two I B w e c u m m
  ap : ∀ k, Both I w a b v k → ¬ Both I w e c u k
theorem Four.swap {I : DictI} {B : Nat} {w : World} {a b e c : Nat} {v u : Value} {l m : List Pr} (h : Four I B w a b v l e c u m) : Four I B w e c u m a b v l := ⟨h.t2, h.t1, fun k h1 h2 => h.ap k h2 h1⟩
theorem Four.step {I : DictI} {B : Nat} {w w' : World} {a b e c : Nat} {v v' u : Value} {l l' m : List Pr} (h : Four I B w a b v l e c u m) (h1 : Two I B w' a b v' l' l') (hq : Stq I a b v v' w w') : Four I B w' a b v' l' e c u m := by
  obtain ⟨k1, k2⟩ := Two.other h.t2 hq.but (fun k hk e => h.ap k e hk)
  refine ⟨h1, k1, fun k hk he => ?_⟩
  rcases hq.new k hk with g | g
  · exact h.ap k g (k2 k he)
  · have := (h.t2.both_lt (k2 k he)).2; omega
theorem Four.below {I : DictI} {B : Nat} {w w' : World} {a b e c : Nat} {v u : Value} {l m : List Pr} (h : Four I B w a b v l e c u m) (hb : Below w.heap.size w w') : Four I B w' a b v l e c u m := h.step (h.t1.below hb) (h.t1.stq_below hb)
theorem Four.bel {I : DictI} {B D : Nat} {w w' : World} {a b e c : Nat} {v v' u : Value} {l m : List Pr} (h : Four I B w a b v l e c u m) (hq : Stq I a b v v' w w') (hD : D ≤ B) (hB : B ≤ w.heap.size) : Below D w w' :=
  hq.but.below (Nat.le_trans hD hB) (fun k hk e => by have := (h.t1.both_lt e).1; omega)
theorem Four.made {I : DictI} {B : Nat} {w w3 w4 : World} {a b e c : Nat} {v u : Value} {l : List Pr} (h : Two I B w a b v l l) (hB : B ≤ w.heap.size) (h3 : I.DR w3 e l) (hb3 : Below w.heap.size w w3) (hf3 : ∀ k, I.FR w3 e k → w.heap.size ≤ k) (h4 : RD w4 c u l) (hb4 : Below w3.heap.size w3 w4) (hc : w3.heap.size ≤ c) (hu : ∀ j, u.ownBlock = some j → w3.heap.size ≤ j) : Four I B w4 a b v l e c u l := by
  have hs3 := hb3.size
  obtain ⟨k1, k2⟩ := I.kept h3 hb4.size (fun k hk => hb4.block k (I.lt h3 hk))
  have hb : Below w.heap.size w w4 := hb3.trans (hb4.mono hs3)
  have hq := h.stq_below hb
  refine ⟨h.below hb, ⟨k1, h4, fun k hk => Nat.le_trans hB (hf3 k (k2 k hk)), by omega, fun j hj => by have := hu j hj; omega, fun k hk => ⟨fun e => by have := I.lt h3 (k2 k hk); omega, fun e => by have := hu k e; have := I.lt h3 (k2 k hk); omega⟩⟩, fun k hk he => ?_⟩
  have hlt : k < w.heap.size := by
    rcases hk with g | g | g
    · exact I.lt h.d (h.fr hb.size (fun k hk _ => hb.block k hk) k g)
    · have := h.r.lt; omega
    · exact h.r.row_lt k g
  rcases he with g | g | g
  · have := hf3 k (k2 k g); omega
  · omega
  · have := hu k g; omega
set_option maxHeartbeats 32000000 in
set_option maxRecDepth 100000 in
theorem walk (I : DictI) {v0 vA vB : Value} {l lA lB : List Cl} {w : World} (HC : Hid (CRow v0 l w)) (HCA : Hid (CRow vA lA w)) (HCB : Hid (CRow vB lB w)) (HOK : Hid (∀ c ∈ l, Cok c)) (HOA : Hid (∀ c ∈ lA, Cok c)) (HOB : Hid (∀ c ∈ lB, Cok c)) (hl : l.length ≤ 140737488355328) (hlA : lA.length ≤ 140737488355328) (hlB : lB.length ≤ 140737488355328) :
    Calls Try.prog 7 #[v0, vA, vB] w fun e w' => e = .returned (.bool true) ∧ Below w.heap.size w w' := by
  obtain ⟨p0, c0, hv0, _⟩ := HC.out.form
  subst hv0
  obtain ⟨pA, cA, hvA, hrA⟩ := HCA.out.form
  subst hvA
  obtain ⟨pB, cB, hvB, hrB⟩ := HCB.out.form
  subst hvB
  obtain ⟨nA, hnA⟩ : ∃ n, lA.length = n := ⟨_, rfl⟩
  obtain ⟨nB, hnB⟩ : ∃ n, lB.length = n := ⟨_, rfl⟩
  have HNA := Lib.hid hnA
  have HNB := Lib.hid hnB
  have HRA := Lib.hid hrA
  have HRB := Lib.hid hrB
  rw [hnA] at hlA ⊢
  rw [hnB] at hlB ⊢
  obtain ⟨L, hL⟩ : ∃ L, Di.made l = L := ⟨_, rfl⟩
  have HLL : Hid (L.length ≤ 40) := (show _ ≤ _ by rw [← hL]; exact made_length l)
  have HL := Lib.hid hL
  clear hrA hrB hnA hnB hL HCA HCB
  go_enter Try.func7, Try.ntmps7
  go_upto_region 7 with (first
    | (go_at_call 29; refine (rClone_is (Lib.hid (HT2.out.below HB3.out).r) (by have := HLL.out; omega)).mono ?_; rintro e w4 ⟨c, u, rfl, HR4, HB4, HF4⟩)
    | (go_at_call 28; refine (I.clone_ (Lib.hid HT2.out.d) (by have := HLL.out; omega)).mono ?_; rintro e w3 ⟨e, rfl, HD3, HB3, HF3⟩)
    | (go_at_call 17; refine (made_is I (Lib.hid (HC.out.below HB1)) HOK hl).mono ?_; rintro e w2 ⟨a, b, v, rfl, HT2, HB2⟩; rw [HL.out] at HT2)
    | (go_at_call 12; refine (shown10 I _).mono ?_; rintro e w1 ⟨rfl, HB1⟩))
  have HF := Lib.hid (Four.made HT2.out HB2.out.size HD3.out HB3.out HF3.out HR4.out HB4.out HF4.out.1 HF4.out.2)
  obtain ⟨B, hB⟩ : ∃ B, w1.heap.size = B := ⟨_, rfl⟩
  rw [hB] at HF
  have HBw : Hid (w.heap.size ≤ B ∧ B ≤ w4.heap.size) := (show _ ∧ _ from ⟨by rw [← hB]; exact HB1.size, by rw [← hB]; exact Nat.le_trans HB2.out.size (Nat.le_trans HB3.out.size HB4.out.size)⟩)
  have HW4 : Hid (Below w.heap.size w w4) := (show Below _ _ _ from (HB1.trans (HB2.out.mono HB1.size)).trans ((HB3.out.mono (Nat.le_trans HB1.size HB2.out.size)).trans (HB4.out.mono (Nat.le_trans (Nat.le_trans HB1.size HB2.out.size) HB3.out.size))))
  clear hB HT2 HD3 HF3 HR4 HF4 HB1 HB2 HB3 HB4
  go_wp2_with (go_at_call 16; refine (alike_is I (Lib.hid HF.out.t2) (by have := HLL.out; omega)).mono ?_; rintro e w5 ⟨rfl, HB5⟩)
  have HF5 := Lib.hid (HF.out.below HB5)
  have HW5 : Hid (Below w.heap.size w w5) := (show Below _ _ _ from HW4.out.trans (HB5.mono (Nat.le_trans HBw.out.1 HBw.out.2)))
  have HS5 : Hid (w.heap.size ≤ B ∧ B ≤ w5.heap.size) := (show _ ∧ _ from ⟨HBw.out.1, Nat.le_trans HBw.out.2 HB5.size⟩)
  clear HF HW4 HBw HB5
  go_loopw [12] (fun v12 wr => ∃ (i : Nat) (v u : Value), v12 = .int .i64 (i : Int) ∧ i ≤ 40 ∧ Hid (Four I B wr a b v (playF L lA i) e c u (playF L lB i)) ∧ Hid (Below w.heap.size w wr) ∧ Hid (w.heap.size ≤ B ∧ B ≤ wr.heap.size)) (fun v12 _ => 40 - (intOf v12).toNat)
  case atStart => exact ⟨0, v, u, rfl, Nat.zero_le _, HF5.out, HW5.out, HS5.out⟩
  case round =>
    obtain ⟨i, v, u, rfl, hi, HF, HB, HS⟩ := hrel
    clear HF5 HW5 HS5
    have HLA : Hid ((playF L lA i).length ≤ 100 ∧ (playF L lB i).length ≤ 100) := (show _ ∧ _ from ⟨by have := playF_len L lA i; have := HLL.out; omega, by have := playF_len L lB i; have := HLL.out; omega⟩)
    by_cases h40 : i < 40
    · have h40' : (i : Int) < 40 := by omega
      by_cases hA : i < nA
      · by_cases hB : i < nB
        · obtain ⟨cA', hcA⟩ : ∃ c, lA[i]? = some c := ⟨_, List.getElem?_eq_getElem (by have := HNA.out; omega)⟩
          obtain ⟨gA, oA, rfl, hgA, hcsA⟩ := HRA.out i cA' hcA
          have hcellA := fun j q hq => (HB.out.cell (p := ⟨gA, oA + i * 8 + j, none⟩) hgA).trans (hcsA j q hq)
          have ac0 := hcellA 0 _ rfl
          have ac1 := hcellA 1 _ rfl
          have ac2 := hcellA 2 _ rfl
          have ac3 := hcellA 3 _ rfl
          have ac4 := hcellA 4 _ rfl
          have ac5 := hcellA 5 _ rfl
          have ac6 := hcellA 6 _ rfl
          have ac7 := hcellA 7 _ rfl
          simp only [Nat.add_zero] at ac0
          have HCKA := Lib.hid (HOA.out cA' (List.mem_of_getElem? hcA))
          obtain ⟨fA, hfA⟩ := hid_ex (fit cA')
          have HFKA : Hid (Cok fA) := (show Cok _ by rw [← hfA.out]; exact fit_cok HCKA.out)
          obtain ⟨lA', hopA⟩ := hid_ex (op (playF L lA i) fA)
          have HEA : Hid (playF L lA (i + 1) = lA') := (show _ = _ by rw [playF_succ hcA, hfA.out, hopA.out])
          have hA' : (i : Int) < (nA : Int) := by omega
          have HGA : Hid (gA < w.heap.size) := hgA
          clear hcA hcsA hcellA
          obtain ⟨cB', hcB⟩ : ∃ c, lB[i]? = some c := ⟨_, List.getElem?_eq_getElem (by have := HNB.out; omega)⟩
          obtain ⟨gB, oB, rfl, hgB, hcsB⟩ := HRB.out i cB' hcB
          have hcellB := fun j q hq => (HB.out.cell (p := ⟨gB, oB + i * 8 + j, none⟩) hgB).trans (hcsB j q hq)
          have bc0 := hcellB 0 _ rfl
          have bc1 := hcellB 1 _ rfl
          have bc2 := hcellB 2 _ rfl
          have bc3 := hcellB 3 _ rfl
          have bc4 := hcellB 4 _ rfl
          have bc5 := hcellB 5 _ rfl
          have bc6 := hcellB 6 _ rfl
          have bc7 := hcellB 7 _ rfl
          simp only [Nat.add_zero] at bc0
          have HCKB := Lib.hid (HOB.out cB' (List.mem_of_getElem? hcB))
          obtain ⟨fB, hfB⟩ := hid_ex (fit cB')
          have HFKB : Hid (Cok fB) := (show Cok _ by rw [← hfB.out]; exact fit_cok HCKB.out)
          obtain ⟨lB', hopB⟩ := hid_ex (op (playF L lB i) fB)
          have HEB : Hid (playF L lB (i + 1) = lB') := (show _ = _ by rw [playF_succ hcB, hfB.out, hopB.out])
          have hB' : (i : Int) < (nB : Int) := by omega
          have HGB : Hid (gB < w.heap.size) := hgB
          clear hcB hcsB hcellB
          have HKB : Hid (∀ w6 : World, Below w.heap.size wr w6 → w6.cell? ⟨gB, oB + i * 8, none⟩ = some (.int .i64 cB'.1) ∧ w6.cell? ⟨gB, oB + i * 8 + 1, none⟩ = some (.int .i64 cB'.2.1.1) ∧ w6.cell? ⟨gB, oB + i * 8 + 2, none⟩ = some (.int .i64 cB'.2.1.2.1) ∧ w6.cell? ⟨gB, oB + i * 8 + 3, none⟩ = some (.string cB'.2.1.2.2) ∧ w6.cell? ⟨gB, oB + i * 8 + 4, none⟩ = some (.int .i64 cB'.2.2.1.1) ∧ w6.cell? ⟨gB, oB + i * 8 + 5, none⟩ = some (.int .i64 cB'.2.2.1.2.1) ∧ w6.cell? ⟨gB, oB + i * 8 + 6, none⟩ = some (.string cB'.2.2.1.2.2) ∧ w6.cell? ⟨gB, oB + i * 8 + 7, none⟩ = some (.bool cB'.2.2.2)) := (show ∀ w6 : World, _ → _ from fun w6 h6 => ⟨(h6.cell (p := ⟨gB, oB + i * 8, none⟩) HGB.out).trans bc0, (h6.cell (p := ⟨gB, oB + i * 8 + 1, none⟩) HGB.out).trans bc1, (h6.cell (p := ⟨gB, oB + i * 8 + 2, none⟩) HGB.out).trans bc2, (h6.cell (p := ⟨gB, oB + i * 8 + 3, none⟩) HGB.out).trans bc3, (h6.cell (p := ⟨gB, oB + i * 8 + 4, none⟩) HGB.out).trans bc4, (h6.cell (p := ⟨gB, oB + i * 8 + 5, none⟩) HGB.out).trans bc5, (h6.cell (p := ⟨gB, oB + i * 8 + 6, none⟩) HGB.out).trans bc6, (h6.cell (p := ⟨gB, oB + i * 8 + 7, none⟩) HGB.out).trans bc7⟩)
          go_wp2_with (first
            | (go_at_call 14; (with_reducible (show Calls _ _ #[Value.pointer (some ⟨e, _, _⟩), _, _] _ _)); refine (does_is I hopB (Lib.hid HF8.out.t2) (by have := HLA.out; omega) HFKB.out.k HFKB.out.x HS8.out).mono ?_; rintro e9 w9 ⟨u9, rfl, HT9, HQ9⟩; have HF9 := Lib.hid ((HF8.out.swap.step HT9.out HQ9.out).swap); have HW9 : Hid (Below w.heap.size wr w9) := (show Below _ _ _ from HW8.out.trans (HF8.out.swap.bel HQ9.out HS.out.1 HS8.out)); have HS9 : Hid (B ≤ w9.heap.size) := (show _ ≤ _ from Nat.le_trans HS8.out HQ9.out.but.size))
            | (go_at_call 15; (with_reducible (show Calls _ _ #[Value.agg #[Value.int _ cB'.1, _, _, _, _, _, _, _]] _ _)); refine (fit_is hfB HCKB.out.k.s _).mono ?_; rintro e8 w8 ⟨rfl, HB8⟩; have HF8 := Lib.hid (HF7.out.below HB8); have HW8 : Hid (Below w.heap.size wr w8) := (show Below _ _ _ from HW7.out.trans (HB8.mono (Nat.le_trans HS.out.1 HS7.out))); have HS8 : Hid (B ≤ w8.heap.size) := (show _ ≤ _ from Nat.le_trans HS7.out HB8.size))
            | (go_at_call 14; (with_reducible (show Calls _ _ #[Value.pointer (some ⟨a, _, _⟩), _, _] _ _)); refine (does_is I hopA (Lib.hid HF6.out.t1) (by have := HLA.out; omega) HFKA.out.k HFKA.out.x HS6.out).mono ?_; rintro e7 w7 ⟨v7, rfl, HT7, HQ7⟩; have HF7 := Lib.hid (HF6.out.step HT7.out HQ7.out); have HW7 : Hid (Below w.heap.size wr w7) := (show Below _ _ _ from HW6.out.trans (HF6.out.bel HQ7.out HS.out.1 HS6.out)); have HS7 : Hid (B ≤ w7.heap.size) := (show _ ≤ _ from Nat.le_trans HS6.out HQ7.out.but.size); obtain ⟨q0, q1, q2, q3, q4, q5, q6, q7⟩ := HKB.out w7 HW7.out)
            | (go_at_call 15; (with_reducible (show Calls _ _ #[Value.agg #[Value.int _ cA'.1, _, _, _, _, _, _, _]] _ _)); refine (fit_is hfA HCKA.out.k.s _).mono ?_; rintro e6 w6 ⟨rfl, HB6⟩; have HF6 := Lib.hid (HF.out.below HB6); have HW6 : Hid (Below w.heap.size wr w6) := (show Below _ _ _ from HB6.mono (Nat.le_trans HS.out.1 HS.out.2)); have HS6 : Hid (B ≤ w6.heap.size) := (show _ ≤ _ from Nat.le_trans HS.out.2 HB6.size)))
          exact ⟨⟨i + 1, v7, u9, by go_num, by omega, (show Four _ _ _ _ _ _ _ _ _ _ _ by rw [HEA.out, HEB.out]; exact HF9.out), (show Below _ _ _ from HB.out.trans HW9.out), (show _ ∧ _ from ⟨HS.out.1, HS9.out⟩)⟩, by simp [intOf]; omega⟩
        · obtain ⟨cA', hcA⟩ : ∃ c, lA[i]? = some c := ⟨_, List.getElem?_eq_getElem (by have := HNA.out; omega)⟩
          obtain ⟨gA, oA, rfl, hgA, hcsA⟩ := HRA.out i cA' hcA
          have hcellA := fun j q hq => (HB.out.cell (p := ⟨gA, oA + i * 8 + j, none⟩) hgA).trans (hcsA j q hq)
          have ac0 := hcellA 0 _ rfl
          have ac1 := hcellA 1 _ rfl
          have ac2 := hcellA 2 _ rfl
          have ac3 := hcellA 3 _ rfl
          have ac4 := hcellA 4 _ rfl
          have ac5 := hcellA 5 _ rfl
          have ac6 := hcellA 6 _ rfl
          have ac7 := hcellA 7 _ rfl
          simp only [Nat.add_zero] at ac0
          have HCKA := Lib.hid (HOA.out cA' (List.mem_of_getElem? hcA))
          obtain ⟨fA, hfA⟩ := hid_ex (fit cA')
          have HFKA : Hid (Cok fA) := (show Cok _ by rw [← hfA.out]; exact fit_cok HCKA.out)
          obtain ⟨lA', hopA⟩ := hid_ex (op (playF L lA i) fA)
          have HEA : Hid (playF L lA (i + 1) = lA') := (show _ = _ by rw [playF_succ hcA, hfA.out, hopA.out])
          have hA' : (i : Int) < (nA : Int) := by omega
          have HGA : Hid (gA < w.heap.size) := hgA
          clear hcA hcsA hcellA
          have HEB : Hid (playF L lB (i + 1) = playF L lB i) := (show _ = _ from playF_over (by rw [HNB.out]; exact hB))
          have hB' : ¬ (i : Int) < (nB : Int) := by omega
          go_wp2_with (first
            | (go_at_call 14; (with_reducible (show Calls _ _ #[Value.pointer (some ⟨a, _, _⟩), _, _] _ _)); refine (does_is I hopA (Lib.hid HF6.out.t1) (by have := HLA.out; omega) HFKA.out.k HFKA.out.x HS6.out).mono ?_; rintro e7 w7 ⟨v7, rfl, HT7, HQ7⟩; have HF7 := Lib.hid (HF6.out.step HT7.out HQ7.out); have HW7 : Hid (Below w.heap.size wr w7) := (show Below _ _ _ from HW6.out.trans (HF6.out.bel HQ7.out HS.out.1 HS6.out)); have HS7 : Hid (B ≤ w7.heap.size) := (show _ ≤ _ from Nat.le_trans HS6.out HQ7.out.but.size))
            | (go_at_call 15; (with_reducible (show Calls _ _ #[Value.agg #[Value.int _ cA'.1, _, _, _, _, _, _, _]] _ _)); refine (fit_is hfA HCKA.out.k.s _).mono ?_; rintro e6 w6 ⟨rfl, HB6⟩; have HF6 := Lib.hid (HF.out.below HB6); have HW6 : Hid (Below w.heap.size wr w6) := (show Below _ _ _ from HB6.mono (Nat.le_trans HS.out.1 HS.out.2)); have HS6 : Hid (B ≤ w6.heap.size) := (show _ ≤ _ from Nat.le_trans HS.out.2 HB6.size)))
          exact ⟨⟨i + 1, v7, u, by go_num, by omega, (show Four _ _ _ _ _ _ _ _ _ _ _ by rw [HEA.out, HEB.out]; exact HF7.out), (show Below _ _ _ from HB.out.trans HW7.out), (show _ ∧ _ from ⟨HS.out.1, HS7.out⟩)⟩, by simp [intOf]; omega⟩
      · by_cases hB : i < nB
        · have HEA : Hid (playF L lA (i + 1) = playF L lA i) := (show _ = _ from playF_over (by rw [HNA.out]; exact hA))
          have hA' : ¬ (i : Int) < (nA : Int) := by omega
          obtain ⟨cB', hcB⟩ : ∃ c, lB[i]? = some c := ⟨_, List.getElem?_eq_getElem (by have := HNB.out; omega)⟩
          obtain ⟨gB, oB, rfl, hgB, hcsB⟩ := HRB.out i cB' hcB
          have hcellB := fun j q hq => (HB.out.cell (p := ⟨gB, oB + i * 8 + j, none⟩) hgB).trans (hcsB j q hq)
          have bc0 := hcellB 0 _ rfl
          have bc1 := hcellB 1 _ rfl
          have bc2 := hcellB 2 _ rfl
          have bc3 := hcellB 3 _ rfl
          have bc4 := hcellB 4 _ rfl
          have bc5 := hcellB 5 _ rfl
          have bc6 := hcellB 6 _ rfl
          have bc7 := hcellB 7 _ rfl
          simp only [Nat.add_zero] at bc0
          have HCKB := Lib.hid (HOB.out cB' (List.mem_of_getElem? hcB))
          obtain ⟨fB, hfB⟩ := hid_ex (fit cB')
          have HFKB : Hid (Cok fB) := (show Cok _ by rw [← hfB.out]; exact fit_cok HCKB.out)
          obtain ⟨lB', hopB⟩ := hid_ex (op (playF L lB i) fB)
          have HEB : Hid (playF L lB (i + 1) = lB') := (show _ = _ by rw [playF_succ hcB, hfB.out, hopB.out])
          have hB' : (i : Int) < (nB : Int) := by omega
          have HGB : Hid (gB < w.heap.size) := hgB
          clear hcB hcsB hcellB
          have HKB : Hid (∀ w6 : World, Below w.heap.size wr w6 → w6.cell? ⟨gB, oB + i * 8, none⟩ = some (.int .i64 cB'.1) ∧ w6.cell? ⟨gB, oB + i * 8 + 1, none⟩ = some (.int .i64 cB'.2.1.1) ∧ w6.cell? ⟨gB, oB + i * 8 + 2, none⟩ = some (.int .i64 cB'.2.1.2.1) ∧ w6.cell? ⟨gB, oB + i * 8 + 3, none⟩ = some (.string cB'.2.1.2.2) ∧ w6.cell? ⟨gB, oB + i * 8 + 4, none⟩ = some (.int .i64 cB'.2.2.1.1) ∧ w6.cell? ⟨gB, oB + i * 8 + 5, none⟩ = some (.int .i64 cB'.2.2.1.2.1) ∧ w6.cell? ⟨gB, oB + i * 8 + 6, none⟩ = some (.string cB'.2.2.1.2.2) ∧ w6.cell? ⟨gB, oB + i * 8 + 7, none⟩ = some (.bool cB'.2.2.2)) := (show ∀ w6 : World, _ → _ from fun w6 h6 => ⟨(h6.cell (p := ⟨gB, oB + i * 8, none⟩) HGB.out).trans bc0, (h6.cell (p := ⟨gB, oB + i * 8 + 1, none⟩) HGB.out).trans bc1, (h6.cell (p := ⟨gB, oB + i * 8 + 2, none⟩) HGB.out).trans bc2, (h6.cell (p := ⟨gB, oB + i * 8 + 3, none⟩) HGB.out).trans bc3, (h6.cell (p := ⟨gB, oB + i * 8 + 4, none⟩) HGB.out).trans bc4, (h6.cell (p := ⟨gB, oB + i * 8 + 5, none⟩) HGB.out).trans bc5, (h6.cell (p := ⟨gB, oB + i * 8 + 6, none⟩) HGB.out).trans bc6, (h6.cell (p := ⟨gB, oB + i * 8 + 7, none⟩) HGB.out).trans bc7⟩)
          go_wp2_with (first
            | (go_at_call 14; (with_reducible (show Calls _ _ #[Value.pointer (some ⟨e, _, _⟩), _, _] _ _)); refine (does_is I hopB (Lib.hid HF8.out.t2) (by have := HLA.out; omega) HFKB.out.k HFKB.out.x HS8.out).mono ?_; rintro e9 w9 ⟨u9, rfl, HT9, HQ9⟩; have HF9 := Lib.hid ((HF8.out.swap.step HT9.out HQ9.out).swap); have HW9 : Hid (Below w.heap.size wr w9) := (show Below _ _ _ from HW8.out.trans (HF8.out.swap.bel HQ9.out HS.out.1 HS8.out)); have HS9 : Hid (B ≤ w9.heap.size) := (show _ ≤ _ from Nat.le_trans HS8.out HQ9.out.but.size))
            | (go_at_call 15; refine (fit_is hfB HCKB.out.k.s _).mono ?_; rintro e8 w8 ⟨rfl, HB8⟩; have HF8 := Lib.hid (HF.out.below HB8); have HW8 : Hid (Below w.heap.size wr w8) := (show Below _ _ _ from HB8.mono (Nat.le_trans HS.out.1 HS.out.2)); have HS8 : Hid (B ≤ w8.heap.size) := (show _ ≤ _ from Nat.le_trans HS.out.2 HB8.size)))
          exact ⟨⟨i + 1, v, u9, by go_num, by omega, (show Four _ _ _ _ _ _ _ _ _ _ _ by rw [HEA.out, HEB.out]; exact HF9.out), (show Below _ _ _ from HB.out.trans HW9.out), (show _ ∧ _ from ⟨HS.out.1, HS9.out⟩)⟩, by simp [intOf]; omega⟩
        · have HEA : Hid (playF L lA (i + 1) = playF L lA i) := (show _ = _ from playF_over (by rw [HNA.out]; exact hA))
          have hA' : ¬ (i : Int) < (nA : Int) := by omega
          have HEB : Hid (playF L lB (i + 1) = playF L lB i) := (show _ = _ from playF_over (by rw [HNB.out]; exact hB))
          have hB' : ¬ (i : Int) < (nB : Int) := by omega
          go_wp2_with fail
          exact ⟨⟨i + 1, v, u, by go_num, by omega, (show Four _ _ _ _ _ _ _ _ _ _ _ by rw [HEA.out, HEB.out]; exact HF.out), (show Below _ _ _ from HB.out), (show _ ∧ _ from HS.out)⟩, by simp [intOf]; omega⟩
    · have h40' : ¬ (i : Int) < 40 := by omega
      go_wp2_with (first
        | (go_at_call 16; (with_reducible (show Calls _ _ #[Value.pointer (some ⟨e, _, _⟩), _] _ _)); refine (alike_is I (Lib.hid (HF.out.below HB8).t2) (by have := HLA.out; omega)).mono ?_; rintro e9 w9 ⟨rfl, HB9⟩)
        | (go_at_call 16; (with_reducible (show Calls _ _ #[Value.pointer (some ⟨a, _, _⟩), _] _ _)); refine (alike_is I (Lib.hid HF.out.t1) (by have := HLA.out; omega)).mono ?_; rintro e8 w8 ⟨rfl, HB8⟩))
      go_ret
      exact ⟨rfl, HB.out.trans ((HB8.mono (Nat.le_trans HS.out.1 HS.out.2)).trans (HB9.mono (Nat.le_trans (Nat.le_trans HS.out.1 HS.out.2) HB8.size)))⟩
end lawDictClones
end Go.Proofs.Ytaghkidelbepnaa
