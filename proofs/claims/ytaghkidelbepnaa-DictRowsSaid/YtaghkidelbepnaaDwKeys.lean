/-
  DictKeys of layer 10: the walk, at this program.
-/
import Derived.Test.YtaghkidelbepnaaDiY
set_option linter.unusedVariables false
set_option linter.unusedSimpArgs false
namespace Go.Proofs.Ytaghkidelbepnaa
namespace lawDictKeys
open Go.RowKit
open Di

def AllK (l : List Pr) : Prop := ∀ p ∈ l, keyOk p.1 = true
theorem put_keys {l : List Pr} (h : AllK l) (k x : V) : AllK (Di.put l k x).2 := by
  unfold Di.put
  split
  · rename_i hk
    split
    · intro p hp
      rcases List.mem_or_eq_of_mem_set hp with hp | rfl
      · exact h p hp
      · exact hk
    · split
      · intro p hp
        rcases List.mem_append.1 hp with hp | hp
        · exact h p hp
        · simp at hp; subst hp; exact hk
      · exact h
  · exact h
theorem del_keys {l : List Pr} (h : AllK l) (k : V) : AllK (Di.del l k).2 := by
  unfold Di.del
  split
  · intro p hp
    rcases List.mem_append.1 hp with hp | hp
    · exact h p (List.mem_of_mem_take hp)
    · exact h p (List.mem_of_mem_drop hp)
  · exact h
theorem fold_keys : ∀ (cs : List Cl) (l : List Pr), AllK l → AllK (cs.foldl (fun l c => mk l (fit c)) l)
  | [], l, h => h
  | c :: cs, l, h => by
    rw [List.foldl_cons]
    refine fold_keys cs _ ?_
    unfold mk
    split
    · exact del_keys h _
    · exact put_keys h _ _
theorem made_keys (cs : List Cl) : AllK (Di.made cs) := fold_keys _ [] (fun p hp => by cases hp)
theorem absent {l : List Pr} (h : AllK l) {v : V} (hv : keyOk v = false) : idx l v = none :=
  idx_none.2 (fun p hp e => by have := h p hp; rw [e, hv] at this; cases this)
set_option maxHeartbeats 16000000 in
set_option maxRecDepth 100000 in
theorem walk (I : DictI) {v : V} {v0 : Value} {l : List Cl} {w : World} (HV : Hid (Vok v)) (HC : Hid (CRow v0 l w)) (HOK : Hid (∀ c ∈ l, Cok c)) (hl : l.length ≤ 140737488355328) :
    Calls Try.prog 4 #[vV v, v0] w fun e w' => e = .returned (.bool true) ∧ Below w.heap.size w w' := by
  obtain ⟨W, hW⟩ : ∃ W, W = w.alloc (.cells #[.int .i64 v.1, .int .i64 v.2.1, .string v.2.2] 32) := ⟨_, rfl⟩
  have HB : Hid (Below w.heap.size w W) := (show Below _ _ _ by rw [hW]; exact below_new _ _)
  have hbx := box_cells w v
  rw [← hW] at hbx
  have HW := Lib.hid hW
  obtain ⟨bx, hbxx⟩ : ∃ bx, w.heap.size = bx := ⟨_, rfl⟩
  rw [hbxx] at hbx
  have HBX := Lib.hid hbx
  have HBQ := Lib.hid hbxx
  have HLT : Hid (bx < W.heap.size) := (show _ < _ from (Array.getElem?_eq_some_iff.1 hbx).1)
  obtain ⟨pa, cap, hv0, _⟩ := HC.out.form
  subst hv0
  obtain ⟨L, hL⟩ : ∃ L, Di.made l = L := ⟨_, rfl⟩
  have HLL : Hid (L.length ≤ 100) := (show _ ≤ _ by rw [← hL]; have := made_length l; omega)
  have HLK : Hid (AllK L) := (show AllK _ by rw [← hL]; exact made_keys l)
  have HL := Lib.hid hL
  obtain ⟨r, hr⟩ := hid_ex (keyOk v)
  clear hbx hW hbxx hL
  have hneq : ∀ b : Bool, (b != b) = false := fun b => by simp
  go_enter Try.func4, Try.ntmps4
  go_upto_region 1 with (fail)
  rw [← HW.out, HBQ.out]
  go_upto_region 3 with (first
    | (go_at_call 17; refine (made_is I (Lib.hid (HC.out.below (HB.out.trans (HB1.mono HB.out.size)))) HOK hl).mono ?_; rintro e w2 ⟨a, b, vr, rfl, HT2, HB2⟩; rw [HL.out] at HT2; have e1 := (HB2.out.block bx (Nat.lt_of_lt_of_le HLT.out HB1.size)).trans ((HB1.block bx HLT.out).trans HBX.out); obtain ⟨a0, a1, a2⟩ := V_cells e1; have HE1 := Lib.hid e1; clear e1)
    | (go_at_call 12; refine (shown10 I _).mono ?_; rintro e w1 ⟨rfl, HB1⟩))
  have HW2 : Hid (Below w.heap.size w w2) := (show Below _ _ _ from (HB.out.trans (HB1.mono HB.out.size)).trans (HB2.out.mono (Nat.le_trans HB.out.size HB1.size)))
  have HBs : Hid (w.heap.size ≤ w1.heap.size ∧ w1.heap.size ≤ w2.heap.size ∧ bx < w1.heap.size) := (show _ ∧ _ ∧ _ from ⟨Nat.le_trans HB.out.size HB1.size, HB2.out.size, Nat.lt_of_lt_of_le HLT.out HB1.size⟩)
  go_upto_region 8 with (first
    | (go_at_call 19; refine (I.key_ hr HV.out _).mono ?_; rintro e w4 ⟨rfl, HB4⟩)
    | (go_at_call 18; refine (rKey_is hr _).mono ?_; rintro e w3 ⟨rfl, HB3⟩; have e1 := (HB3.block bx (by have := HBs.out; omega)).trans HE1.out; obtain ⟨b0, b1, b2⟩ := V_cells e1; clear e1))
  have HW4 : Hid (Below w2.heap.size w2 w4) := (show Below _ _ _ from HB3.trans (HB4.mono HB3.size))
  have HT4 := Lib.hid (HT2.out.below HW4.out)
  have hE4 := (HW4.out.block bx (by have := HBs.out; omega)).trans HE1.out
  have HE4 := Lib.hid hE4
  obtain ⟨c0, c1, c2⟩ := V_cells hE4
  have HB04 : Hid (Below w.heap.size w w4) := (show Below _ _ _ from HW2.out.trans (HW4.out.mono HW2.out.size))
  have HB14 : Hid (w1.heap.size ≤ w4.heap.size) := (show _ ≤ _ from Nat.le_trans HBs.out.2.1 HW4.out.size)
  clear hE4 HB3 HB4 HT2 HB2
  cases r with
  | true =>
    obtain ⟨⟨ok, l'⟩, hp⟩ := hid_ex (Di.put L v v)
    have HLL' : Hid (l'.length ≤ 200) := (show _ ≤ _ by
      have h := (put_length L v v).1
      rw [hp.out] at h
      have := HLL.out
      have h2 : l'.length ≤ L.length + 1 := h
      omega)
    have HTd : Hid (Two I w1.heap.size w4.drew a b vr L L) := HT4.out.below (below_dr (Below.refl _ _) 1)
    have HKC : Hid (∀ w6 : World, w6.heap[bx]? = w4.heap[bx]? → w6.cell? ⟨bx, 0, none⟩ = some (.int .i64 v.1) ∧ w6.cell? ⟨bx, 1, none⟩ = some (.int .i64 v.2.1) ∧ w6.cell? ⟨bx, 2, none⟩ = some (.string v.2.2)) := (show ∀ w6 : World, _ → _ from fun w6 h6 => V_cells (h6.trans HE4.out))
    have HNF : Hid (¬ I.FR w4.drew a bx ∧ bx ≠ b ∧ vr.ownBlock ≠ some bx) := (show _ ∧ _ ∧ _ from ⟨fun e => by have := HTd.out.fd bx e; have := HBs.out; omega, fun e => by have := HTd.out.fb; have := HBs.out; omega, fun e => by have := HTd.out.fv bx e; have := HBs.out; omega⟩)
    have HLT4 : Hid (bx < w4.heap.size) := (show _ < _ from (Array.getElem?_eq_some_iff.1 HE4.out).1)
    clear a0 a1 a2
    go_wp2_with fail
    go_region_held3 (fun w' => w'.cell? ⟨bx, 0, none⟩ = some (.int .i64 v.1) ∧ w'.cell? ⟨bx, 1, none⟩ = some (.int .i64 v.2.1) ∧ w'.cell? ⟨bx, 2, none⟩ = some (.string v.2.2))
      (first
        | (go_keep; done)
        | with_reducible exact k7
        | with_reducible exact k6
        | with_reducible exact k5
        | fail)
      ((first
        | (go_at_call 16; refine (alike_is I HT6 (by have := HLL'.out; omega)).mono ?_; rintro e w7 ⟨rfl, HB7⟩; have k7 := HKC.out w7 ((HB7.block bx HLT6.out).trans HE6.out))
        | (go_at_call 21; refine (rPut_is hp (Lib.hid HT5.out.r) (by have := HLL.out; omega)).mono ?_; rintro e w6 ⟨v', rfl, HR6, HB6, HF6⟩; have HT6 := Lib.hid (HT5.out.step_r HR6.out HB6.out HF6.out (Nat.le_trans HB14.out HB5.out.size)); have HE6 : Hid (w6.heap[bx]? = w4.heap[bx]?) := (show _ = _ from (HB6.out.block bx (Nat.lt_of_lt_of_le HLT4.out HB5.out.size) (fun e => e.elim HNF.out.2.1 HNF.out.2.2)).trans (HB5.out.block bx HLT4.out HNF.out.1)); have HLT6 : Hid (bx < w6.heap.size) := (show _ < _ from Nat.lt_of_lt_of_le (Nat.lt_of_lt_of_le HLT4.out HB5.out.size) HB6.out.size); have k6 := HKC.out w6 HE6.out)
        | (go_at_call 20; refine (I.put_ (w := w4.drew) hp (Lib.hid HTd.out.d) (by have := HLL.out; omega) HV.out HV.out).mono ?_; rintro e w5 ⟨rfl, HD5, HB5, HF5⟩; have HT5 := Lib.hid (HTd.out.step_d HD5.out HB5.out HF5.out HB14.out); have k5 := HKC.out w5 (HB5.out.block bx HLT4.out HNF.out.1))
        | fail))
    all_goals
      have hB : Below w.heap.size w w7 := HB04.out.trans (((below_dr (Below.refl w.heap.size w4) 1).trans ((HTd.out.bel_d HB5.out HB14.out).mono HBs.out.1)).trans (((HT5.out.bel_r HB6.out (Nat.le_trans HB14.out HB5.out.size)).mono HBs.out.1).trans (HB7.mono (Nat.le_trans (Nat.le_trans (Nat.le_trans HBs.out.1 HB14.out) HB5.out.size) HB6.out.size))))
      have HBF := Lib.hid hB
      clear k5 k6 k7 hB
      go_wp2_with fail
      go_ret
      exact ⟨rfl, HBF.out⟩
  | false =>
    have HA : Hid (idx L v = none) := (show _ = _ from absent HLK.out hr.out)
    have HG : Hid (Di.get L v = (zeroV, false)) := (show _ = _ by unfold Di.get; rw [HA.out])
    have HP : Hid (Di.put L v v = (false, L)) := (show _ = _ by unfold Di.put; rw [hr.out]; rfl)
    have HD : Hid (Di.del L v = (false, L)) := (show _ = _ by unfold Di.del; rw [HA.out])
    have HKC : Hid (∀ w6 : World, w6.heap[bx]? = w4.heap[bx]? → w6.cell? ⟨bx, 0, none⟩ = some (.int .i64 v.1) ∧ w6.cell? ⟨bx, 1, none⟩ = some (.int .i64 v.2.1) ∧ w6.cell? ⟨bx, 2, none⟩ = some (.string v.2.2)) := (show ∀ w6 : World, _ → _ from fun w6 h6 => V_cells (h6.trans HE4.out))
    have HLT4 : Hid (bx < w4.heap.size ∧ bx < w1.heap.size) := (show _ ∧ _ from ⟨(Array.getElem?_eq_some_iff.1 HE4.out).1, HBs.out.2.2⟩)
    have HO : ∀ w5 : World, Hid (Below w5.heap.size w5 (w5.alloc (.cells #[.int .i64 zeroV.1, .int .i64 zeroV.2.1, .string zeroV.2.2] 32))) := fun w5 => below_new w5 _
    clear a0 a1 a2 b0 b1 b2
    go_wp2_with (first
      | (go_at_call 16; refine (alike_is I HT7 (by have := HLL.out; omega)).mono ?_; rintro e w8 ⟨rfl, HB8⟩)
      | (go_at_call 23; refine (I.del_ HD (Lib.hid HT6.out.d) (by have := HLL.out; omega) HV.out).mono ?_; rintro e w7 ⟨rfl, HD7, HB7, HF7⟩; have HT7 := Lib.hid (HT6.out.step_d HD7.out HB7.out HF7.out (Nat.le_trans HBW5.out HB6.out.size)))
      | (go_at_call 20; refine (I.put_ HP (Lib.hid HT5.out.d) (by have := HLL.out; omega) HV.out HV.out).mono ?_; rintro e w6 ⟨rfl, HD6, HB6, HF6⟩; have HT6 := Lib.hid (HT5.out.step_d HD6.out HB6.out HF6.out HBW5.out); obtain ⟨k0, k1, k2⟩ := HKC.out w6 ((HB6.out.block bx (Nat.lt_of_lt_of_le HLT4.out.1 (Nat.le_trans HB5.size (HO w5).out.size)) (fun e => by have := HT5.out.fd bx e; have := HLT4.out.2; omega)).trans HE5.out))
      | (go_at_call 22; refine (I.get_ HG (Lib.hid HT4.out.d) (by have := HLL.out; omega) HV.out).mono ?_; rintro e w5 ⟨rfl, HB5⟩; have HT5 := Lib.hid ((HT4.out.below HB5).below (HO w5).out); have HBW5 : Hid (w1.heap.size ≤ (w5.alloc (.cells #[.int .i64 zeroV.1, .int .i64 zeroV.2.1, .string zeroV.2.2] 32)).heap.size) := (show _ ≤ _ from Nat.le_trans (Nat.le_trans HB14.out HB5.size) (HO w5).out.size); have HE5 : Hid ((w5.alloc (.cells #[.int .i64 zeroV.1, .int .i64 zeroV.2.1, .string zeroV.2.2] 32)).heap[bx]? = w4.heap[bx]?) := (show _ = _ from ((HO w5).out.block bx (Nat.lt_of_lt_of_le HLT4.out.1 HB5.size)).trans (HB5.block bx HLT4.out.1)); obtain ⟨d0, d1, d2⟩ := HKC.out (w5.alloc (.cells #[.int .i64 zeroV.1, .int .i64 zeroV.2.1, .string zeroV.2.2] 32)) HE5.out))
    go_ret
    exact ⟨rfl, HB04.out.trans (((HB5.trans ((HO w5).out.mono HB5.size)).mono (Nat.le_trans HBs.out.1 HB14.out)).trans (((HT5.out.bel_d HB6.out HBW5.out).mono HBs.out.1).trans (((HT6.out.bel_d HB7.out (Nat.le_trans HBW5.out HB6.out.size)).mono HBs.out.1).trans (HB8.mono (Nat.le_trans (Nat.le_trans (Nat.le_trans HBs.out.1 HBW5.out) HB6.out.size) HB7.out.size)))))⟩
end lawDictKeys
end Go.Proofs.Ytaghkidelbepnaa
