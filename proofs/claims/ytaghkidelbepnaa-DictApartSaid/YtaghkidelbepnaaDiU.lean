/-
  The law's does, at this program.
-/
import Derived.Test.YtaghkidelbepnaaDiT
set_option linter.unusedVariables false
set_option linter.unusedSimpArgs false
namespace Go.Proofs.Ytaghkidelbepnaa
open Go.RowKit
open Di

/-- What has become of both: nothing else has turned, and what they are made of is what they were made of, or new. -/
structure Stq (I : DictI) (a b : Nat) (v v' : Value) (w w' : World) : Prop where
  but : But (Both I w a b v) w w'
  new : ∀ k, Both I w' a b v' k → Both I w a b v k ∨ w.heap.size ≤ k
theorem Stq.trans {I : DictI} {a b : Nat} {v v1 v2 : Value} {w w1 w2 : World} (h : Stq I a b v v1 w w1) (k : Stq I a b v1 v2 w1 w2) : Stq I a b v v2 w w2 :=
  ⟨⟨k.but.os.trans h.but.os, k.but.tape.trans h.but.tape, k.but.output.trans h.but.output, Nat.le_trans h.but.size k.but.size, fun j hj hn => (k.but.block j (Nat.lt_of_lt_of_le hj h.but.size) (fun e => (h.new j e).elim hn (fun e2 => by omega))).trans (h.but.block j hj hn)⟩,
   fun j hj => (k.new j hj).elim (h.new j) (fun e => Or.inr (Nat.le_trans h.but.size e))⟩
theorem Two.fr {I : DictI} {B : Nat} {w w' : World} {a b : Nat} {v : Value} {ld lr : List Pr} (h : Two I B w a b v ld lr) (hs : w.heap.size ≤ w'.heap.size) (hb : ∀ k, k < w.heap.size → I.FR w a k → w'.heap[k]? = w.heap[k]?) : ∀ k, I.FR w' a k → I.FR w a k :=
  (I.kept h.d hs (fun k hk => hb k (I.lt h.d hk) hk)).2
theorem Two.stq_below {I : DictI} {B : Nat} {w w' : World} {a b : Nat} {v : Value} {ld lr : List Pr} (h : Two I B w a b v ld lr) (hb : Below w.heap.size w w') : Stq I a b v v w w' :=
  ⟨.of_below hb, fun k hk => Or.inl (hk.imp_left (h.fr hb.size (fun k hk _ => hb.block k hk) k))⟩
theorem Two.stq_d {I : DictI} {w w' : World} {a b : Nat} {v : Value} (hb : But (I.FR w a) w w') (hf : ∀ j, I.FR w' a j → I.FR w a j ∨ w.heap.size ≤ j) : Stq I a b v v w w' :=
  ⟨hb.mono (fun k _ e => Or.inl e), fun k hk => hk.elim (fun e => (hf k e).imp_left Or.inl) (fun e => Or.inl (Or.inr e))⟩
theorem Two.stq_r {I : DictI} {B : Nat} {w w' : World} {a b : Nat} {v v' : Value} {ld lr : List Pr} (h : Two I B w a b v ld lr) (hb : But (fun j => j = b ∨ v.ownBlock = some j) w w') (hf : ∀ j, v'.ownBlock = some j → v.ownBlock = some j ∨ w.heap.size ≤ j) : Stq I a b v v' w w' :=
  ⟨hb.mono (fun k _ e => Or.inr e), fun k hk => by
    rcases hk with e | e | e
    · exact Or.inl (Or.inl (h.fr hb.size (fun k hk hF => hb.block k hk (fun e => e.elim (h.ap k hF).1 (h.ap k hF).2)) k e))
    · exact Or.inl (Or.inr (Or.inl e))
    · exact (hf k e).imp_left (fun e => Or.inr (Or.inr e))⟩
/-- A call of both, done. -/
def DoesEnd (I : DictI) (B : Nat) (w : World) (a b : Nat) (v : Value) (l' : List Pr) (e : Ending) (w' : World) : Prop :=
  ∃ v', e = .returned (.bool true) ∧ Hid (Two I B w' a b v' l' l') ∧ Hid (Stq I a b v v' w w')
theorem boxC (w : World) (c : Cl) : (w.alloc (.cells #[.int .i64 c.1, .int .i64 c.2.1.1, .int .i64 c.2.1.2.1, .string c.2.1.2.2, .int .i64 c.2.2.1.1, .int .i64 c.2.2.1.2.1, .string c.2.2.1.2.2, .bool c.2.2.2] 34)).heap[w.heap.size]? = some (.cells #[.int .i64 c.1, .int .i64 c.2.1.1, .int .i64 c.2.1.2.1, .string c.2.1.2.2, .int .i64 c.2.2.1.1, .int .i64 c.2.2.1.2.1, .string c.2.2.1.2.2, .bool c.2.2.2] 34) := heap_alloc_new _ _
theorem Both.but_d {I : DictI} {w w' : World} {a b : Nat} {v : Value} (h : But (I.FR w a) w w') : But (Both I w a b v) w w' := h.mono (fun k _ e => Or.inl e)
set_option maxHeartbeats 8000000 in
set_option maxRecDepth 100000 in
theorem does_put (I : DictI) {B : Nat} {w : World} {a b : Nat} {v : Value} {l : List Pr} {c : Cl} {ok : Bool} {l' : List Pr} (HT : Hid (Two I B w a b v l l)) (hl : l.length ≤ 5000) (hk : Vok c.2.1) (hx : Vok c.2.2.1) (hB : B ≤ w.heap.size) (hq : c.1 % 4 = 0 ∨ c.1 % 4 = 1) (hp : Hid (Di.put l c.2.1 c.2.2.1 = (ok, l'))) :
    Calls Try.prog 14 #[ptrV a, ptrV b, vC c] w (DoesEnd I B w a b v l') := by
  obtain ⟨W, hW⟩ : ∃ W, W = w.alloc (.cells #[.int .i64 c.1, .int .i64 c.2.1.1, .int .i64 c.2.1.2.1, .string c.2.1.2.2, .int .i64 c.2.2.1.1, .int .i64 c.2.2.1.2.1, .string c.2.2.1.2.2, .bool c.2.2.2] 34) := ⟨_, rfl⟩
  have HB : Hid (Below w.heap.size w W) := (show Below _ _ _ by rw [hW]; exact below_new _ _)
  have hbx := boxC w c
  rw [← hW] at hbx
  have HBX := Lib.hid hbx
  have HW := Lib.hid hW
  have hTW := HT.out.below HB.out
  have HTW := Lib.hid hTW
  have HTd : Hid (Two I B W.drew a b v l l) := hTW.below (below_dr (Below.refl _ _) 1)
  obtain ⟨bx, hbxx⟩ : ∃ bx, w.heap.size = bx := ⟨_, rfl⟩
  rw [hbxx] at hbx
  obtain ⟨a0, a1, a2, a3, a4, a5, a6, a7⟩ := C_cells hbx
  have HBQ := Lib.hid hbxx
  have HLT : Hid (bx < W.heap.size) := (show _ < _ from (Array.getElem?_eq_some_iff.1 hbx).1)
  have HKC : Hid (∀ w6 : World, w6.heap[bx]? = W.heap[bx]? → w6.cell? ⟨bx, 1, none⟩ = some (.int .i64 c.2.1.1) ∧ w6.cell? ⟨bx, 2, none⟩ = some (.int .i64 c.2.1.2.1) ∧ w6.cell? ⟨bx, 3, none⟩ = some (.string c.2.1.2.2) ∧ w6.cell? ⟨bx, 4, none⟩ = some (.int .i64 c.2.2.1.1) ∧ w6.cell? ⟨bx, 5, none⟩ = some (.int .i64 c.2.2.1.2.1) ∧ w6.cell? ⟨bx, 6, none⟩ = some (.string c.2.2.1.2.2)) := (show ∀ w6 : World, _ → _ from fun w6 h6 => by
    obtain ⟨_, e1, e2, e3, e4, e5, e6, _⟩ := C_cells (h6.trans hbx)
    exact ⟨e1, e2, e3, e4, e5, e6⟩)
  have hb3 := i64_and3 c.1
  obtain ⟨q, hqq⟩ : ∃ q, c.1 % 4 = q := ⟨_, rfl⟩
  rw [hqq] at hb3 hq
  have HP2 := hp
  have hl2 : l.length ≤ 100000 := by omega
  clear hbx hW hTW hbxx hqq a0 a7
  have HBN : Hid (∀ k, I.FR W.drew a k → k ≠ bx) := (show ∀ k, _ → _ from fun k hk e => by
    have hTW2 := HTW.out
    have h1 := (I.kept hTW2.d (Nat.le_refl _) (w' := W.drew) (fun _ _ => rfl)).2 k hk
    have h2 := (I.kept HT.out.d HB.out.size (fun j hj => HB.out.block j (I.lt HT.out.d hj))).2 k h1
    have h3 := I.lt HT.out.d h2
    have := HBQ.out
    omega)
  have HBr : Hid (¬ (bx = b ∨ v.ownBlock = some bx)) := (show ¬ _ from fun e => by
    have h1 := HBQ.out
    rcases e with e | e
    · have := HT.out.r.lt; omega
    · have := HT.out.r.row_lt _ e; omega)
  have a0 : W.cell? ⟨bx, 0, none⟩ = some (.int .i64 c.1) := by rw [← HBQ.out]; exact (C_cells HBX.out).1
  rcases hq with rfl | rfl
  all_goals
    go_enter Try.func14, Try.ntmps14
    go_upto_region 1 with (fail)
    rw [← HW.out, HBQ.out]
    go_upto_region 4 with (fail)
    go_region_held3 (fun w' => w'.cell? ⟨bx, 1, none⟩ = some (.int .i64 c.2.1.1) ∧ w'.cell? ⟨bx, 2, none⟩ = some (.int .i64 c.2.1.2.1) ∧ w'.cell? ⟨bx, 3, none⟩ = some (.string c.2.1.2.2) ∧ w'.cell? ⟨bx, 4, none⟩ = some (.int .i64 c.2.2.1.1) ∧ w'.cell? ⟨bx, 5, none⟩ = some (.int .i64 c.2.2.1.2.1) ∧ w'.cell? ⟨bx, 6, none⟩ = some (.string c.2.2.1.2.2))
      (first
        | (go_keep; done)
        | with_reducible exact k2
        | with_reducible exact k1
        | fail)
      ((first
        | (go_at_call 21; refine (rPut_is HP2 (Lib.hid HT1.out.r) hl2).mono ?_; rintro e w2 ⟨v', rfl, HR2, HB2, HF2⟩; have HT2 := Lib.hid (HT1.out.step_r HR2.out HB2.out HF2.out HB1s.out); have k2 := HKC.out w2 ((HB2.out.block bx (Nat.lt_of_lt_of_le HLT.out HB1.out.size) HBr.out).trans (HB1.out.block bx HLT.out (fun e => HBN.out _ e rfl))))
        | (go_at_call 20; refine (I.put_ (w := W.drew) hp (Lib.hid HTd.out.d) hl hk hx).mono ?_; rintro e w1 ⟨rfl, HD1, HB1, HF1⟩; have HT1 := Lib.hid (HTd.out.step_d HD1.out HB1.out HF1.out (Nat.le_trans hB HB.out.size)); have HB1s : Hid (B ≤ w1.heap.size) := (show _ ≤ _ from Nat.le_trans (Nat.le_trans hB HB.out.size) HB1.out.size); have k1 := HKC.out w1 (HB1.out.block bx HLT.out (fun e => HBN.out _ e rfl)))))
    all_goals
      clear k1 k2
      go_wp2_with fail
      go_ret
      exact ⟨v', rfl, HT2.out, (show Stq _ _ _ _ _ _ _ from ((HT.out.stq_below (HB.out.trans (below_dr (Below.refl _ W) 1 |>.mono HB.out.size))).trans (Two.stq_d HB1.out HF1.out)).trans (HT1.out.stq_r HB2.out HF2.out))⟩
set_option maxHeartbeats 8000000 in
set_option maxRecDepth 100000 in
theorem does_del (I : DictI) {B : Nat} {w : World} {a b : Nat} {v : Value} {l : List Pr} {c : Cl} {ok : Bool} {l' : List Pr} (HT : Hid (Two I B w a b v l l)) (hl : l.length ≤ 5000) (hk : Vok c.2.1) (hx : Vok c.2.2.1) (hB : B ≤ w.heap.size) (hq : c.1 % 4 = 3) (hp : Hid (Di.del l c.2.1 = (ok, l'))) :
    Calls Try.prog 14 #[ptrV a, ptrV b, vC c] w (DoesEnd I B w a b v l') := by
  obtain ⟨W, hW⟩ : ∃ W, W = w.alloc (.cells #[.int .i64 c.1, .int .i64 c.2.1.1, .int .i64 c.2.1.2.1, .string c.2.1.2.2, .int .i64 c.2.2.1.1, .int .i64 c.2.2.1.2.1, .string c.2.2.1.2.2, .bool c.2.2.2] 34) := ⟨_, rfl⟩
  have HB : Hid (Below w.heap.size w W) := (show Below _ _ _ by rw [hW]; exact below_new _ _)
  have hbx := boxC w c
  rw [← hW] at hbx
  have HBX := Lib.hid hbx
  have HW := Lib.hid hW
  have hTW := HT.out.below HB.out
  have HTW := Lib.hid hTW
  have HTd : Hid (Two I B W.drew a b v l l) := hTW.below (below_dr (Below.refl _ _) 1)
  obtain ⟨bx, hbxx⟩ : ∃ bx, w.heap.size = bx := ⟨_, rfl⟩
  rw [hbxx] at hbx
  obtain ⟨a0, a1, a2, a3, a4, a5, a6, a7⟩ := C_cells hbx
  have HBQ := Lib.hid hbxx
  have HLT : Hid (bx < W.heap.size) := (show _ < _ from (Array.getElem?_eq_some_iff.1 hbx).1)
  have HKC : Hid (∀ w6 : World, w6.heap[bx]? = W.heap[bx]? → w6.cell? ⟨bx, 1, none⟩ = some (.int .i64 c.2.1.1) ∧ w6.cell? ⟨bx, 2, none⟩ = some (.int .i64 c.2.1.2.1) ∧ w6.cell? ⟨bx, 3, none⟩ = some (.string c.2.1.2.2) ∧ w6.cell? ⟨bx, 4, none⟩ = some (.int .i64 c.2.2.1.1) ∧ w6.cell? ⟨bx, 5, none⟩ = some (.int .i64 c.2.2.1.2.1) ∧ w6.cell? ⟨bx, 6, none⟩ = some (.string c.2.2.1.2.2)) := (show ∀ w6 : World, _ → _ from fun w6 h6 => by
    obtain ⟨_, e1, e2, e3, e4, e5, e6, _⟩ := C_cells (h6.trans hbx)
    exact ⟨e1, e2, e3, e4, e5, e6⟩)
  have hb3 := i64_and3 c.1
  obtain ⟨q, hqq⟩ : ∃ q, c.1 % 4 = q := ⟨_, rfl⟩
  rw [hqq] at hb3 hq
  have HP2 := hp
  have hl2 : l.length ≤ 100000 := by omega
  clear hbx hW hTW hbxx hqq a0 a7
  have HBN : Hid (∀ k, I.FR W.drew a k → k ≠ bx) := (show ∀ k, _ → _ from fun k hk e => by
    have hTW2 := HTW.out
    have h1 := (I.kept hTW2.d (Nat.le_refl _) (w' := W.drew) (fun _ _ => rfl)).2 k hk
    have h2 := (I.kept HT.out.d HB.out.size (fun j hj => HB.out.block j (I.lt HT.out.d hj))).2 k h1
    have h3 := I.lt HT.out.d h2
    have := HBQ.out
    omega)
  have HBr : Hid (¬ (bx = b ∨ v.ownBlock = some bx)) := (show ¬ _ from fun e => by
    have h1 := HBQ.out
    rcases e with e | e
    · have := HT.out.r.lt; omega
    · have := HT.out.r.row_lt _ e; omega)
  have a0 : W.cell? ⟨bx, 0, none⟩ = some (.int .i64 c.1) := by rw [← HBQ.out]; exact (C_cells HBX.out).1
  subst hq
  go_enter Try.func14, Try.ntmps14
  go_upto_region 1 with (fail)
  rw [← HW.out, HBQ.out]
  go_upto_region 9 with (fail)
  go_region_held3 (fun w' => w'.cell? ⟨bx, 1, none⟩ = some (.int .i64 c.2.1.1) ∧ w'.cell? ⟨bx, 2, none⟩ = some (.int .i64 c.2.1.2.1) ∧ w'.cell? ⟨bx, 3, none⟩ = some (.string c.2.1.2.2) ∧ w'.cell? ⟨bx, 4, none⟩ = some (.int .i64 c.2.2.1.1) ∧ w'.cell? ⟨bx, 5, none⟩ = some (.int .i64 c.2.2.1.2.1) ∧ w'.cell? ⟨bx, 6, none⟩ = some (.string c.2.2.1.2.2))
    (first
      | (go_keep; done)
      | with_reducible exact k2
      | with_reducible exact k1
      | fail)
    ((first
      | (go_at_call 36; refine (rDel_is HP2 (Lib.hid HT1.out.r) hl2).mono ?_; rintro e w2 ⟨v', rfl, HR2, HB2, HF2⟩; have HT2 := Lib.hid (HT1.out.step_r HR2.out HB2.out HF2.out HB1s.out); have k2 := HKC.out w2 ((HB2.out.block bx (Nat.lt_of_lt_of_le HLT.out HB1.out.size) HBr.out).trans (HB1.out.block bx HLT.out (fun e => HBN.out _ e rfl))))
      | (go_at_call 23; refine (I.del_ (w := W.drew) hp (Lib.hid HTd.out.d) hl hk).mono ?_; rintro e w1 ⟨rfl, HD1, HB1, HF1⟩; have HT1 := Lib.hid (HTd.out.step_d HD1.out HB1.out HF1.out (Nat.le_trans hB HB.out.size)); have HB1s : Hid (B ≤ w1.heap.size) := (show _ ≤ _ from Nat.le_trans (Nat.le_trans hB HB.out.size) HB1.out.size); have k1 := HKC.out w1 (HB1.out.block bx HLT.out (fun e => HBN.out _ e rfl)))))
  all_goals
    clear k1 k2
    go_wp2_with fail
    go_ret
    exact ⟨v', rfl, HT2.out, (show Stq _ _ _ _ _ _ _ from ((HT.out.stq_below (HB.out.trans (below_dr (Below.refl _ W) 1 |>.mono HB.out.size))).trans (Two.stq_d HB1.out HF1.out)).trans (HT1.out.stq_r HB2.out HF2.out))⟩
set_option maxHeartbeats 8000000 in
set_option maxRecDepth 100000 in
theorem does_get (I : DictI) {B : Nat} {w : World} {a b : Nat} {v : Value} {l : List Pr} {c : Cl} (HT : Hid (Two I B w a b v l l)) (hl : l.length ≤ 5000) (hk : Vok c.2.1) (hx : Vok c.2.2.1) (hB : B ≤ w.heap.size) (hq : c.1 % 4 = 2) :
    Calls Try.prog 14 #[ptrV a, ptrV b, vC c] w (DoesEnd I B w a b v l) := by
  obtain ⟨W, hW⟩ : ∃ W, W = w.alloc (.cells #[.int .i64 c.1, .int .i64 c.2.1.1, .int .i64 c.2.1.2.1, .string c.2.1.2.2, .int .i64 c.2.2.1.1, .int .i64 c.2.2.1.2.1, .string c.2.2.1.2.2, .bool c.2.2.2] 34) := ⟨_, rfl⟩
  have HB : Hid (Below w.heap.size w W) := (show Below _ _ _ by rw [hW]; exact below_new _ _)
  have hbx := boxC w c
  rw [← hW] at hbx
  have HBX := Lib.hid hbx
  have HW := Lib.hid hW
  have hTW := HT.out.below HB.out
  have HTW := Lib.hid hTW
  have HTd : Hid (Two I B W.drew a b v l l) := hTW.below (below_dr (Below.refl _ _) 1)
  obtain ⟨bx, hbxx⟩ : ∃ bx, w.heap.size = bx := ⟨_, rfl⟩
  rw [hbxx] at hbx
  obtain ⟨a0, a1, a2, a3, a4, a5, a6, a7⟩ := C_cells hbx
  have HBQ := Lib.hid hbxx
  have HLT : Hid (bx < W.heap.size) := (show _ < _ from (Array.getElem?_eq_some_iff.1 hbx).1)
  have HKC : Hid (∀ w6 : World, w6.heap[bx]? = W.heap[bx]? → w6.cell? ⟨bx, 1, none⟩ = some (.int .i64 c.2.1.1) ∧ w6.cell? ⟨bx, 2, none⟩ = some (.int .i64 c.2.1.2.1) ∧ w6.cell? ⟨bx, 3, none⟩ = some (.string c.2.1.2.2) ∧ w6.cell? ⟨bx, 4, none⟩ = some (.int .i64 c.2.2.1.1) ∧ w6.cell? ⟨bx, 5, none⟩ = some (.int .i64 c.2.2.1.2.1) ∧ w6.cell? ⟨bx, 6, none⟩ = some (.string c.2.2.1.2.2)) := (show ∀ w6 : World, _ → _ from fun w6 h6 => by
    obtain ⟨_, e1, e2, e3, e4, e5, e6, _⟩ := C_cells (h6.trans hbx)
    exact ⟨e1, e2, e3, e4, e5, e6⟩)
  have hb3 := i64_and3 c.1
  obtain ⟨q, hqq⟩ : ∃ q, c.1 % 4 = q := ⟨_, rfl⟩
  rw [hqq] at hb3 hq
  obtain ⟨⟨x, ok⟩, hp⟩ := hid_ex (Di.get l c.2.1)
  have heq := eql_V
  have hl2 : l.length ≤ 100000 := by omega
  clear hbx hW hTW hbxx hqq a0 a7
  have HBN : Hid (∀ k, I.FR W.drew a k → k ≠ bx) := (show ∀ k, _ → _ from fun k hk e => by
    have hTW2 := HTW.out
    have h1 := (I.kept hTW2.d (Nat.le_refl _) (w' := W.drew) (fun _ _ => rfl)).2 k hk
    have h2 := (I.kept HT.out.d HB.out.size (fun j hj => HB.out.block j (I.lt HT.out.d hj))).2 k h1
    have h3 := I.lt HT.out.d h2
    have := HBQ.out
    omega)
  have HBr : Hid (¬ (bx = b ∨ v.ownBlock = some bx)) := (show ¬ _ from fun e => by
    have h1 := HBQ.out
    rcases e with e | e
    · have := HT.out.r.lt; omega
    · have := HT.out.r.row_lt _ e; omega)
  have a0 : W.cell? ⟨bx, 0, none⟩ = some (.int .i64 c.1) := by rw [← HBQ.out]; exact (C_cells HBX.out).1
  subst hq
  go_enter Try.func14, Try.ntmps14
  go_upto_region 1 with (fail)
  rw [← HW.out, HBQ.out]
  have hcmp : ∀ wx, (binOp .eql 32 (.agg #[.int .i64 x.1, .int .i64 x.2.1, .string x.2.2]) (.agg #[.int .i64 x.1, .int .i64 x.2.1, .string x.2.2])).run Try.prog wx = .ok (.bool true) wx := fun wx => by have := heq wx x x; simpa using this
  have HO : ∀ w1 : World, Hid (Below w1.heap.size w1 (w1.alloc (.cells #[.int .i64 x.1, .int .i64 x.2.1, .string x.2.2] 32)) ∧ (w1.alloc (.cells #[.int .i64 x.1, .int .i64 x.2.1, .string x.2.2] 32)).heap[w1.heap.size]? = some (.cells #[.int .i64 x.1, .int .i64 x.2.1, .string x.2.2] 32)) := fun w1 => (show _ ∧ _ from ⟨below_new w1 _, heap_alloc_new w1 _⟩)
  clear heq
  go_wp2_with (first
    | (go_at_call 35; refine (rGet_is hp (Lib.hid ((HTW.out.below HB1).below (HO w1).out.1).r) (by omega)).mono ?_; rintro e w2 ⟨rfl, HB2⟩; have hx2 := ((HO w2).out.1.block w1.heap.size (Nat.lt_of_lt_of_le (by simp) HB2.size)).trans ((HB2.block w1.heap.size (by simp)).trans (HO w1).out.2); obtain ⟨g0, g1, g2⟩ := V_cells hx2; have HB3 := Lib.hid (((HB1.trans ((HO w1).out.1.mono HB1.size)).trans (HB2.mono (Nat.le_trans HB1.size (HO w1).out.1.size))).trans ((HO w2).out.1.mono (Nat.le_trans (Nat.le_trans HB1.size (HO w1).out.1.size) HB2.size))); clear hx2)
    | (go_at_call 22; refine (I.get_ hp (Lib.hid HTW.out.d) hl hk).mono ?_; rintro e w1 ⟨rfl, HB1⟩; obtain ⟨e1, e2, e3, e4, e5, e6⟩ := HKC.out (w1.alloc (.cells #[.int .i64 x.1, .int .i64 x.2.1, .string x.2.2] 32)) (((HO w1).out.1.block bx (Nat.lt_of_lt_of_le HLT.out HB1.size)).trans (HB1.block bx HLT.out))))
  go_ret
  have hBB : Below w.heap.size w _ := HB.out.trans (HB3.out.mono HB.out.size)
  exact ⟨v, rfl, HT.out.below hBB, HT.out.stq_below hBB⟩
/-- A call of both. -/
theorem does_is (I : DictI) {B : Nat} {w : World} {a b : Nat} {v : Value} {l : List Pr} {c : Cl} {l' : List Pr} (hop : Hid (op l c = l')) (HT : Hid (Two I B w a b v l l)) (hl : l.length ≤ 5000) (hk : Vok c.2.1) (hx : Vok c.2.2.1) (hB : B ≤ w.heap.size) :
    Calls Try.prog 14 #[ptrV a, ptrV b, vC c] w (DoesEnd I B w a b v l') := by
  have hop := hop.out
  unfold op at hop
  simp only at hop
  by_cases h2 : c.1 % 4 = 2
  · rw [if_pos h2] at hop
    subst hop
    exact does_get I HT hl hk hx hB h2
  · rw [if_neg h2] at hop
    by_cases h3 : c.1 % 4 = 3
    · rw [if_pos h3] at hop
      exact does_del I HT hl hk hx hB h3 (show _ = _ from Prod.ext rfl hop)
    · rw [if_neg h3] at hop
      exact does_put I HT hl hk hx hB (by omega) (show _ = _ from Prod.ext rfl hop)
end Go.Proofs.Ytaghkidelbepnaa
