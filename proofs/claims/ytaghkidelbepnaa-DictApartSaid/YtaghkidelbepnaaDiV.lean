/-
  The law's made, row, at this program.
-/
import Derived.Test.YtaghkidelbepnaaDiU
set_option linter.unusedVariables false
set_option linter.unusedSimpArgs false
namespace Go.Proofs.Ytaghkidelbepnaa
open Go.RowKit
open Di

/-- A row of calls, as it came in. -/
def CRow (v : Value) (l : List Cl) (w : World) : Prop := (∃ pa cap, v = .slice pa 0 cap ∧ l = []) ∨ ∃ g o cap, v = .slice (some ⟨g, o, none⟩) l.length cap ∧ g < w.heap.size ∧ ∀ i c, l[i]? = some c → ∀ j u, (cC c)[j]? = some u → w.cell? ⟨g, o + i * 8 + j, none⟩ = some u
theorem CRow.form {v : Value} {l : List Cl} {w : World} (h : CRow v l w) : ∃ pa cap, v = .slice pa l.length cap ∧ ∀ i c, l[i]? = some c → ∃ g o, pa = some ⟨g, o, none⟩ ∧ g < w.heap.size ∧ ∀ j u, (cC c)[j]? = some u → w.cell? ⟨g, o + i * 8 + j, none⟩ = some u := by
  rcases h with ⟨pa, cap, rfl, rfl⟩ | ⟨g, o, cap, rfl, hg, hc⟩
  · exact ⟨pa, cap, rfl, fun i c hi => by simp at hi⟩
  · exact ⟨_, cap, rfl, fun i c hi => ⟨g, o, rfl, hg, hc i c hi⟩⟩
theorem CRow.below {v : Value} {l : List Cl} {w w' : World} (h : CRow v l w) (hb : Below w.heap.size w w') : CRow v l w' := by
  rcases h with h | ⟨g, o, cap, rfl, hg, hc⟩
  · exact .inl h
  · exact .inr ⟨g, o, cap, rfl, Nat.lt_of_lt_of_le hg hb.size, fun i c hi j u hu => (hb.cell (p := ⟨g, _, none⟩) hg).trans (hc i c hi j u hu)⟩
/-- A call that a machine can bear. -/
structure Cok (c : Cl) : Prop where
  k : Vok c.2.1
  x : Vok c.2.2.1
theorem cut12_le {s : ByteArray} (h : s.size ≤ 140737488355328) : (cut12 s).size ≤ 140737488355328 := by have := cut12_size s; omega
theorem fitK_vok {v : V} (h : Vok v) : Vok (fitK v) := by
  obtain ⟨h1, h2, h3⟩ := h
  have hq : v.1 % 4 = 0 ∨ v.1 % 4 = 1 ∨ v.1 % 4 = 2 ∨ v.1 % 4 = 3 := by omega
  have he : Di.mt.size ≤ 140737488355328 := by decide
  rcases hq with e | e | e | e
  · have : fitK v = zeroV := by simp [fitK, e]
    rw [this]; exact ⟨(show -9223372036854775808 ≤ (0:Int) ∧ (0:Int) ≤ 9223372036854775807 by omega), (show -9223372036854775808 ≤ (0:Int) ∧ (0:Int) ≤ 9223372036854775807 by omega), he⟩
  · have : fitK v = (1, v.2.1 % 2, Di.mt) := by simp [fitK, e]
    rw [this]; exact ⟨(show -9223372036854775808 ≤ (1:Int) ∧ (1:Int) ≤ 9223372036854775807 by omega), (show -9223372036854775808 ≤ v.2.1 % 2 ∧ v.2.1 % 2 ≤ 9223372036854775807 by omega), he⟩
  · have : fitK v = (2, v.2.1, Di.mt) := by simp [fitK, e]
    rw [this]; exact ⟨(show -9223372036854775808 ≤ (2:Int) ∧ (2:Int) ≤ 9223372036854775807 by omega), h2, he⟩
  · have : fitK v = (3, 0, v.2.2) := by simp [fitK, e]
    rw [this]; exact ⟨(show -9223372036854775808 ≤ (3:Int) ∧ (3:Int) ≤ 9223372036854775807 by omega), (show -9223372036854775808 ≤ (0:Int) ∧ (0:Int) ≤ 9223372036854775807 by omega), h3⟩
theorem fit_cok {c : Cl} (h : Cok c) : Cok (fit c) := by
  have hk : Vok (c.2.1.1, c.2.1.2.1, cut12 c.2.1.2.2) := ⟨h.k.k, h.k.n, cut12_le h.k.s⟩
  refine ⟨?_, h.x⟩
  show Vok (if c.2.2.2 then _ else _)
  split
  · exact hk
  · exact fitK_vok hk
def mkN (l : List Cl) (i : Nat) : List Pr := (l.take i).foldl (fun l c => mk l (fit c)) []
theorem mkN_succ {l : List Cl} {i : Nat} {c : Cl} (h : l[i]? = some c) : mkN l (i + 1) = mk (mkN l i) (fit c) := by
  unfold mkN
  rw [List.take_add_one, h, List.foldl_append]
  rfl
theorem mkN_len (l : List Cl) (i : Nat) : (mkN l i).length ≤ i := by
  have := fold_length (fun l c => mk l (fit c)) (fun l c => mk_length l (fit c)) (l.take i) []
  unfold mkN
  have h2 : (l.take i).length ≤ i := by rw [List.length_take]; omega
  simp at this
  omega
theorem made_of (l : List Cl) : Di.made l = mkN l (min l.length 40) := by
  unfold Di.made mkN
  congr 1
  rw [List.take_eq_take_iff]
  omega
theorem new_two (I : DictI) {w w1 w2 : World} {a : Nat} (hB : Below w.heap.size w w1) (hd : I.DR w1 a []) (hf : ∀ k, I.FR w1 a k → w.heap.size ≤ k) (h2 : w2 = w1.alloc (.cells #[.slice none 0 0] 29)) : Two I w.heap.size w2 a w1.heap.size (.slice none 0 0) [] [] := by
  subst h2
  have hb := below_new w1 (.cells #[.slice none 0 0] 29)
  obtain ⟨k1, k2⟩ := I.kept hd hb.size (fun k hk => hb.block k (I.lt hd hk))
  exact ⟨k1, ⟨heap_alloc_new w1 _, rfl, .inl ⟨rfl, rfl⟩⟩, fun k hk => hf k (k2 k hk), hB.size, (fun j hj => by simp [Value.ownBlock] at hj), fun k hk => ⟨fun e => by have := I.lt hd (k2 k hk); omega, by simp [Value.ownBlock]⟩⟩
/-- Both, made. -/
def MadeEnd (I : DictI) (w : World) (L : List Pr) (e : Ending) (w' : World) : Prop := ∃ a b v, e = .returned (.tuple #[ptrV a, ptrV b]) ∧ Hid (Two I w.heap.size w' a b v L L) ∧ Hid (Below w.heap.size w w')
theorem Two.bel_d {I : DictI} {B : Nat} {w w' : World} {a b : Nat} {v : Value} {ld lr : List Pr} (h : Two I B w a b v ld lr) (hb : But (I.FR w a) w w') (hB : B ≤ w.heap.size) : Below B w w' := hb.below hB (fun k hk e => by have := h.fd k e; omega)
theorem Two.bel_r {I : DictI} {B : Nat} {w w' : World} {a b : Nat} {v : Value} {ld lr : List Pr} (h : Two I B w a b v ld lr) (hb : But (fun j => j = b ∨ v.ownBlock = some j) w w') (hB : B ≤ w.heap.size) : Below B w w' := hb.below hB (fun k hk e => by
  rcases e with e | e
  · have := h.fb; omega
  · have := h.fv k e; omega)
theorem Two.not_new {I : DictI} {B : Nat} {w : World} {a b : Nat} {v : Value} {ld lr : List Pr} (h : Two I B w a b v ld lr) (o : Obj) : ¬ I.FR (w.alloc o) a w.heap.size := fun e => by
  have := I.lt h.d (h.fr (below_new w o).size (fun k hk _ => (below_new w o).block k hk) _ e)
  omega
set_option maxHeartbeats 16000000 in
set_option maxRecDepth 100000 in
theorem made_is (I : DictI) {v0 : Value} {l : List Cl} {w : World} (HC : Hid (CRow v0 l w)) (HOK : Hid (∀ c ∈ l, Cok c)) (hl : l.length ≤ 140737488355328) :
    Calls Try.prog 17 #[v0] w (MadeEnd I w (Di.made l)) := by
  obtain ⟨pa, cap, rfl, hrow⟩ := HC.out.form
  obtain ⟨n, hn⟩ : ∃ n, l.length = n := ⟨_, rfl⟩
  have HN := Lib.hid hn
  have HR := Lib.hid hrow
  rw [hn] at hl ⊢
  clear hrow hn
  go_enter Try.func17, Try.ntmps17
  go_upto_region 3 with (go_at_call 13; refine (I.new_ _).mono ?_; rintro e w1 ⟨a, rfl, HD1, HB1, HF1⟩)
  obtain ⟨w2, hw2⟩ : ∃ w2, w2 = w1.alloc (.cells #[.slice none 0 0] 29) := ⟨_, rfl⟩
  have HT2 := Lib.hid (new_two I HB1.out HD1.out HF1.out hw2)
  have HB2 : Hid (Below w.heap.size w w2) := (show Below _ _ _ by rw [hw2]; exact HB1.out.trans ((below_new w1 _).mono HB1.out.size))
  have HW2 := Lib.hid hw2
  obtain ⟨b, hb⟩ : ∃ b, w1.heap.size = b := ⟨_, rfl⟩
  rw [hb] at HT2
  have HBB := Lib.hid hb
  clear hw2 hb
  rw [← HW2.out, HBB.out]
  go_wp2_with fail
  go_loopw [6] (fun v6 wr => ∃ (i : Nat) (v : Value), v6 = .int .i64 (i : Int) ∧ i ≤ n ∧ i ≤ 40 ∧ Hid (Two I w.heap.size wr a b v (mkN l i) (mkN l i)) ∧ Hid (Below w.heap.size w wr)) (fun v6 _ => 40 - (intOf v6).toNat)
  case atStart => exact ⟨0, .slice none 0 0, rfl, Nat.zero_le _, Nat.zero_le _, HT2.out, HB2.out⟩
  case round =>
    obtain ⟨i, v, rfl, hi, hi40, HT, HB⟩ := hrel
    clear HD1 HB1 HF1 HT2 HB2 HW2 HBB
    by_cases hgo : i < n ∧ i < 40
    · obtain ⟨hin, hi4⟩ := hgo
      obtain ⟨c, hc⟩ : ∃ c, l[i]? = some c := ⟨_, List.getElem?_eq_getElem (by have := HN.out; omega)⟩
      obtain ⟨g, o, rfl, hg, hcs⟩ := HR.out i c hc
      have hcell := fun j u hu => (HB.out.cell (p := ⟨g, o + i * 8 + j, none⟩) hg).trans (hcs j u hu)
      have a0 := hcell 0 _ rfl
      have a1 := hcell 1 _ rfl
      have a2 := hcell 2 _ rfl
      have a3 := hcell 3 _ rfl
      have a4 := hcell 4 _ rfl
      have a5 := hcell 5 _ rfl
      have a6 := hcell 6 _ rfl
      have a7 := hcell 7 _ rfl
      simp only [Nat.add_zero] at a0
      have HCK := Lib.hid (HOK.out c (List.mem_of_getElem? hc))
      obtain ⟨f, hf⟩ := hid_ex (fit c)
      have HFK : Hid (Cok f) := (show Cok _ by rw [← hf.out]; exact fit_cok HCK.out)
      have HL : Hid ((mkN l i).length ≤ 100) := (show _ ≤ _ by have := mkN_len l i; omega)
      have HSUC : Hid (mkN l (i + 1) = mk (mkN l i) f) := (show _ = _ by rw [mkN_succ hc, hf.out])
      have HBW : ∀ w1 : World, Hid (Below w1.heap.size w1 (w1.alloc (.cells (cC f).toArray 34))) := fun w1 => below_new w1 _
      have HBX : ∀ w1 w3 : World, w3.heap[w1.heap.size]? = (w1.alloc (.cells #[.int .i64 f.1, .int .i64 f.2.1.1, .int .i64 f.2.1.2.1, .string f.2.1.2.2, .int .i64 f.2.2.1.1, .int .i64 f.2.2.1.2.1, .string f.2.2.1.2.2, .bool f.2.2.2] 34)).heap[w1.heap.size]? → w3.heap[w1.heap.size]? = some (.cells #[.int .i64 f.1, .int .i64 f.2.1.1, .int .i64 f.2.1.2.1, .string f.2.1.2.2, .int .i64 f.2.2.1.1, .int .i64 f.2.2.1.2.1, .string f.2.2.1.2.2, .bool f.2.2.2] 34) := fun w1 w3 h => h.trans (heap_alloc_new w1 _)
      have hb3 := i64_and3 f.1
      obtain ⟨q, hq⟩ : ∃ q, f.1 % 4 = q := ⟨_, rfl⟩
      rw [hq] at hb3
      have hin' : (i : Int) < (n : Int) := by omega
      have hi4' : (i : Int) < 40 := by omega
      clear hc hcs hcell hi40 hi
      by_cases h3 : q = 3
      · subst h3
        obtain ⟨⟨ok, l'⟩, hd⟩ := hid_ex (Di.del (mkN l i) f.2.1)
        have HE : Hid (mkN l (i + 1) = l') := (show _ = _ by rw [HSUC.out]; unfold mk; rw [if_pos hq, hd.out])
        clear HSUC hq
        go_wp2_with (first
          | (go_at_call 36; refine (rDel_is hd (Lib.hid HT3.out.r) (by have := HL.out; omega)).mono ?_; rintro e w4 ⟨v', rfl, HR4, HB4, HF4⟩; have HT4 := Lib.hid (HT3.out.step_r HR4.out HB4.out HF4.out HS3.out); have HW4 := Lib.hid (HW3.out.trans (HT3.out.bel_r HB4.out HS3.out)))
          | (go_at_call 23; refine (I.del_ hd (Lib.hid HT1.out.d) (by have := HL.out; omega) HFK.out.k).mono ?_; rintro e w3 ⟨rfl, HD3, HB3, HF3⟩; have HT3 := Lib.hid (HT1.out.step_d HD3.out HB3.out HF3.out HS1.out); have HS3 : Hid (w.heap.size ≤ w3.heap.size) := (show _ ≤ _ from Nat.le_trans HS1.out HB3.out.size); have HW3 := Lib.hid (HW1.out.trans (HT1.out.bel_d HB3.out HS1.out)); obtain ⟨_, b1, b2, b3, b4, b5, b6, _⟩ := C_cells (HBX w1 w3 (HB3.out.block _ (by simp) HNE.out)))
          | (go_at_call 15; refine (fit_is hf HCK.out.k.s _).mono ?_; rintro e w1 ⟨rfl, HB1⟩; have HT1 := Lib.hid ((HT.out.below HB1).below (below_new w1 (.cells #[.int .i64 f.1, .int .i64 f.2.1.1, .int .i64 f.2.1.2.1, .string f.2.1.2.2, .int .i64 f.2.2.1.1, .int .i64 f.2.2.1.2.1, .string f.2.2.1.2.2, .bool f.2.2.2] 34))); have HNE := Lib.hid ((HT.out.below HB1).not_new (.cells #[.int .i64 f.1, .int .i64 f.2.1.1, .int .i64 f.2.1.2.1, .string f.2.1.2.2, .int .i64 f.2.2.1.1, .int .i64 f.2.2.1.2.1, .string f.2.2.1.2.2, .bool f.2.2.2] 34)); have HS1 : Hid (w.heap.size ≤ (w1.alloc (.cells #[.int .i64 f.1, .int .i64 f.2.1.1, .int .i64 f.2.1.2.1, .string f.2.1.2.2, .int .i64 f.2.2.1.1, .int .i64 f.2.2.1.2.1, .string f.2.2.1.2.2, .bool f.2.2.2] 34)).heap.size) := (show _ ≤ _ from Nat.le_trans (Nat.le_trans HB.out.size HB1.size) (below_new w1 _).size); have HW1 : Hid (Below w.heap.size w (w1.alloc (.cells #[.int .i64 f.1, .int .i64 f.2.1.1, .int .i64 f.2.1.2.1, .string f.2.1.2.2, .int .i64 f.2.2.1.1, .int .i64 f.2.2.1.2.1, .string f.2.2.1.2.2, .bool f.2.2.2] 34))) := (show Below _ _ _ from (HB.out.trans (HB1.mono HB.out.size)).trans ((below_new w1 _).mono (Nat.le_trans HB.out.size HB1.size)))))
        refine ⟨⟨i + 1, v', by go_num, by omega, by omega, ?_, HW4.out⟩, by simp [intOf]; omega⟩
        rw [HE.out]
        exact HT4
      · obtain ⟨⟨ok, l'⟩, hd⟩ := hid_ex (Di.put (mkN l i) f.2.1 f.2.2.1)
        have HE : Hid (mkN l (i + 1) = l') := (show _ = _ by rw [HSUC.out]; unfold mk; rw [if_neg (by rw [hq]; exact h3), hd.out])
        have h3' : (q == 3) = false := by simp; exact h3
        clear HSUC hq h3
        go_wp2_with (first
          | (go_at_call 21; refine (rPut_is hd (Lib.hid HT3.out.r) (by have := HL.out; omega)).mono ?_; rintro e w4 ⟨v', rfl, HR4, HB4, HF4⟩; have HT4 := Lib.hid (HT3.out.step_r HR4.out HB4.out HF4.out HS3.out); have HW4 := Lib.hid (HW3.out.trans (HT3.out.bel_r HB4.out HS3.out)))
          | (go_at_call 20; refine (I.put_ hd (Lib.hid HT1.out.d) (by have := HL.out; omega) HFK.out.k HFK.out.x).mono ?_; rintro e w3 ⟨rfl, HD3, HB3, HF3⟩; have HT3 := Lib.hid (HT1.out.step_d HD3.out HB3.out HF3.out HS1.out); have HS3 : Hid (w.heap.size ≤ w3.heap.size) := (show _ ≤ _ from Nat.le_trans HS1.out HB3.out.size); have HW3 := Lib.hid (HW1.out.trans (HT1.out.bel_d HB3.out HS1.out)); obtain ⟨_, b1, b2, b3, b4, b5, b6, _⟩ := C_cells (HBX w1 w3 (HB3.out.block _ (by simp) HNE.out)))
          | (go_at_call 15; refine (fit_is hf HCK.out.k.s _).mono ?_; rintro e w1 ⟨rfl, HB1⟩; have HT1 := Lib.hid ((HT.out.below HB1).below (below_new w1 (.cells #[.int .i64 f.1, .int .i64 f.2.1.1, .int .i64 f.2.1.2.1, .string f.2.1.2.2, .int .i64 f.2.2.1.1, .int .i64 f.2.2.1.2.1, .string f.2.2.1.2.2, .bool f.2.2.2] 34))); have HNE := Lib.hid ((HT.out.below HB1).not_new (.cells #[.int .i64 f.1, .int .i64 f.2.1.1, .int .i64 f.2.1.2.1, .string f.2.1.2.2, .int .i64 f.2.2.1.1, .int .i64 f.2.2.1.2.1, .string f.2.2.1.2.2, .bool f.2.2.2] 34)); have HS1 : Hid (w.heap.size ≤ (w1.alloc (.cells #[.int .i64 f.1, .int .i64 f.2.1.1, .int .i64 f.2.1.2.1, .string f.2.1.2.2, .int .i64 f.2.2.1.1, .int .i64 f.2.2.1.2.1, .string f.2.2.1.2.2, .bool f.2.2.2] 34)).heap.size) := (show _ ≤ _ from Nat.le_trans (Nat.le_trans HB.out.size HB1.size) (below_new w1 _).size); have HW1 : Hid (Below w.heap.size w (w1.alloc (.cells #[.int .i64 f.1, .int .i64 f.2.1.1, .int .i64 f.2.1.2.1, .string f.2.1.2.2, .int .i64 f.2.2.1.1, .int .i64 f.2.2.1.2.1, .string f.2.2.1.2.2, .bool f.2.2.2] 34))) := (show Below _ _ _ from (HB.out.trans (HB1.mono HB.out.size)).trans ((below_new w1 _).mono (Nat.le_trans HB.out.size HB1.size)))))
        refine ⟨⟨i + 1, v', by go_num, by omega, by omega, ?_, HW4.out⟩, by simp [intOf]; omega⟩
        rw [HE.out]
        exact HT4
    · have HE : Hid (Di.made l = mkN l i) := (show _ = _ by rw [made_of, HN.out]; congr 1; omega)
      by_cases hin : i < n
      · have hi4' : ¬ (i : Int) < 40 := by omega
        have hin' : (i : Int) < (n : Int) := by omega
        go_wp2_with fail
        refine bodyPost_ret (results_tmp2 rfl _ _ _) rfl ?_
        exact ⟨a, b, v, rfl, by rw [HE.out]; exact HT, HB⟩
      · have hin' : ¬ (i : Int) < (n : Int) := by omega
        go_wp2_with fail
        refine bodyPost_ret (results_tmp2 rfl _ _ _) rfl ?_
        exact ⟨a, b, v, rfl, by rw [HE.out]; exact HT, HB⟩
end Go.Proofs.Ytaghkidelbepnaa
