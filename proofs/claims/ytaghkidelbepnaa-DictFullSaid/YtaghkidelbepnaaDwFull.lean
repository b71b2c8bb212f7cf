/-
  DictFull of layer 10: the walk, at this program.
-/
import Derived.Test.YtaghkidelbepnaaDiH
set_option linter.unusedVariables false
set_option linter.unusedSimpArgs false
namespace Go.Proofs.Ytaghkidelbepnaa
namespace lawDictFull
open Go.RowKit
open Di

def kN (i : Nat) : V := (2, (i : Int), Di.mt)
def vN (i : Int) : V := (2, i, Di.mt)
def fullN (m : Nat) : List Pr := (List.range m).map fun i => (kN i, vN 7)
theorem fullN_length (m : Nat) : (fullN m).length = m := by simp [fullN]
theorem fullN_none {m i : Nat} (h : m ≤ i) : lk (fullN m) (kN i) = none := by
  apply lk_none.2
  intro p hp e
  obtain ⟨j, hj, rfl⟩ := List.mem_map.1 hp
  simp only [kN, Prod.mk.injEq, and_true, true_and] at e
  simp at hj
  omega
theorem fullN_some {m i : Nat} (h : i < m) : (lk (fullN m) (kN i)).isSome = true := by
  cases hl : lk (fullN m) (kN i) with
  | some _ => rfl
  | none => exact absurd rfl (lk_none.1 hl (kN i, vN 7) (List.mem_map.2 ⟨i, by simpa using h, rfl⟩))
theorem kN_ok (i : Nat) : keyOk (kN i) = true := by simp [kN, keyOk]
theorem fullN_succ (i : Nat) : fullN (i + 1) = fullN i ++ [(kN i, vN 7)] := by simp [fullN, List.range_succ]
theorem upd_none {k : V} (x : V) : ∀ {l : List Pr}, lk l k = none → upd l k x = l ++ [(k, x)]
  | [], _ => rfl
  | p :: l, h => by
    unfold lk at h
    unfold upd
    split at h
    · cases h
    · rename_i hp
      rw [if_neg hp, upd_none x h]
      rfl
theorem step_lt {i : Nat} (h : i < 4096) : put (fullN i) (kN i) (vN 7) = (true, fullN (i + 1)) := by
  rw [put_upd _ (kN_ok i) (.inl (by rw [fullN_length]; exact h)), upd_none _ (fullN_none (Nat.le_refl _)), fullN_succ]
theorem step_ge {i : Nat} (h : 4096 ≤ i) : put (fullN 4096) (kN i) (vN 7) = (false, fullN 4096) := put_full _ (fullN_none h) (by rw [fullN_length]; exact Nat.le_refl _)
theorem full_nd (m : Nat) : Nd (fullN m) := by
  unfold Nd fullN
  rw [List.map_map]
  refine List.Pairwise.map _ (fun a b h => ?_) List.nodup_range
  intro e
  simp only [Function.comp, kN, Prod.mk.injEq, and_true, true_and] at e
  omega
theorem full_yes (m : Nat) (x : V) (j : Nat) : lk (upd (fullN m) (kN j) x) (1, 1, Di.mt) = none := by
  rw [lk_upd, if_neg (by simp [kN])]
  apply lk_none.2
  intro p hp e
  obtain ⟨j, hj, rfl⟩ := List.mem_map.1 hp
  simp [kN] at e
theorem full {c j : Nat} (hc : 4093 ≤ c ∧ c ≤ 4096) (hj : j < 4093) : ∃ L1 L2 L3 L4, put (fullN c) (kN j) (vN 8) = (true, L1) ∧ L1.length = c ∧ Di.get L1 (kN j) = (vN 8, true) ∧ put L1 (1, 1, Di.mt) (vN 9) = (decide (c < 4096), L2) ∧
    L2.length = (if c < 4096 then c + 1 else c) ∧ del L2 (kN j) = (true, L3) ∧ L3.length + 1 = L2.length ∧ put L3 (kN j) (vN 1) = (true, L4) ∧ L4.length = L2.length := by
  have hs := fullN_some (m := c) (i := j) (by omega)
  have h0 := put_upd (l := fullN c) (vN 8) (kN_ok j) (.inr hs)
  have hl1 : (upd (fullN c) (kN j) (vN 8)).length = c := by rw [upd_length, hs, fullN_length]; rfl
  have hk1 : lk (upd (fullN c) (kN j) (vN 8)) (kN j) = some (vN 8) := by rw [lk_upd, if_pos rfl]
  have hn1 := upd_nd (kN j) (vN 8) (full_nd c)
  have hy := full_yes c (vN 8) j
  generalize hL1 : upd (fullN c) (kN j) (vN 8) = L1 at *
  have h2 : ∃ L2, put L1 (1, 1, Di.mt) (vN 9) = (decide (c < 4096), L2) ∧ L2.length = (if c < 4096 then c + 1 else c) ∧ (lk L2 (kN j)).isSome = true ∧ Nd L2 ∧ L2.length ≤ 4096 := by
    by_cases h : c < 4096
    · refine ⟨_, by rw [put_upd (vN 9) (by simp [keyOk]) (.inl (by rw [hl1]; exact h)), decide_eq_true h], ?_, ?_, upd_nd _ _ hn1, ?_⟩
      · rw [upd_length, hy, hl1, if_pos h]; rfl
      · rw [lk_upd, if_neg (by simp [kN]), hk1]; rfl
      · rw [upd_length, hy, hl1]; simp; omega
    · refine ⟨L1, by rw [put_full (vN 9) hy (by rw [hl1]; unfold mx; omega), decide_eq_false h], by rw [if_neg h, hl1], by rw [hk1]; rfl, hn1, by omega⟩
  obtain ⟨L2, g1, g2, g3, g4, g5⟩ := h2
  have hpos : 0 < L2.length := by rw [g2]; split <;> omega
  have hl3 : (era L2 (kN j)).length + 1 = L2.length := by rw [era_length, g3]; simp; omega
  have hl4 : lk (era L2 (kN j)) (kN j) = none := by rw [lk_era _ _ g4, if_pos rfl]
  refine ⟨L1, L2, era L2 (kN j), upd (era L2 (kN j)) (kN j) (vN 1), h0, hl1, ?_, g1, g2, ?_, hl3, put_upd _ (kN_ok j) (.inl (by unfold mx; omega)), ?_⟩
  · rw [get_lk, hk1]; rfl
  · rw [del_era, g3]
  · rw [upd_length, hl4]; simp; omega
set_option maxHeartbeats 16000000 in
set_option maxRecDepth 100000 in
theorem walk (I : DictI) {n u : Nat} {w : World} (hn : n < 256) (hu : u < 65536) :
    Calls Try.prog 9 #[.int .u8 (n : Int), .int .u16 (u : Int)] w fun e w' => e = .returned (.bool true) ∧ Below w.heap.size w w' := by
  obtain ⟨m, hm⟩ : ∃ m : Nat, 4093 + n % 7 = m := ⟨_, rfl⟩
  have e1 : (4093 : Int) + (n : Int) % 7 = (m : Int) := by omega
  go_enter Try.func9, Try.ntmps9
  go_upto_region 3 with (first
    | (go_at_call 13; refine (I.new_ _).mono ?_; rintro e w2 ⟨a, rfl, HD2, HB2, HF2⟩)
    | (go_at_call 12; refine (shown10 I _).mono ?_; rintro e w1 ⟨rfl, HB1⟩))
  have HS2 : Hid (Sta I w a (fullN 0) [] w2) := (show Sta _ _ _ _ _ _ from ⟨⟨HD2.out, fun k hk => Nat.le_trans HB1.size (HF2.out k hk), HB1.trans (HB2.out.mono HB1.size)⟩, fun b y hy => by simp at hy, fun b y hy => by simp at hy⟩)
  clear HB1 HD2 HB2 HF2
  have HV : ∀ i : Nat, i ≤ 70000 → Hid (Vok ((2, (i : Int), Di.mt) : V)) := fun i hi => vok_small (by omega) (by omega)
  have HM : Hid (m ≤ 4099 ∧ 4093 ≤ m) := (show _ ∧ _ by omega)
  go_wp2_with fail
  go_loopw [8] (fun v8 wr => ∃ i : Nat, v8 = .int .i64 (i : Int) ∧ i ≤ m ∧ Hid (Sta I w a (fullN (min i 4096)) [] wr)) (fun v8 _ => m - (intOf v8).toNat)
  case atStart => exact ⟨0, rfl, Nat.zero_le _, HS2.out⟩
  case round =>
    obtain ⟨i, rfl, hi, HS⟩ := hrel
    clear HS2
    by_cases hlt : i < m
    · by_cases h4 : i < 4096
      · have HP : Hid (Di.put (fullN (min i 4096)) (2, (i : Int), Di.mt) (2, 7, Di.mt) = (true, fullN (i + 1))) := (show _ = _ by rw [Nat.min_eq_left (by omega)]; exact step_lt h4)
        have hlt' : (i : Int) < (m : Int) := by omega
        have h4' : (i : Int) < 4096 := by omega
        go_wp2_with (first
          | (go_at_call 20; refine (I.put_ (k := ((2, (i : Int), Di.mt) : V)) (x := ((2, 7, Di.mt) : V)) HP (Lib.hid HT2.out.one.d) (by rw [fullN_length]; omega) (HV i (by have := HM.out; omega)).out (HV 7 (by omega)).out).mono ?_; rintro e w5 ⟨rfl, hd, hb, hf⟩; have HT3 := Lib.hid (HT2.out.step hd.out hb.out hf.out); clear hd hb hf)
          | ((with_reducible (show Calls _ _ #[.int .i64 7] _ _)); go_at_call 32; refine (one_is _ _).mono ?_; rintro e w4 ⟨rfl, hb⟩; have HT2 := Lib.hid (HT1.out.below hb); clear hb)
          | (go_at_call 32; refine (one_is _ _).mono ?_; rintro e w3 ⟨rfl, hb⟩; have HT1 := Lib.hid (HS.out.below hb); clear hb))
        refine ⟨⟨i + 1, by go_num, by omega, ?_⟩, by simp [intOf]; omega⟩
        rw [Nat.min_eq_left (by omega)]
        exact HT3
      · have HP : Hid (Di.put (fullN (min i 4096)) (2, (i : Int), Di.mt) (2, 7, Di.mt) = (false, fullN 4096)) := (show _ = _ by rw [Nat.min_eq_right (by omega)]; exact step_ge (by omega))
        have hlt' : (i : Int) < (m : Int) := by omega
        have h4' : ¬ (i : Int) < 4096 := by omega
        go_wp2_with (first
          | (go_at_call 20; refine (I.put_ (k := ((2, (i : Int), Di.mt) : V)) (x := ((2, 7, Di.mt) : V)) HP (Lib.hid HT2.out.one.d) (by rw [fullN_length]; omega) (HV i (by have := HM.out; omega)).out (HV 7 (by omega)).out).mono ?_; rintro e w5 ⟨rfl, hd, hb, hf⟩; have HT3 := Lib.hid (HT2.out.step hd.out hb.out hf.out); clear hd hb hf)
          | ((with_reducible (show Calls _ _ #[.int .i64 7] _ _)); go_at_call 32; refine (one_is _ _).mono ?_; rintro e w4 ⟨rfl, hb⟩; have HT2 := Lib.hid (HT1.out.below hb); clear hb)
          | (go_at_call 32; refine (one_is _ _).mono ?_; rintro e w3 ⟨rfl, hb⟩; have HT1 := Lib.hid (HS.out.below hb); clear hb))
        refine ⟨⟨i + 1, by go_num, by omega, ?_⟩, by simp [intOf]; omega⟩
        rw [Nat.min_eq_right (by omega)]
        exact HT3
    · have him : i = m := by omega
      subst him
      obtain ⟨j, hj⟩ : ∃ j : Nat, u % 4093 = j := ⟨_, rfl⟩
      have e2 : (u : Int) % 4093 = (j : Int) := by omega
      have hj2 : j < 4093 := by omega
      by_cases h4 : i < 4096
      · obtain ⟨L1, L2, L3, L4, q1, q2, q3, q4, q5, q6, q7, q8, q9⟩ := full (c := i) (j := j) (by have := HM.out; omega) hj2
        have hc : min i 4096 = i := by omega
        rw [hc] at HS
        rw [decide_eq_true h4] at q4
        rw [if_pos h4] at q5
        have g1 : ¬ (4096 : Int) ≤ (i : Int) := by omega
        have g2 : ¬ (4096 : Int) < (i : Int) := by omega
        have g3 : (if (4096 : Int) < (i : Int) then (4096 : Int) else (i : Int)) = (i : Int) := if_neg (by omega)
        have P1 : Hid (Di.put (fullN (i)) (2, (j : Int), Di.mt) (2, 8, Di.mt) = (true, L1)) := q1
        have P2 : Hid (Di.get L1 (2, (j : Int), Di.mt) = ((2, 8, Di.mt), true)) := q3
        have P3 : Hid (Di.put L1 (1, 1, Di.mt) (2, 9, Di.mt) = (true, L2)) := q4
        have P4 : Hid (Di.del L2 (2, (j : Int), Di.mt) = (true, L3)) := q6
        have P5 : Hid (Di.put L3 (2, (j : Int), Di.mt) (2, 1, Di.mt) = (true, L4)) := q8
        have N2 : Hid (L2.length = i + 1) := q5
        have N4 : Hid (L4.length = i + 1) := q9.trans q5
        have NB : Hid (L1.length ≤ 4500 ∧ L2.length ≤ 4500 ∧ L3.length ≤ 4500 ∧ L4.length ≤ 4500 ∧ i ≤ 4500 ∧ 4093 ≤ i) := (show _ ∧ _ by have := HM.out; omega)
        have HVj := HV j (by omega)
        have HVyes : Hid (Vok ((1, 1, Di.mt) : V)) := (show Vok _ from vok_small (by omega) (by omega))
        have hne := fun w => neq_V w ((2, 8, Di.mt) : V) ((2, 8, Di.mt) : V)
        simp only [decide_true, Bool.not_true] at hne
        have hne2 : ∀ w : World, (binOp .neq 32 (.agg #[.int .i64 2, .int .i64 8, .string Di.mt]) (.agg #[.int .i64 2, .int .i64 8, .string ⟨#[]⟩])).run Try.prog w = .ok (.bool false) w := hne
        clear q1 q2 q3 q4 q5 q6 q7 q8 q9 hc hne
        go_upto_region 13 with (go_at_call 32; refine (one_is _ _).mono ?_; rintro e w3 ⟨rfl, hb3⟩)
        obtain ⟨W3, hWn⟩ : ∃ W, W = w3.alloc (.cells #[.int .i64 2, .int .i64 (j : Int), .string ⟨#[]⟩] 32) := ⟨_, rfl⟩
        obtain ⟨b10, hbn⟩ : ∃ b, w3.heap.size = b := ⟨_, rfl⟩
        have HS3 := Lib.hid ((HS.out.below hb3).box ((2, (j : Int), Di.mt) : V) hWn hbn)
        rw [← hWn, hbn]
        clear hWn hbn hb3 HS
        have HK : Hid (∀ (l : List Pr) (S : List (Nat × V)) (w' : World), Sta I w a l S w' → (b10, ((2, (j : Int), Di.mt) : V)) ∈ S → w'.cell? ⟨b10, 0, none⟩ = some (.int .i64 2) ∧ w'.cell? ⟨b10, 1, none⟩ = some (.int .i64 (j : Int)) ∧ w'.cell? ⟨b10, 2, none⟩ = some (.string ⟨#[]⟩)) := (show ∀ (l : List Pr) (S : List (Nat × V)) (w' : World), _ → _ → _ from fun l S w' h hm => h.cells hm)
        obtain ⟨k0, k1, k2⟩ := HK.out _ _ _ HS3.out (by simp)
        have HS3d : Hid (Sta I w a (fullN (i)) [(b10, (2, (j : Int), Di.mt))] W3.drew) := (show Sta _ _ _ _ _ _ from HS3.out.below (below_dr (Below.refl _ _) 1))
        go_upto_region 13 with (fail)
        go_region_held3 (fun w' => w'.cell? ⟨b10, 0, none⟩ = some (.int .i64 2) ∧ w'.cell? ⟨b10, 1, none⟩ = some (.int .i64 (j : Int)) ∧ w'.cell? ⟨b10, 2, none⟩ = some (.string ⟨#[]⟩))
          (first
            | (go_keep; done)
            | with_reducible exact c5
            | with_reducible exact c4
            | fail)
          ((first
            | (go_at_call 20; refine (I.put_ (k := ((2, (j : Int), Di.mt) : V)) (x := ((2, 8, Di.mt) : V)) P1 (Lib.hid HS4.out.one.d) (by rw [fullN_length]; have := NB.out; omega) HVj.out (HV 8 (by omega)).out).mono ?_; rintro e w5 ⟨rfl, hd, hb, hf⟩; have HS5 := Lib.hid (HS4.out.step hd.out hb.out hf.out); have c5 := HK.out _ _ _ HS5.out (by simp); clear hd hb hf)
            | (go_at_call 32; refine (one_is _ _).mono ?_; rintro e w4 ⟨rfl, hb⟩; have HS4 := Lib.hid (HS3d.out.below hb); have c4 := HK.out _ _ _ HS4.out (by simp); clear hb)
            | fail))
        clear k0 k1 k2 HS3 HS3d HS4 c4
        obtain ⟨k0, k1, k2⟩ := c5
        go_upto_region 15 with (go_at_call 22; refine (I.get_ (k := ((2, (j : Int), Di.mt) : V)) P2 (Lib.hid HS5.out.one.d) (by have := NB.out; omega) HVj.out).mono ?_; rintro e w6 ⟨rfl, HBn⟩)
        obtain ⟨W6, hWn⟩ : ∃ W, W = w6.alloc (.cells #[.int .i64 2, .int .i64 8, .string Di.mt] 32) := ⟨_, rfl⟩
        obtain ⟨b12, hbn⟩ : ∃ b, w6.heap.size = b := ⟨_, rfl⟩
        have HS6 := Lib.hid ((HS5.out.below HBn).box ((2, 8, Di.mt) : V) hWn hbn)
        rw [← hWn, hbn]
        clear hWn hbn HBn HS5 k0 k1 k2
        go_upto_region 16 with (first
          | (go_at_call 20; refine (I.put_ (k := ((1, 1, Di.mt) : V)) (x := ((2, 9, Di.mt) : V)) P3 (Lib.hid HS8.out.one.d) (by have := NB.out; omega) HVyes.out (HV 9 (by omega)).out).mono ?_; rintro e w9 ⟨rfl, hd, hb, hf⟩; have HS9 := Lib.hid (HS8.out.step hd.out hb.out hf.out); clear hd hb hf)
          | (go_at_call 32; refine (one_is _ _).mono ?_; rintro e w8 ⟨rfl, hb⟩; have HS8 := Lib.hid (HS7.out.below hb); clear hb)
          | (go_at_call 33; refine (yes_is _).mono ?_; rintro e w7 ⟨rfl, hb⟩; have HS7 := Lib.hid (HS6.out.below hb); clear hb))
        clear HS6 HS7 HS8
        obtain ⟨d0, d1, d2⟩ := HS9.out.cells (b := b12) (x := ((2, 8, Di.mt) : V)) (by simp)
        have HE : Hid (∀ (l : List Pr) (S : List (Nat × V)) (w' : World), Sta I w a l S w' → (b12, ((2, 8, Di.mt) : V)) ∈ S → w'.cell? ⟨b12, 0, none⟩ = some (.int .i64 2) ∧ w'.cell? ⟨b12, 1, none⟩ = some (.int .i64 8) ∧ w'.cell? ⟨b12, 2, none⟩ = some (.string Di.mt)) := (show ∀ (l : List Pr) (S : List (Nat × V)) (w' : World), _ → _ → _ from fun l S w' h hm => h.cells hm)
        have HS9d : Hid (Sta I w a L2 [(b12, (2, 8, Di.mt)), (b10, (2, (j : Int), Di.mt))] w9.drew) := (show Sta _ _ _ _ _ _ from HS9.out.below (below_dr (Below.refl _ _) 1))
        go_upto_region 19 with (fail)
        go_region_held3 (fun w' => w'.cell? ⟨b12, 0, none⟩ = some (.int .i64 2) ∧ w'.cell? ⟨b12, 1, none⟩ = some (.int .i64 8) ∧ w'.cell? ⟨b12, 2, none⟩ = some (.string Di.mt))
          (first
            | (go_keep; done)
            | with_reducible exact c11
            | with_reducible exact c10
            | fail)
          ((first
            | (go_at_call 25; refine (I.len_ N2 (Lib.hid HS10.out.one.d) (by have := NB.out; omega)).mono ?_; rintro e w11 ⟨rfl, hb⟩; have HS11 := Lib.hid (HS10.out.below hb); have c11 := HE.out _ _ _ HS11.out (by simp); clear hb)
            | (go_at_call 32; refine (one_is _ _).mono ?_; rintro e w10 ⟨rfl, hb⟩; have HS10 := Lib.hid (HS9d.out.below hb); have c10 := HE.out _ _ _ HS10.out (by simp); clear hb)
            | fail))
        clear c10 HS9 HS9d HS10 d0 d1 d2 c11 HE
        obtain ⟨k0, k1, k2⟩ := HK.out _ _ _ HS11.out (by simp)
        go_upto_region 22 with (go_at_call 23; refine (I.del_ (k := ((2, (j : Int), Di.mt) : V)) P4 (Lib.hid HS11.out.one.d) (by have := NB.out; omega) HVj.out).mono ?_; rintro e w12 ⟨rfl, hd, hb, hf⟩; have HS12 := Lib.hid (HS11.out.step hd.out hb.out hf.out); clear hd hb hf)
        clear k0 k1 k2 HS11
        have HS12d : Hid (Sta I w a L3 [(b12, (2, 8, Di.mt)), (b10, (2, (j : Int), Di.mt))] w12.drew) := (show Sta _ _ _ _ _ _ from HS12.out.below (below_dr (Below.refl _ _) 1))
        obtain ⟨k0, k1, k2⟩ := HK.out _ _ _ HS12.out (by simp)
        go_region_held3 (fun w' => w'.cell? ⟨b10, 0, none⟩ = some (.int .i64 2) ∧ w'.cell? ⟨b10, 1, none⟩ = some (.int .i64 (j : Int)) ∧ w'.cell? ⟨b10, 2, none⟩ = some (.string ⟨#[]⟩))
          (first
            | (go_keep; done)
            | with_reducible exact c15
            | with_reducible exact c14
            | with_reducible exact c13
            | fail)
          ((first
            | (go_at_call 25; refine (I.len_ N4 (Lib.hid HS14.out.one.d) (by have := NB.out; omega)).mono ?_; rintro e w15 ⟨rfl, hb⟩; have HS15 := Lib.hid (HS14.out.below hb); have c15 := HK.out _ _ _ HS15.out (by simp); clear hb)
            | (go_at_call 20; refine (I.put_ (k := ((2, (j : Int), Di.mt) : V)) (x := ((2, 1, Di.mt) : V)) P5 (Lib.hid HS13.out.one.d) (by have := NB.out; omega) HVj.out (HV 1 (by omega)).out).mono ?_; rintro e w14 ⟨rfl, hd, hb, hf⟩; have HS14 := Lib.hid (HS13.out.step hd.out hb.out hf.out); have c14 := HK.out _ _ _ HS14.out (by simp); clear hd hb hf)
            | (go_at_call 32; refine (one_is _ _).mono ?_; rintro e w13 ⟨rfl, hb⟩; have HS13 := Lib.hid (HS12d.out.below hb); have c13 := HK.out _ _ _ HS13.out (by simp); clear hb)
            | fail))
        all_goals
          clear c13 c14 c15 k0 k1 k2
          go_wp2_with fail
          go_ret
          exact ⟨rfl, HS15.out.one.bel⟩
      · obtain ⟨L1, L2, L3, L4, q1, q2, q3, q4, q5, q6, q7, q8, q9⟩ := full (c := 4096) (j := j) (by have := HM.out; omega) hj2
        have hc : min i 4096 = 4096 := by omega
        rw [hc] at HS
        rw [decide_eq_false (by omega)] at q4
        rw [if_neg (by omega)] at q5
        have g1 : (4096 : Int) ≤ (i : Int) := by omega
        have g3 : (if (4096 : Int) < (i : Int) then (4096 : Int) else (i : Int)) = 4096 := by by_cases h : (4096 : Int) < (i : Int); { exact if_pos h }; { rw [if_neg h]; omega }
        have P1 : Hid (Di.put (fullN (4096)) (2, (j : Int), Di.mt) (2, 8, Di.mt) = (true, L1)) := q1
        have P2 : Hid (Di.get L1 (2, (j : Int), Di.mt) = ((2, 8, Di.mt), true)) := q3
        have P3 : Hid (Di.put L1 (1, 1, Di.mt) (2, 9, Di.mt) = (false, L2)) := q4
        have P4 : Hid (Di.del L2 (2, (j : Int), Di.mt) = (true, L3)) := q6
        have P5 : Hid (Di.put L3 (2, (j : Int), Di.mt) (2, 1, Di.mt) = (true, L4)) := q8
        have N2 : Hid (L2.length = 4096) := q5
        have N4 : Hid (L4.length = 4096) := q9.trans q5
        have NB : Hid (L1.length ≤ 4500 ∧ L2.length ≤ 4500 ∧ L3.length ≤ 4500 ∧ L4.length ≤ 4500 ∧ i ≤ 4500 ∧ 4093 ≤ i) := (show _ ∧ _ by have := HM.out; omega)
        have HVj := HV j (by omega)
        have HVyes : Hid (Vok ((1, 1, Di.mt) : V)) := (show Vok _ from vok_small (by omega) (by omega))
        have hne := fun w => neq_V w ((2, 8, Di.mt) : V) ((2, 8, Di.mt) : V)
        simp only [decide_true, Bool.not_true] at hne
        have hne2 : ∀ w : World, (binOp .neq 32 (.agg #[.int .i64 2, .int .i64 8, .string Di.mt]) (.agg #[.int .i64 2, .int .i64 8, .string ⟨#[]⟩])).run Try.prog w = .ok (.bool false) w := hne
        clear q1 q2 q3 q4 q5 q6 q7 q8 q9 hc hne
        go_upto_region 13 with (go_at_call 32; refine (one_is _ _).mono ?_; rintro e w3 ⟨rfl, hb3⟩)
        obtain ⟨W3, hWn⟩ : ∃ W, W = w3.alloc (.cells #[.int .i64 2, .int .i64 (j : Int), .string ⟨#[]⟩] 32) := ⟨_, rfl⟩
        obtain ⟨b10, hbn⟩ : ∃ b, w3.heap.size = b := ⟨_, rfl⟩
        have HS3 := Lib.hid ((HS.out.below hb3).box ((2, (j : Int), Di.mt) : V) hWn hbn)
        rw [← hWn, hbn]
        clear hWn hbn hb3 HS
        have HK : Hid (∀ (l : List Pr) (S : List (Nat × V)) (w' : World), Sta I w a l S w' → (b10, ((2, (j : Int), Di.mt) : V)) ∈ S → w'.cell? ⟨b10, 0, none⟩ = some (.int .i64 2) ∧ w'.cell? ⟨b10, 1, none⟩ = some (.int .i64 (j : Int)) ∧ w'.cell? ⟨b10, 2, none⟩ = some (.string ⟨#[]⟩)) := (show ∀ (l : List Pr) (S : List (Nat × V)) (w' : World), _ → _ → _ from fun l S w' h hm => h.cells hm)
        obtain ⟨k0, k1, k2⟩ := HK.out _ _ _ HS3.out (by simp)
        have HS3d : Hid (Sta I w a (fullN (4096)) [(b10, (2, (j : Int), Di.mt))] W3.drew) := (show Sta _ _ _ _ _ _ from HS3.out.below (below_dr (Below.refl _ _) 1))
        go_upto_region 13 with (fail)
        go_region_held3 (fun w' => w'.cell? ⟨b10, 0, none⟩ = some (.int .i64 2) ∧ w'.cell? ⟨b10, 1, none⟩ = some (.int .i64 (j : Int)) ∧ w'.cell? ⟨b10, 2, none⟩ = some (.string ⟨#[]⟩))
          (first
            | (go_keep; done)
            | with_reducible exact c5
            | with_reducible exact c4
            | fail)
          ((first
            | (go_at_call 20; refine (I.put_ (k := ((2, (j : Int), Di.mt) : V)) (x := ((2, 8, Di.mt) : V)) P1 (Lib.hid HS4.out.one.d) (by rw [fullN_length]; have := NB.out; omega) HVj.out (HV 8 (by omega)).out).mono ?_; rintro e w5 ⟨rfl, hd, hb, hf⟩; have HS5 := Lib.hid (HS4.out.step hd.out hb.out hf.out); have c5 := HK.out _ _ _ HS5.out (by simp); clear hd hb hf)
            | (go_at_call 32; refine (one_is _ _).mono ?_; rintro e w4 ⟨rfl, hb⟩; have HS4 := Lib.hid (HS3d.out.below hb); have c4 := HK.out _ _ _ HS4.out (by simp); clear hb)
            | fail))
        clear k0 k1 k2 HS3 HS3d HS4 c4
        obtain ⟨k0, k1, k2⟩ := c5
        go_upto_region 15 with (go_at_call 22; refine (I.get_ (k := ((2, (j : Int), Di.mt) : V)) P2 (Lib.hid HS5.out.one.d) (by have := NB.out; omega) HVj.out).mono ?_; rintro e w6 ⟨rfl, HBn⟩)
        obtain ⟨W6, hWn⟩ : ∃ W, W = w6.alloc (.cells #[.int .i64 2, .int .i64 8, .string Di.mt] 32) := ⟨_, rfl⟩
        obtain ⟨b12, hbn⟩ : ∃ b, w6.heap.size = b := ⟨_, rfl⟩
        have HS6 := Lib.hid ((HS5.out.below HBn).box ((2, 8, Di.mt) : V) hWn hbn)
        rw [← hWn, hbn]
        clear hWn hbn HBn HS5 k0 k1 k2
        go_upto_region 16 with (first
          | (go_at_call 20; refine (I.put_ (k := ((1, 1, Di.mt) : V)) (x := ((2, 9, Di.mt) : V)) P3 (Lib.hid HS8.out.one.d) (by have := NB.out; omega) HVyes.out (HV 9 (by omega)).out).mono ?_; rintro e w9 ⟨rfl, hd, hb, hf⟩; have HS9 := Lib.hid (HS8.out.step hd.out hb.out hf.out); clear hd hb hf)
          | (go_at_call 32; refine (one_is _ _).mono ?_; rintro e w8 ⟨rfl, hb⟩; have HS8 := Lib.hid (HS7.out.below hb); clear hb)
          | (go_at_call 33; refine (yes_is _).mono ?_; rintro e w7 ⟨rfl, hb⟩; have HS7 := Lib.hid (HS6.out.below hb); clear hb))
        clear HS6 HS7 HS8
        obtain ⟨d0, d1, d2⟩ := HS9.out.cells (b := b12) (x := ((2, 8, Di.mt) : V)) (by simp)
        have HE : Hid (∀ (l : List Pr) (S : List (Nat × V)) (w' : World), Sta I w a l S w' → (b12, ((2, 8, Di.mt) : V)) ∈ S → w'.cell? ⟨b12, 0, none⟩ = some (.int .i64 2) ∧ w'.cell? ⟨b12, 1, none⟩ = some (.int .i64 8) ∧ w'.cell? ⟨b12, 2, none⟩ = some (.string Di.mt)) := (show ∀ (l : List Pr) (S : List (Nat × V)) (w' : World), _ → _ → _ from fun l S w' h hm => h.cells hm)
        have HS9d : Hid (Sta I w a L2 [(b12, (2, 8, Di.mt)), (b10, (2, (j : Int), Di.mt))] w9.drew) := (show Sta _ _ _ _ _ _ from HS9.out.below (below_dr (Below.refl _ _) 1))
        go_upto_region 19 with (fail)
        go_region_held3 (fun w' => w'.cell? ⟨b12, 0, none⟩ = some (.int .i64 2) ∧ w'.cell? ⟨b12, 1, none⟩ = some (.int .i64 8) ∧ w'.cell? ⟨b12, 2, none⟩ = some (.string Di.mt))
          (first
            | (go_keep; done)
            | with_reducible exact c11
            | with_reducible exact c10
            | fail)
          ((first
            | (go_at_call 25; refine (I.len_ N2 (Lib.hid HS10.out.one.d) (by have := NB.out; omega)).mono ?_; rintro e w11 ⟨rfl, hb⟩; have HS11 := Lib.hid (HS10.out.below hb); have c11 := HE.out _ _ _ HS11.out (by simp); clear hb)
            | (go_at_call 32; refine (one_is _ _).mono ?_; rintro e w10 ⟨rfl, hb⟩; have HS10 := Lib.hid (HS9d.out.below hb); have c10 := HE.out _ _ _ HS10.out (by simp); clear hb)
            | fail))
        clear c10 HS9 HS9d HS10 d0 d1 d2 c11 HE
        obtain ⟨k0, k1, k2⟩ := HK.out _ _ _ HS11.out (by simp)
        go_upto_region 22 with (go_at_call 23; refine (I.del_ (k := ((2, (j : Int), Di.mt) : V)) P4 (Lib.hid HS11.out.one.d) (by have := NB.out; omega) HVj.out).mono ?_; rintro e w12 ⟨rfl, hd, hb, hf⟩; have HS12 := Lib.hid (HS11.out.step hd.out hb.out hf.out); clear hd hb hf)
        clear k0 k1 k2 HS11
        have HS12d : Hid (Sta I w a L3 [(b12, (2, 8, Di.mt)), (b10, (2, (j : Int), Di.mt))] w12.drew) := (show Sta _ _ _ _ _ _ from HS12.out.below (below_dr (Below.refl _ _) 1))
        obtain ⟨k0, k1, k2⟩ := HK.out _ _ _ HS12.out (by simp)
        go_region_held3 (fun w' => w'.cell? ⟨b10, 0, none⟩ = some (.int .i64 2) ∧ w'.cell? ⟨b10, 1, none⟩ = some (.int .i64 (j : Int)) ∧ w'.cell? ⟨b10, 2, none⟩ = some (.string ⟨#[]⟩))
          (first
            | (go_keep; done)
            | with_reducible exact c15
            | with_reducible exact c14
            | with_reducible exact c13
            | fail)
          ((first
            | (go_at_call 25; refine (I.len_ N4 (Lib.hid HS14.out.one.d) (by have := NB.out; omega)).mono ?_; rintro e w15 ⟨rfl, hb⟩; have HS15 := Lib.hid (HS14.out.below hb); have c15 := HK.out _ _ _ HS15.out (by simp); clear hb)
            | (go_at_call 20; refine (I.put_ (k := ((2, (j : Int), Di.mt) : V)) (x := ((2, 1, Di.mt) : V)) P5 (Lib.hid HS13.out.one.d) (by have := NB.out; omega) HVj.out (HV 1 (by omega)).out).mono ?_; rintro e w14 ⟨rfl, hd, hb, hf⟩; have HS14 := Lib.hid (HS13.out.step hd.out hb.out hf.out); have c14 := HK.out _ _ _ HS14.out (by simp); clear hd hb hf)
            | (go_at_call 32; refine (one_is _ _).mono ?_; rintro e w13 ⟨rfl, hb⟩; have HS13 := Lib.hid (HS12d.out.below hb); have c13 := HK.out _ _ _ HS13.out (by simp); clear hb)
            | fail))
        all_goals
          clear c13 c14 c15 k0 k1 k2
          go_wp2_with fail
          go_ret
          exact ⟨rfl, HS15.out.one.bel⟩
end lawDictFull
end Go.Proofs.Ytaghkidelbepnaa
