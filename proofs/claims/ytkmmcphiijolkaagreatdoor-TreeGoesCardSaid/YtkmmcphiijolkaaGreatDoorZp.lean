/-
  Texts of the tree package put behind one another: MkSt, MkSu, MkSg.
-/
import Derived.Test.YtkmmcphiijolkaaGreatDoorZo
set_option linter.unusedVariables false
set_option linter.unusedSimpArgs false
namespace Go.Proofs.YtkmmcphiijolkaaGreatDoor
open Go.RowKit Go.Shelf
open Tr

set_option maxHeartbeats 40000000 in
set_option maxRecDepth 100000 in
theorem try_of {base M : Nat} {vs : Value} {s : List Int} {d : Nat} (hB : StmtC base M vs s (SOk 0) d) (hd : d ≤ 4) (σ : St) (w : World) (hS : MkS base M vs s σ w) (hP : σ.P.length < 160) (f l c : Bool) :
    Calls Tryz.prog 51 #[.pointer (some ⟨M, 0, none⟩), .int .i64 ((d : Int) + 1), .agg #[.bool f, .bool l, .bool c]] w fun e w' => ∃ (a : Ast) (σ' : St), e = .returned (.int .i64 ((σ.P.length + a.size - 1 : Nat) : Int)) ∧ Hid (To base M vs s σ w σ' w' [a]) ∧ SOk 0 (d + 1) a ∧ Hid (a.size + σ.P.length ≤ 160 + 8000 * (d + 1 + 1)) := by
  have HS := Lib.hid hS
  have H0 := Lib.hid (To.refl hS)
  have HB := Lib.hid hB
  have hml := hS.lt
  have hbw : base ≤ w.heap.size := by have := hS.hb; omega
  obtain ⟨p, hp⟩ := hid_ex σ.P.length
  rw [hp.out] at hP ⊢
  clear hS hB
  go_enter Tryz.func51, Tryz.ntmps51
  go_wp2_with (first
      | (go_at_call 23; go_loud (refine (next_at H1.out _ ((Below.refl _ _).alloc (Nat.le_refl _) _) 3 (by omega) (by omega)).mono ?_; rintro e w2 ⟨r2, σ2, rfl, hr2, H2, H2'⟩; have HP2 := Lib.hid (HP1.out.to HMW.out ((Below.refl _ _).alloc (Nat.le_refl _) _) H2'.out); have HPy := HP2.out.cells; obtain ⟨c2a, c2b, c2c⟩ := HPy; have HO2 := Lib.hid (HL1.out.to H2'.out); have hs12 : w1.heap.size ≤ w2.heap.size := Nat.le_trans ((Below.refl w1.heap.size w1).alloc (Nat.le_refl _) (.cells #[.int .i64 ((p + sizes [] + b.size - 1 : Nat) : Int)] 3)).size H2'.out.but.size))
      | (go_at_call 49; go_loud (refine (block_at HB.out hd H0.out _ ((Below.refl _ _).alloc (Nat.le_refl _) _) (by rw [hp.out]; (try simp only [List.nil_append, List.cons_append, List.append_assoc, sizes, sizes_append, size_mk]); omega) f l c).mono ?_; rintro e w1 ⟨b, σ1, rfl, H1, HAb, HFb, hab, H1'⟩; rw [hp.out]; rw [hp.out] at HFb; have HPx := Plc.one HS.out H1'.out; obtain ⟨HPa, HMa⟩ := HPx; have HP1 := Lib.hid HPa; have HMW := Lib.hid HMa; clear HPa HMa; have hs01 : w.heap.size < w1.heap.size := HP1.out.lt; have HL1 := Lib.hid (Ow.lit H1.out.st ((p + sizes [] + b.size - 1 : Nat) : Int)))))
  have hzb := HFb.out
  have HZ0 : Hid (p + sizes ([b] ++ []) ≤ 160 + 8000 * (d + 1) + 901 + 903 * 0) := (show _ ≤ _ by unfold FewB at hzb; simp only [List.append_nil, sizes] at hzb ⊢; omega)
  clear hzb
  go_loopw [7, 9] (fun v7 v9 wr => ∃ (i : Nat) (p7 : Option Addr) (c7 : Nat) (hs : List Ast) (σi : St), v9 = .int .i64 (i : Int) ∧ v7 = .slice p7 (1 + i) c7 ∧ i ≤ r2 ∧ Hid (i = hs.length) ∧ Hid (To base M vs s σ w σi wr ([b] ++ hs)) ∧ Hid (Ow base w1.heap.size (.slice p7 (1 + i) c7) (1 + i) (rootsA p ([b] ++ hs)) M σi wr) ∧ Hid (∀ a ∈ hs, SOk 2 (d + 1) a) ∧ Hid (p + sizes ([b] ++ hs) ≤ 160 + 8000 * (d + 1) + 901 + 903 * i) ∧ Hid (Plc w.heap.size f l c σi wr) ∧ Hid (w1.heap.size ≤ wr.heap.size)) (fun _ v9 _ => r2 - (intOf v9).toNat)
  case atStart => exact ⟨0, _, _, [], σ2, rfl, rfl, by omega, rfl, (show To _ _ _ _ _ _ _ _ _ from H2.out), (show Ow _ _ _ _ _ _ _ _ from HO2.out), fun a h => by simp at h, HZ0.out, HP2.out, (show _ ≤ _ from hs12)⟩
  case round =>
    obtain ⟨i, p7, c7, hs, σi, rfl, rfl, hi, HL, HT, HO, HEA, HZ, HPk0, HSZ⟩ := hrel
    clear H1 H2 H1' H2' HL1 HO2 HP1 HP2 HZ0 hs12 c2a c2b c2c
    by_cases hir : i < r2
    · have gi : (i : Int) < (r2 : Int) := by omega
      have Hk0 := Lib.hid (To.refl HT.out.st)
      obtain ⟨q, hq⟩ := hid_ex σi.P.length
      have HQ : Hid (q = p + sizes ([b] ++ hs)) := (show _ = _ by rw [← hq.out, HT.out.len, hp.out])
      have hz := HZ.out
      have hqb : q ≤ 100000 := by rw [HQ.out]; omega
      have hi6 : 1 + i + 1 ≤ 1000000 := by omega
      have HNB : Hid (¬ (Value.slice p7 (1 + i) c7).ownBlock = some w.heap.size) := (show ¬ _ from fun e => by have := (HO.out.row.lt _ e).1; omega)
      clear hz
      go_wp2_with (first
      | (at_builtin; go_loud (refine wpList_iapp rfl _ _ rfl w1.heap.size (1 + i) _ _ wk5 HOk5.out.row hs15 ((q : Int) + ((sizes [Ast.mk 6 x 0 [], h] : Nat) : Int)) rfl (by rfl) hi6 ?_; intro g6 c6 w6 HK6 HB6 HG6; have HT6 := Lib.hid (To.kapp (HT.out.trans Hk5.out) HOk5.out (Nat.le_of_lt hs01) HB6.out); have HO6 := Lib.hid ((HOk5.out.app Hk5.out.st HK6.out HB6.out HG6.out.2).2); have HP6 := Lib.hid ((HPk0.out.to HMW.out (Below.refl _ _) Hk5.out).but HB6.out HNB.out)))
      | (go_at_call 25; go_loud (have hl := lit_at Hk4.out #[.int .i64 ((q : Int) + ((sizes [] : Nat) : Int)), .int .i64 ((q + sizes ([] ++ [Ast.mk 6 (⟨x.toArray⟩ : ByteArray).data.toList 0 []]) + h.size - 1 : Nat) : Int)] (by rw [hq.out]; simp [rootsA, sizes, Ast.size, Nat.add_assoc]) 2 rfl; refine (add_at Hk4.out _ ((Below.refl _ _).alloc (Nat.le_refl _) _) (56) 0 ⟨y.toArray⟩ _ hl.1 (fun _ => hl.2) (by rw [hq.out]; (try simp only [List.nil_append, List.cons_append, List.append_assoc, sizes, sizes_append, size_mk]); omega) (by simp)).mono ?_; rintro e wk5 ⟨σk5, rfl, Hk5⟩; rw [hq.out]; have HOk5 := Lib.hid (HO.out.to Hk5.out); have hs15 : w1.heap.size ≤ wk5.heap.size := Nat.le_trans HSZ.out Hk5.out.but.size))
      | (go_at_call 49; go_loud (refine (block_at HB.out hd Hk3.out wk3 (Below.refl _ _) (by rw [hq.out]; (try simp only [List.nil_append, List.cons_append, List.append_assoc, sizes, sizes_append, size_mk]); omega) f l c).mono ?_; rintro e wk4 ⟨h, σk4, rfl, Hk4, HAh, HFh, hah, Hk4'⟩; rw [hq.out]; rw [hq.out] at HFh; have HPk4 := Lib.hid (HPk3.out.to HMW.out (Below.refl _ _) Hk4'.out); have HPy := HPk4.out.cells; obtain ⟨ck4a, ck4b, ck4c⟩ := HPy))
      | (go_at_call 23; go_loud (refine (next_at Hk2.out _ ((Below.refl _ _).alloc (Nat.le_refl _) _) 2 (by omega) (by omega)).mono ?_; rintro e wk3 ⟨rk3, σk3, rfl, hrk3, Hk3, Hk3'⟩; have hpk := pick_text Hk2.out.st Hk3'.out hn2 rfl rk3 (by show rk3 < 2; omega); obtain ⟨y, hy, hcy⟩ := hpk; have HXy := Lib.hid hy; clear hy; have HPk3 := Lib.hid (HPk2.out.to HMW.out ((Below.refl _ _).alloc (Nat.le_refl _) _) Hk3'.out); have HPy := HPk3.out.cells; obtain ⟨ck3a, ck3b, ck3c⟩ := HPy))
      | (go_at_call 25; go_loud (refine (leaf_at Hk1.out wk1 (Below.refl _ _) (6) 0 ⟨x.toArray⟩ (by rw [hq.out]; (try simp only [List.nil_append, List.cons_append, List.append_assoc, sizes, sizes_append, size_mk]); omega)).mono ?_; rintro e wk2 ⟨σk2, rfl, Hk2, Hk2'⟩; rw [hq.out]; have HPk2 := Lib.hid (HPk1.out.to HMW.out (Below.refl _ _) Hk2'.out); have HPy := HPk2.out.cells; obtain ⟨ck2a, ck2b, ck2c⟩ := HPy))
      | (go_at_call 23; go_loud (refine (next_at Hk0.out _ ((Below.refl _ _).alloc (Nat.le_refl _) _) 5 (by omega) (by omega)).mono ?_; rintro e wk1 ⟨rk1, σk1, rfl, hrk1, Hk1, Hk1'⟩; have hpk := pick_text Hk0.out.st Hk1'.out ha5 rfl rk1 (by show rk1 < 5; omega); obtain ⟨x, hx, hcx⟩ := hpk; have HXx := Lib.hid hx; clear hx; have HPk1 := Lib.hid (HPk0.out.to HMW.out ((Below.refl _ _).alloc (Nat.le_refl _) _) Hk1'.out); have HPy := HPk1.out.cells; obtain ⟨ck1a, ck1b, ck1c⟩ := HPy)))
      go_roundw
      case measure => simp [intOf]; omega
      case rel =>
        refine ⟨i + 1, _, c6, hs ++ [.mk 56 y 0 [.mk 6 x 0 [], h]], σk5, rfl, rfl, by omega, ?_, ?_, ?_, ?_, ?_, HP6.out, ?_⟩
        · show _ = _; rw [List.length_append, ← HL.out]; rfl
        · show To _ _ _ _ _ _ _ _ _
          have := HT6.out
          rw [List.append_assoc] at this
          exact this
        · show Ow _ _ _ _ _ _ _ _
          have := HO6.out
          rw [← List.append_assoc, rootsA_append, rootsA_one]
          have e : ((p + sizes ([b] ++ hs) + (Ast.mk 56 y 0 [.mk 6 x 0 [], h]).size - 1 : Nat) : Int) = (q : Int) + ((sizes [Ast.mk 6 x 0 [], h] : Nat) : Int) := by
            rw [← HQ.out, size_mk]; simp [sizes, size_mk]
          rw [e]
          exact this
        · show ∀ a ∈ hs ++ [_], SOk 2 (d + 1) a
          intro a ha
          rcases List.mem_append.1 ha with ha | ha
          · exact HEA.out a ha
          · simp only [List.mem_cons, List.not_mem_nil, or_false] at ha
            rw [ha]; exact SOk.hand _ _ _ _ (hn2_ok y HXy.out) (ha5_ok x HXx.out) HAh
        · show p + sizes _ ≤ _
          have hz := HZ.out
          have hq2 := HQ.out
          have hf := HFh.out
          unfold FewB at hf
          simp only [List.nil_append, List.cons_append, sizes, sizes_append, size_mk] at hz hq2 hf ⊢
          omega
        · show _ ≤ _
          have := HB6.out.size
          omega
    · obtain rfl : i = r2 := by omega
      have Ht0 := HT
      have HOt0 := HO
      have HPt0 := HPk0
      have hs1t0 := HSZ.out
      have hz := HZ.out
      have hzz : p + sizes ([b] ++ hs) ≤ 60000 := by omega
      have hzy : p + (b.size + sizes hs) ≤ 60000 := by simpa [sizes] using hzz
      clear hz
      have g1 : ¬ (1 + (i : Int) + 1 = 1) := by omega
      have g2 : ¬ (1 + (i : Int) = 0) := by omega
      have g3 : (1 + (i : Int) + 1 == 1) = false := by simp; omega
      go_upto_region 10 with (go_at_call 23; go_loud (refine (next_at Ht0.out wr (Below.refl _ _) 3 (by omega) (by omega)).mono ?_; rintro e wt1 ⟨rt1, σt1, rfl, hrt1, Ht1, Ht1'⟩; have HPt1 := Lib.hid (HPt0.out.to HMW.out (Below.refl _ _) Ht1'.out); have HPy := HPt1.out.cells; obtain ⟨ct1a, ct1b, ct1c⟩ := HPy; have HOt1 := Lib.hid (HOt0.out.to Ht1'.out); have hs1t1 : w1.heap.size ≤ wt1.heap.size := Nat.le_trans hs1t0 Ht1'.out.but.size))
      · go_wp2_with (first
      | (go_at_call 25; go_loud (with_reducible (show Calls _ _ #[_, Value.int .i64 55, _, _, _] _ _); refine (add_at Ht4.out wt4 (Below.refl _ _) 55 0 ⟨#[]⟩ _ (by rw [hp.out]; have := own_krowI HOt4.out.row; rw [hknh0.out] at this; rw [hknf0.out] at this; simpa [rootsA_append, rootsA_one, rootsA, sizes, sizes_append, size_mk, ← Nat.add_assoc] using this) (fun _ => HOt4.out.neM) (by rw [hp.out]; (try simp only [List.nil_append, List.cons_append, List.append_assoc, sizes, sizes_append, size_mk]); omega) (by simp only [List.length_append, List.length_cons, List.length_nil, ← HL.out]; omega)).mono ?_; rintro e wt9 ⟨σt9, rfl, Ht9⟩; rw [hp.out]))
      | (at_builtin; go_loud (refine wpList_iapp rfl _ _ rfl w1.heap.size (1 + i + 1) _ _ wt3c HOt3c.out.row hs1t3c (knf0 : Int) rfl (by rfl) (by omega) ?_; intro gt4 ct4 wt4 HKt4 HBt4 HGt4; have Ht4 := Lib.hid (To.kapp Ht3c.out HOt3c.out (Nat.le_of_lt hs01) HBt4.out); have HOt4 := Lib.hid ((HOt3c.out.app Ht3c.out.st HKt4.out HBt4.out HGt4.out.2).2); have HPt4 := Lib.hid ((HPt3.out.to HMW.out (Below.refl _ _) Ht3c'.out).but HBt4.out (fun e => by have := (HOt3c.out.row.lt _ e).1; omega)); have hs1t4 : w1.heap.size ≤ wt4.heap.size := Nat.le_trans hs1t3c HBt4.out.size))
      | (go_at_call 25; go_loud (with_reducible (show Calls _ _ #[_, Value.int .i64 57, _, _, _] _ _); have hl := lit_at Ht3b'.out #[.int .i64 (kf0 : Int)] (by rw [hkf0.out, Ht3.out.len, hp.out]; simp [rootsA]) 1 rfl; refine (add_k Ht3b'.out _ ((Below.refl _ _).alloc (Nat.le_refl _) _) 57 0 ⟨#[]⟩ _ hl.1 (fun _ => hl.2) (by rw [Ht3.out.len, hp.out]; (try simp only [List.nil_append, List.cons_append, List.append_assoc, sizes, sizes_append, size_mk]); omega) (by simp)).mono ?_; rintro e wt3c ⟨knf0, σt3c, rfl, hknf0, Ht3c'⟩; rw [Ht3.out.len, hp.out] at hknf0; have Ht3c := Lib.hid (Ht3.out.trans Ht3c'.out); have HOt3c := Lib.hid (HOt3.out.to Ht3c'.out); have hs1t3c : w1.heap.size ≤ wt3c.heap.size := Nat.le_trans hs1t3 Ht3c'.out.but.size))
      | (go_at_call 49; go_loud (refine (block_k HB.out hd Ht3.out wt3 (Below.refl _ _) (by rw [hp.out]; (try simp only [List.nil_append, List.cons_append, List.append_assoc, sizes, sizes_append, size_mk]); omega) f l c).mono ?_; rintro e wt3b ⟨kf0, f0, σt3b, rfl, hkf0, Ht3b, HAf0, HFf0, haf0, Ht3b'⟩; rw [hp.out] at HFf0 hkf0; have HPt3b := Lib.hid (HPt3.out.to HMW.out (Below.refl _ _) Ht3b'.out); have HPy := HPt3b.out.cells; obtain ⟨ct3ba, ct3bb, ct3bc⟩ := HPy))
      | (go_at_call 25; go_loud (with_reducible (show Calls _ _ #[_, Value.int .i64 55, _, _, _] _ _); refine (add_at Ht3.out wt3 (Below.refl _ _) 55 0 ⟨#[]⟩ _ (by rw [hp.out]; have := own_krowI HOt3.out.row; rw [hknh0.out] at this; simpa [rootsA_append, rootsA_one, rootsA, sizes, sizes_append, size_mk, ← Nat.add_assoc] using this) (fun _ => HOt3.out.neM) (by rw [hp.out]; (try simp only [List.nil_append, List.cons_append, List.append_assoc, sizes, sizes_append, size_mk]); omega) (by simp only [List.length_append, List.length_cons, List.length_nil, ← HL.out]; omega)).mono ?_; rintro e wta ⟨σta, rfl, Hta⟩; rw [hp.out]))
      | (go_at_call 23; go_loud (refine (next_at Ht2.out wt2 (Below.refl _ _) 3 (by omega) (by omega)).mono ?_; rintro e wt3 ⟨rt3, σt3, rfl, hrt3, Ht3, Ht3'⟩; have HPt3 := Lib.hid (HPt2.out.to HMW.out (Below.refl _ _) Ht3'.out); have HPy := HPt3.out.cells; obtain ⟨ct3a, ct3b, ct3c⟩ := HPy; have HOt3 := Lib.hid (HOt2.out.to Ht3'.out); have hs1t3 : w1.heap.size ≤ wt3.heap.size := Nat.le_trans hs1t2 Ht3'.out.but.size))
      | (at_builtin; go_loud (refine wpList_iapp rfl _ _ rfl w1.heap.size (1 + i) _ _ wt1c HOt1c.out.row hs1t1c (knh0 : Int) rfl (by rfl) (by omega) ?_; intro gt2 ct2 wt2 HKt2 HBt2 HGt2; have Ht2 := Lib.hid (To.kapp Ht1c.out HOt1c.out (Nat.le_of_lt hs01) HBt2.out); have HOt2 := Lib.hid ((HOt1c.out.app Ht1c.out.st HKt2.out HBt2.out HGt2.out.2).2); have HPt2 := Lib.hid ((HPt1.out.to HMW.out (Below.refl _ _) Ht1c'.out).but HBt2.out (fun e => by have := (HOt1c.out.row.lt _ e).1; omega)); have hs1t2 : w1.heap.size ≤ wt2.heap.size := Nat.le_trans hs1t1c HBt2.out.size))
      | (go_at_call 25; go_loud (with_reducible (show Calls _ _ #[_, Value.int .i64 56, _, _, _] _ _); have hl := lit_at Ht1b'.out #[.int .i64 (kh0 : Int)] (by rw [hkh0.out, Ht1.out.len, hp.out]; simp [rootsA]) 1 rfl; refine (add_k Ht1b'.out _ ((Below.refl _ _).alloc (Nat.le_refl _) _) 56 0 ⟨#[]⟩ _ hl.1 (fun _ => hl.2) (by rw [Ht1.out.len, hp.out]; (try simp only [List.nil_append, List.cons_append, List.append_assoc, sizes, sizes_append, size_mk]); omega) (by simp)).mono ?_; rintro e wt1c ⟨knh0, σt1c, rfl, hknh0, Ht1c'⟩; rw [Ht1.out.len, hp.out] at hknh0; have Ht1c := Lib.hid (Ht1.out.trans Ht1c'.out); have HOt1c := Lib.hid (HOt1.out.to Ht1c'.out); have hs1t1c : w1.heap.size ≤ wt1c.heap.size := Nat.le_trans hs1t1 Ht1c'.out.but.size))
      | (go_at_call 49; go_loud (refine (block_k HB.out hd Ht1.out wt1 (Below.refl _ _) (by rw [hp.out]; (try simp only [List.nil_append, List.cons_append, List.append_assoc, sizes, sizes_append, size_mk]); omega) f l c).mono ?_; rintro e wt1b ⟨kh0, h0, σt1b, rfl, hkh0, Ht1b, HAh0, HFh0, hah0, Ht1b'⟩; rw [hp.out] at HFh0 hkh0; have HPt1b := Lib.hid (HPt1.out.to HMW.out (Below.refl _ _) Ht1b'.out); have HPy := HPt1b.out.cells; obtain ⟨ct1ba, ct1bb, ct1bc⟩ := HPy)))
        · go_ret
          refine ⟨.mk 55 [] 0 ([b] ++ hs ++ [.mk 56 [] 0 [h0]] ++ [.mk 57 [] 0 [f0]]), σt9, ?_, (by have := Ht9; simpa using this), SOk.tri _ _ _ _ _ HAb HEA.out (by
            intro y hy
            simp only [List.mem_cons, List.not_mem_nil, or_false] at hy
            subst hy
            exact SOk.bare _ _ HAh0) (by
            intro y hy
            simp only [List.mem_cons, List.not_mem_nil, or_false] at hy
            subst hy
            exact SOk.fin _ _ HAf0) (by simp) (by simp) (by have := HL.out; simp only [List.length_cons, List.length_nil]; omega), (show _ + _ ≤ _ from by have hz := HZ.out; have hh0 := HFh0.out; have hf0 := HFf0.out; unfold FewB at hh0 hf0; rw [size_mk]; simp only [List.nil_append, List.cons_append, List.append_assoc, List.append_nil, sizes, sizes_append, size_mk] at hh0 hf0 hz ⊢; omega)⟩
          rw [size_mk]; simp [sizes, sizes_append, size_mk]
        · go_ret
          refine ⟨.mk 55 [] 0 ([b] ++ hs ++ [.mk 56 [] 0 [h0]] ++ []), σta, ?_, (by have := Hta; simpa using this), SOk.tri _ _ _ _ _ HAb HEA.out (by
            intro y hy
            simp only [List.mem_cons, List.not_mem_nil, or_false] at hy
            subst hy
            exact SOk.bare _ _ HAh0) (fun y hy => by simp at hy) (by simp) (by simp) (by have := HL.out; simp only [List.length_cons, List.length_nil]; omega), (show _ + _ ≤ _ from by have hz := HZ.out; have hh0 := HFh0.out; unfold FewB at hh0; rw [size_mk]; simp only [List.nil_append, List.cons_append, List.append_assoc, List.append_nil, sizes, sizes_append, size_mk] at hh0 hz ⊢; omega)⟩
          rw [size_mk]; simp [sizes, sizes_append, size_mk]
      · obtain rfl : i = 0 := by omega
        clear g1 g2 g3
        go_wp2_with (first
      | (go_at_call 25; go_loud (with_reducible (show Calls _ _ #[_, Value.int .i64 55, _, _, _] _ _); refine (add_at Ht5.out wt5 (Below.refl _ _) 55 0 ⟨#[]⟩ _ (by rw [hp.out]; have := own_krowI HOt5.out.row; rw [hknf0.out] at this; simpa [rootsA_append, rootsA_one, rootsA, sizes, sizes_append, size_mk, ← Nat.add_assoc] using this) (fun _ => HOt5.out.neM) (by rw [hp.out]; (try simp only [List.nil_append, List.cons_append, List.append_assoc, sizes, sizes_append, size_mk]); omega) (by simp only [List.length_append, List.length_cons, List.length_nil, ← HL.out]; omega)).mono ?_; rintro e wt8 ⟨σt8, rfl, Ht8⟩; rw [hp.out]))
      | (at_builtin; go_loud (refine wpList_iapp rfl _ _ rfl w1.heap.size (1 + 0) _ _ wt1c HOt1c.out.row hs1t1c (knf0 : Int) rfl (by rfl) (by omega) ?_; intro gt5 ct5 wt5 HKt5 HBt5 HGt5; have Ht5 := Lib.hid (To.kapp Ht1c.out HOt1c.out (Nat.le_of_lt hs01) HBt5.out); have HOt5 := Lib.hid ((HOt1c.out.app Ht1c.out.st HKt5.out HBt5.out HGt5.out.2).2); have HPt5 := Lib.hid ((HPt1.out.to HMW.out (Below.refl _ _) Ht1c'.out).but HBt5.out (fun e => by have := (HOt1c.out.row.lt _ e).1; omega)); have hs1t5 : w1.heap.size ≤ wt5.heap.size := Nat.le_trans hs1t1c HBt5.out.size))
      | (go_at_call 25; go_loud (with_reducible (show Calls _ _ #[_, Value.int .i64 57, _, _, _] _ _); have hl := lit_at Ht1b'.out #[.int .i64 (kf0 : Int)] (by rw [hkf0.out, Ht1.out.len, hp.out]; simp [rootsA]) 1 rfl; refine (add_k Ht1b'.out _ ((Below.refl _ _).alloc (Nat.le_refl _) _) 57 0 ⟨#[]⟩ _ hl.1 (fun _ => hl.2) (by rw [Ht1.out.len, hp.out]; (try simp only [List.nil_append, List.cons_append, List.append_assoc, sizes, sizes_append, size_mk]); omega) (by simp)).mono ?_; rintro e wt1c ⟨knf0, σt1c, rfl, hknf0, Ht1c'⟩; rw [Ht1.out.len, hp.out] at hknf0; have Ht1c := Lib.hid (Ht1.out.trans Ht1c'.out); have HOt1c := Lib.hid (HOt1.out.to Ht1c'.out); have hs1t1c : w1.heap.size ≤ wt1c.heap.size := Nat.le_trans hs1t1 Ht1c'.out.but.size))
      | (go_at_call 49; go_loud (refine (block_k HB.out hd Ht1.out wt1 (Below.refl _ _) (by rw [hp.out]; (try simp only [List.nil_append, List.cons_append, List.append_assoc, sizes, sizes_append, size_mk]); omega) f l c).mono ?_; rintro e wt1b ⟨kf0, f0, σt1b, rfl, hkf0, Ht1b, HAf0, HFf0, haf0, Ht1b'⟩; rw [hp.out] at HFf0 hkf0; have HPt1b := Lib.hid (HPt1.out.to HMW.out (Below.refl _ _) Ht1b'.out); have HPy := HPt1b.out.cells; obtain ⟨ct1ba, ct1bb, ct1bc⟩ := HPy)))
        go_ret
        refine ⟨.mk 55 [] 0 ([b] ++ hs ++ [] ++ [.mk 57 [] 0 [f0]]), σt8, ?_, (by have := Ht8; simpa using this), SOk.tri _ _ _ _ _ HAb HEA.out (fun y hy => by simp at hy) (by
          intro y hy
          simp only [List.mem_cons, List.not_mem_nil, or_false] at hy
          subst hy
          exact SOk.fin _ _ HAf0) (by simp) (by simp) (by have := HL.out; simp only [List.length_cons, List.length_nil]; omega), (show _ + _ ≤ _ from by have hz := HZ.out; have hf0 := HFf0.out; unfold FewB at hf0; rw [size_mk]; simp only [List.nil_append, List.cons_append, List.append_assoc, List.append_nil, sizes, sizes_append, size_mk] at hf0 hz ⊢; omega)⟩
        rw [size_mk]; simp [sizes, sizes_append, size_mk]
      · clear g1 g2 g3
        (go_at_call 23; go_loud (refine (next_at Ht1.out wt1 (Below.refl _ _) 3 (by omega) (by omega)).mono ?_; rintro e wt6 ⟨rt6, σt6, rfl, hrt6, Ht6, Ht6'⟩; have HPt6 := Lib.hid (HPt1.out.to HMW.out (Below.refl _ _) Ht6'.out); have HPy := HPt6.out.cells; obtain ⟨ct6a, ct6b, ct6c⟩ := HPy; have HOt6 := Lib.hid (HOt1.out.to Ht6'.out); have hs1t6 : w1.heap.size ≤ wt6.heap.size := Nat.le_trans hs1t1 Ht6'.out.but.size))
        go_wp2_with (first
      | (go_at_call 25; go_loud (with_reducible (show Calls _ _ #[_, Value.int .i64 55, _, _, _] _ _); refine (add_at Ht7.out wt7 (Below.refl _ _) 55 0 ⟨#[]⟩ _ (by rw [hp.out]; have := own_krowI HOt7.out.row; rw [hknf0.out] at this; simpa [rootsA_append, rootsA_one, rootsA, sizes, sizes_append, size_mk, ← Nat.add_assoc] using this) (fun _ => HOt7.out.neM) (by rw [hp.out]; (try simp only [List.nil_append, List.cons_append, List.append_assoc, sizes, sizes_append, size_mk]); omega) (by simp only [List.length_append, List.length_cons, List.length_nil, ← HL.out]; omega)).mono ?_; rintro e wtc ⟨σtc, rfl, Htc⟩; rw [hp.out]))
      | (at_builtin; go_loud (refine wpList_iapp rfl _ _ rfl w1.heap.size (1 + i) _ _ wt6c HOt6c.out.row hs1t6c (knf0 : Int) rfl (by rfl) (by omega) ?_; intro gt7 ct7 wt7 HKt7 HBt7 HGt7; have Ht7 := Lib.hid (To.kapp Ht6c.out HOt6c.out (Nat.le_of_lt hs01) HBt7.out); have HOt7 := Lib.hid ((HOt6c.out.app Ht6c.out.st HKt7.out HBt7.out HGt7.out.2).2); have HPt7 := Lib.hid ((HPt6.out.to HMW.out (Below.refl _ _) Ht6c'.out).but HBt7.out (fun e => by have := (HOt6c.out.row.lt _ e).1; omega)); have hs1t7 : w1.heap.size ≤ wt7.heap.size := Nat.le_trans hs1t6c HBt7.out.size))
      | (go_at_call 25; go_loud (with_reducible (show Calls _ _ #[_, Value.int .i64 57, _, _, _] _ _); have hl := lit_at Ht6b'.out #[.int .i64 (kf0 : Int)] (by rw [hkf0.out, Ht6.out.len, hp.out]; simp [rootsA]) 1 rfl; refine (add_k Ht6b'.out _ ((Below.refl _ _).alloc (Nat.le_refl _) _) 57 0 ⟨#[]⟩ _ hl.1 (fun _ => hl.2) (by rw [Ht6.out.len, hp.out]; (try simp only [List.nil_append, List.cons_append, List.append_assoc, sizes, sizes_append, size_mk]); omega) (by simp)).mono ?_; rintro e wt6c ⟨knf0, σt6c, rfl, hknf0, Ht6c'⟩; rw [Ht6.out.len, hp.out] at hknf0; have Ht6c := Lib.hid (Ht6.out.trans Ht6c'.out); have HOt6c := Lib.hid (HOt6.out.to Ht6c'.out); have hs1t6c : w1.heap.size ≤ wt6c.heap.size := Nat.le_trans hs1t6 Ht6c'.out.but.size))
      | (go_at_call 49; go_loud (refine (block_k HB.out hd Ht6.out wt6 (Below.refl _ _) (by rw [hp.out]; (try simp only [List.nil_append, List.cons_append, List.append_assoc, sizes, sizes_append, size_mk]); omega) f l c).mono ?_; rintro e wt6b ⟨kf0, f0, σt6b, rfl, hkf0, Ht6b, HAf0, HFf0, haf0, Ht6b'⟩; rw [hp.out] at HFf0 hkf0; have HPt6b := Lib.hid (HPt6.out.to HMW.out (Below.refl _ _) Ht6b'.out); have HPy := HPt6b.out.cells; obtain ⟨ct6ba, ct6bb, ct6bc⟩ := HPy))
      | (go_at_call 25; go_loud (with_reducible (show Calls _ _ #[_, Value.int .i64 55, _, _, _] _ _); refine (add_at Ht6.out wt6 (Below.refl _ _) 55 0 ⟨#[]⟩ _ (by rw [hp.out]; have := own_krowI HOt6.out.row; exact this) (fun _ => HOt6.out.neM) (by rw [hp.out]; (try simp only [List.nil_append, List.cons_append, List.append_assoc, sizes, sizes_append, size_mk]); omega) (by simp only [List.length_append, List.length_cons, List.length_nil, ← HL.out]; omega)).mono ?_; rintro e wtb ⟨σtb, rfl, Htb⟩; rw [hp.out])))
        · go_ret
          refine ⟨.mk 55 [] 0 ([b] ++ hs ++ [] ++ [.mk 57 [] 0 [f0]]), σtc, ?_, (by have := Htc; simpa using this), SOk.tri _ _ _ _ _ HAb HEA.out (fun y hy => by simp at hy) (by
            intro y hy
            simp only [List.mem_cons, List.not_mem_nil, or_false] at hy
            subst hy
            exact SOk.fin _ _ HAf0) (by simp) (by simp) (by have := HL.out; simp only [List.length_cons, List.length_nil]; omega), (show _ + _ ≤ _ from by have hz := HZ.out; have hf0 := HFf0.out; unfold FewB at hf0; rw [size_mk]; simp only [List.nil_append, List.cons_append, List.append_assoc, List.append_nil, sizes, sizes_append, size_mk] at hf0 hz ⊢; omega)⟩
          rw [size_mk]; simp [sizes, sizes_append, size_mk]
        · go_ret
          refine ⟨.mk 55 [] 0 ([b] ++ hs ++ [] ++ []), σtb, ?_, (by have := Htb; simpa using this), SOk.tri _ _ _ _ _ HAb HEA.out (fun y hy => by simp at hy) (fun y hy => by simp at hy) (by simp) (by simp) (by have := HL.out; simp only [List.length_cons, List.length_nil]; omega), (show _ + _ ≤ _ from by have hz := HZ.out; rw [size_mk]; simp only [List.nil_append, List.cons_append, List.append_assoc, List.append_nil, sizes, sizes_append, size_mk] at  hz ⊢; omega)⟩
          rw [size_mk]; simp [sizes, sizes_append, size_mk]
end Go.Proofs.YtkmmcphiijolkaaGreatDoor

set_option linter.unusedVariables false
set_option linter.unusedSimpArgs false
namespace Go.Proofs.YtkmmcphiijolkaaGreatDoor
open Go.RowKit Go.Shelf
open Tr

theorem try_at {base M : Nat} {vs : Value} {s : List Int} {σ0 σ : St} {w0 w : World} {d : Nat} (hB : StmtC base M vs s (SOk 0) d) (hd : d ≤ 4) (H : To base M vs s σ0 w0 σ w []) (wq : World) (hb : Below w.heap.size w wq) (hP : σ0.P.length < 160) (f l c : Bool) :
    Calls Tryz.prog 51 #[.pointer (some ⟨M, 0, none⟩), .int .i64 ((d : Int) + 1), .agg #[.bool f, .bool l, .bool c]] wq fun e w' => ∃ (a : Ast) (σ' : St), e = .returned (.int .i64 ((σ0.P.length + a.size - 1 : Nat) : Int)) ∧ Hid (To base M vs s σ0 w0 σ' w' [a]) ∧ SOk 0 (d + 1) a ∧ Hid (a.size + σ0.P.length ≤ 160 + 8000 * (d + 1 + 1)) := by
  have hl := H.len
  simp only [sizes, Nat.add_zero] at hl
  refine (try_of hB hd σ wq (H.st.below hb) (by rw [hl]; exact hP) f l c).mono ?_
  rintro e w' ⟨a, σ', rfl, HT, HA, HF⟩
  rw [hl] at HF
  exact ⟨a, σ', by rw [hl], (show To _ _ _ _ _ _ _ _ _ from by have := (H.below hb).trans HT.out; rwa [List.nil_append] at this), HA, HF⟩
end Go.Proofs.YtkmmcphiijolkaaGreatDoor

set_option linter.unusedVariables false
set_option linter.unusedSimpArgs false
namespace Go.Proofs.YtkmmcphiijolkaaGreatDoor
open Go.RowKit Go.Shelf
open Tr

set_option maxHeartbeats 40000000 in
set_option maxRecDepth 100000 in
theorem stmtE_of {base M : Nat} {vs : Value} {s : List Int} (hE1 : ExprC base M vs s 1) (hE2 : ExprC base M vs s 2) (hE3 : ExprC base M vs s 3) {d : Nat} (hB : StmtC base M vs s (SOk 0) d) (hd : d ≤ 4) (σ : St) (w : World) (f l c : Bool) (hS : MkS base M vs s σ w) (hP : σ.P.length ≤ 500000) (hlf : σ.P.length < 160)
    (hnext : Calls Tryz.prog 23 #[.pointer (some ⟨M, 0, none⟩), .int .i64 40] (w.alloc (.cells #[.bool f, .bool l, .bool c] 57)) fun e w' => ∃ (r : Nat) (σ' : St), e = .returned (.int .i64 (r : Int)) ∧ (r = 29 ∨ r = 30 ∨ r = 31 ∨ r = 32) ∧ Hid (To base M vs s σ (w.alloc (.cells #[.bool f, .bool l, .bool c] 57)) σ' w' [])) :
    Calls Tryz.prog 24 #[.pointer (some ⟨M, 0, none⟩), .int .i64 ((d : Int) + 1), .agg #[.bool f, .bool l, .bool c]] w fun e w' => ∃ (a : Ast) (σ' : St), e = .returned (.int .i64 ((σ.P.length + a.size - 1 : Nat) : Int)) ∧ Hid (To base M vs s σ w σ' w' [a]) ∧ SOk 0 (d + 1) a ∧ Few σ.P.length a.size (d + 1) := by
  have HS := Lib.hid hS
  have HE1 := Lib.hid hE1
  have HE2 := Lib.hid hE2
  have HE3 := Lib.hid hE3
  have HB := Lib.hid hB
  have hml := hS.lt
  have hbw : base ≤ w.heap.size := by have := hS.hb; omega
  obtain ⟨p, hp⟩ := hid_ex σ.P.length
  rw [hp.out] at hP hlf ⊢
  have hd0 : ¬ (d : Int) + 1 ≤ 0 := by omega
  have hl0 : ¬ 160 - (p : Int) ≤ 0 := by omega
  clear hS hE1 hE2 hE3 hB
  go_enter Tryz.func24, Tryz.ntmps24
  go_upto_region 4 with (go_at_call 23; go_loud (refine hnext.mono ?_; clear hnext; rintro e w1 ⟨r, σ1, rfl, hr, H1'⟩; have H1 := Lib.hid (To.after HS.out ((Below.refl _ _).alloc (Nat.le_refl _) _) H1'.out); have HPx := Plc.one HS.out H1'.out; obtain ⟨HPa, HMa⟩ := HPx; have HP1 := Lib.hid HPa; have HMW := Lib.hid HMa; have HPy := HPa.cells; obtain ⟨c1a, c1b, c1c⟩ := HPy; clear HPa HMa; have c3 := H1.out.st.cell 3; simp only [List.getElem?_toArray, List.getElem?_cons_succ, List.getElem?_cons_zero] at c3; rw [H1.out.len, hp.out] at c3; simp only [sizes, Nat.add_zero] at c3))
  clear c3 hl0 hd0
  rcases hr with rfl | rfl | rfl | rfl
  · go_wp2_with (first
      | (go_at_call 51; go_loud (refine (try_at HB.out hd H1.out w1 (Below.refl _ _) (by rw [hp.out]; omega) f l c).mono ?_; rintro e w2 ⟨a, σ2, rfl, H2, HAa, HFa⟩; rw [hp.out]; rw [hp.out] at HFa)))
    go_ret
    exact ⟨a, σ2, rfl, H2, HAa, few_deep hlf HFa.out⟩
  · go_wp2_with (first
      | (go_at_call 51; go_loud (refine (try_at HB.out hd H1.out w1 (Below.refl _ _) (by rw [hp.out]; omega) f l c).mono ?_; rintro e w2 ⟨a, σ2, rfl, H2, HAa, HFa⟩; rw [hp.out]; rw [hp.out] at HFa)))
    go_ret
    exact ⟨a, σ2, rfl, H2, HAa, few_deep hlf HFa.out⟩
  · go_wp2_with (first
      | (go_at_call 51; go_loud (refine (try_at HB.out hd H1.out w1 (Below.refl _ _) (by rw [hp.out]; omega) f l c).mono ?_; rintro e w2 ⟨a, σ2, rfl, H2, HAa, HFa⟩; rw [hp.out]; rw [hp.out] at HFa)))
    go_ret
    exact ⟨a, σ2, rfl, H2, HAa, few_deep hlf HFa.out⟩
  · go_wp2_with (first
      | (go_at_call 51; go_loud (refine (try_at HB.out hd H1.out w1 (Below.refl _ _) (by rw [hp.out]; omega) f l c).mono ?_; rintro e w2 ⟨a, σ2, rfl, H2, HAa, HFa⟩; rw [hp.out]; rw [hp.out] at HFa)))
    go_ret
    exact ⟨a, σ2, rfl, H2, HAa, few_deep hlf HFa.out⟩
end Go.Proofs.YtkmmcphiijolkaaGreatDoor
