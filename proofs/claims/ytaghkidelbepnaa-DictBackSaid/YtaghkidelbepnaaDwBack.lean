/-
  DictBack of layer 10: the walk, at this program.
-/
import Derived.Test.YtaghkidelbepnaaDiH
set_option linter.unusedVariables false
set_option linter.unusedSimpArgs false
namespace Go.Proofs.Ytaghkidelbepnaa
namespace lawDictBack
open Go.RowKit
open Di

theorem back {L : List Pr} {a : V} (b x : V) (ha : keyOk a = true) (hn : Nd L) (hl : L.length < mx) : ∃ L1 L2, put L a x = (true, L1) ∧ Di.get L1 a = (x, true) ∧ (a ≠ b → Di.get L1 b = Di.get L b) ∧ L1.length = (if (Di.get L a).2 then L.length else L.length + 1) ∧
    Di.del L1 a = (true, L2) ∧ Di.get L2 a = (zeroV, false) ∧ (a ≠ b → Di.get L2 b = Di.get L b) ∧ Di.del L2 a = (false, L2) ∧ L2.length + 1 = L1.length := by
  have hn1 := upd_nd a x hn
  have h1 : lk (upd L a x) a = some x := by rw [lk_upd, if_pos rfl]
  have h2 : lk (era (upd L a x) a) a = none := by rw [lk_era _ _ hn1, if_pos rfl]
  have h3 : 0 < (upd L a x).length := by rw [upd_length]; split <;> rename_i h <;> (try omega); cases L <;> simp_all [lk]
  have hlen : (era (upd L a x) a).length + 1 = (upd L a x).length := by rw [era_length, h1]; simp; omega
  have h4 : era (era (upd L a x) a) a = era (upd L a x) a := by
    have : ∀ l : List Pr, lk l a = none → era l a = l := by
      intro l
      induction l with
      | nil => intro _; rfl
      | cons p l ih =>
        intro h
        unfold lk at h
        unfold era
        split at h
        · cases h
        · rename_i hp
          rw [if_neg hp, ih h]
    exact this _ h2
  refine ⟨upd L a x, era (upd L a x) a, put_upd x ha (.inl hl), ?_, ?_, ?_, ?_, ?_, ?_, ?_, hlen⟩
  · rw [get_lk, h1]; rfl
  · intro hab; rw [get_lk, get_lk, lk_upd, if_neg hab]
  · rw [upd_length, get_lk]
  · rw [del_era, h1]; rfl
  · rw [get_lk, h2]; rfl
  · intro hab; rw [get_lk, get_lk, lk_era _ _ hn1, if_neg hab, lk_upd, if_neg hab]
  · rw [del_era, h2, h4]; rfl
theorem cells6 {w : World} {b : Nat} {t : TypeId} {x0 x1 x2 x3 x4 x5 : Value} (h : w.heap[b]? = some (.cells #[x0, x1, x2, x3, x4, x5] t)) : w.cell? ⟨b, 0, none⟩ = some x0 ∧ w.cell? ⟨b, 1, none⟩ = some x1 ∧ w.cell? ⟨b, 2, none⟩ = some x2 ∧ w.cell? ⟨b, 3, none⟩ = some x3 ∧ w.cell? ⟨b, 4, none⟩ = some x4 ∧ w.cell? ⟨b, 5, none⟩ = some x5 := by
  refine ⟨?_, ?_, ?_, ?_, ?_, ?_⟩ <;> simp [World.cell?, h]
set_option maxHeartbeats 16000000 in
set_option maxRecDepth 100000 in
theorem walk (I : DictI) {p q x : V} {v0 : Value} {l : List Cl} {w : World} (HV1 : Hid (Vok p)) (HV2 : Hid (Vok q)) (HX : Hid (Vok x)) (HC : Hid (CRow v0 l w)) (HOK : Hid (∀ c ∈ l, Cok c)) (hl : l.length ≤ 140737488355328) :
    Calls Try.prog 5 #[v0, .agg #[.int .i64 p.1, .int .i64 p.2.1, .string p.2.2, .int .i64 q.1, .int .i64 q.2.1, .string q.2.2], vV x] w fun e w' => e = .returned (.bool true) ∧ Below w.heap.size w w' := by
  obtain ⟨W, hW⟩ : ∃ W, W = (w.alloc (.cells #[.int .i64 p.1, .int .i64 p.2.1, .string p.2.2, .int .i64 q.1, .int .i64 q.2.1, .string q.2.2] 45)).alloc (.cells #[.int .i64 x.1, .int .i64 x.2.1, .string x.2.2] 32) := ⟨_, rfl⟩
  have HB : Hid (Below w.heap.size w W) := (show Below _ _ _ by rw [hW]; exact two_below _ _ _)
  obtain ⟨b4, hb4⟩ : ∃ bx, w.heap.size = bx := ⟨_, rfl⟩
  obtain ⟨b5, hb5⟩ : ∃ bx, w.heap.size + 1 = bx := ⟨_, rfl⟩
  have HE4 : Hid (W.heap[b4]? = some (.cells #[.int .i64 p.1, .int .i64 p.2.1, .string p.2.2, .int .i64 q.1, .int .i64 q.2.1, .string q.2.2] 45)) := (show _ = _ by rw [hW, ← hb4]; exact two_first _ _ _)
  have HE5 : Hid (BoxV W b5 x) := (show BoxV _ _ _ by rw [hW, ← hb5]; exact two_heap _ _ _)
  have HB4 := Lib.hid hb4
  have HB5 := Lib.hid hb5
  have HW := Lib.hid hW
  obtain ⟨pa, cap, hv0, _⟩ := HC.out.form
  subst hv0
  obtain ⟨L, hL⟩ : ∃ L, Di.made l = L := ⟨_, rfl⟩
  have HLL : Hid (L.length ≤ 100) := (show _ ≤ _ by rw [← hL]; have := made_length l; omega)
  have HLN : Hid (Nd L) := (show Nd _ by rw [← hL]; exact made_nd l)
  have HL := Lib.hid hL
  obtain ⟨f, hf⟩ := hid_ex (fitK p)
  obtain ⟨g, hg⟩ := hid_ex (fitK q)
  have HKF : Hid (keyOk f = true) := (show _ = _ by rw [← hf.out]; exact fitK_ok p)
  have HFV : Hid (Vok f) := (show Vok f by rw [← hf.out]; exact fitK_vok HV1.out)
  have HGV : Hid (Vok g) := (show Vok g by rw [← hg.out]; exact fitK_vok HV2.out)
  obtain ⟨L1, L2, q1, q2, q3, q4, q5, q6, q7, q8, q9⟩ := back g x HKF.out HLN.out (by have := HLL.out; unfold mx; omega)
  obtain ⟨⟨was, is⟩, G0⟩ := hid_ex (Di.get L g)
  obtain ⟨⟨zo, old⟩, G1⟩ := hid_ex (Di.get L f)
  obtain ⟨⟨now, still⟩, G2⟩ := hid_ex (Di.get L1 g)
  obtain ⟨⟨last, left⟩, G3⟩ := hid_ex (Di.get L2 g)
  have P1 := Lib.hid q1
  have P2 := Lib.hid q2
  have P5 := Lib.hid q5
  have P6 := Lib.hid q6
  have P8 := Lib.hid q8
  have PS : Hid (f ≠ g → now = was ∧ still = is ∧ last = was ∧ left = is) := (show _ → _ from fun h => by
    have h3 := q3 h
    have h7 := q7 h
    rw [G2.out, G0.out] at h3
    rw [G3.out, G0.out] at h7
    simp only [Prod.mk.injEq] at h3 h7
    exact ⟨h3.1, h3.2, h7.1, h7.2⟩)
  obtain ⟨n, hn⟩ : ∃ n, L.length = n := ⟨_, rfl⟩
  obtain ⟨n2, hn2⟩ : ∃ n, L2.length = n := ⟨_, rfl⟩
  have hn1 : L1.length = n2 + 1 := by omega
  have P4 : Hid (n2 + 1 = if old then n else n + 1) := (show _ = _ by rw [← hn1, q4, G1.out, hn])
  have HN := Lib.hid hn
  have HN1 := Lib.hid hn1
  have HN2 := Lib.hid hn2
  have HNB : Hid (n2 ≤ 200 ∧ n ≤ 200 ∧ L1.length ≤ 200 ∧ L2.length ≤ 200 ∧ L.length ≤ 200) := (show _ ∧ _ by have h1 := HLL.out; have h2 := P4.out; cases old <;> simp at h2 <;> omega)
  have hz := zeroV
  clear hW hb4 hb5 hL q1 q2 q3 q4 q5 q6 q7 q8 q9 hn hn1 hn2 hz
  go_enter Try.func5, Try.ntmps5
  go_upto_region 1 with (fail)
  rw [← HW.out, HB5.out, HB4.out]
  go_upto_region 3 with (first
    | (go_at_call 17; refine (made_is I (Lib.hid (HC.out.below (HB.out.trans (HB1.mono HB.out.size)))) HOK hl).mono ?_; rintro e w2 ⟨a, br, vr, rfl, HT2, HB2⟩; rw [HL.out] at HT2)
    | (go_at_call 12; refine (shown10 I _).mono ?_; rintro e w1 ⟨rfl, HB1⟩))
  have HS : Hid (Sta I w a L [(b5, x)] w2) := (show Sta _ _ _ _ _ _ from Sta.made (HB.out.trans (HB1.mono HB.out.size)) HT2.out HB2.out (fun b y hy => by simp at hy; obtain ⟨rfl, rfl⟩ := hy; exact HE5.out.below HB1))
  have HBW2 : Hid (Below W.heap.size W w2) := (show Below _ _ _ from HB1.trans (HB2.out.mono HB1.size))
  have HQ4 : Hid (∀ w' : World, Below w2.heap.size w2 w' → w'.heap[b4]? = some (.cells #[.int .i64 p.1, .int .i64 p.2.1, .string p.2.2, .int .i64 q.1, .int .i64 q.2.1, .string q.2.2] 45)) := (show ∀ w' : World, _ → _ from fun w' h => (h.block b4 (Nat.lt_of_lt_of_le (Array.getElem?_eq_some_iff.1 HE4.out).1 HBW2.out.size)).trans ((HBW2.out.block b4 (Array.getElem?_eq_some_iff.1 HE4.out).1).trans HE4.out))
  obtain ⟨a0, a1, a2, a3, a4, a5⟩ := cells6 (HQ4.out w2 (Below.refl _ _))
  clear HB1 HB2 HT2 HW HB HE4 HE5 HBW2
  go_upto_region 4 with (go_at_call 24; refine (rFit_is hf _).mono ?_; rintro e w3 ⟨rfl, HB3⟩)
  obtain ⟨W3, hW3⟩ : ∃ W, W = w3.alloc (.cells #[.int .i64 f.1, .int .i64 f.2.1, .string f.2.2] 32) := ⟨_, rfl⟩
  obtain ⟨b10, hb10⟩ : ∃ b, w3.heap.size = b := ⟨_, rfl⟩
  have HS3 := Lib.hid ((HS.out.below HB3).box f hW3 hb10)
  have HB23 : Hid (Below w2.heap.size w2 W3) := (show Below _ _ _ by rw [hW3]; exact HB3.trans ((below_new w3 _).mono HB3.size))
  rw [← hW3, hb10]
  clear hW3 hb10 a0 a1 a2 a3 a4 a5 HS HB3
  obtain ⟨a0, a1, a2, a3, a4, a5⟩ := cells6 (HQ4.out W3 HB23.out)
  clear HQ4 HB23
  go_upto_region 5 with (go_at_call 24; refine (rFit_is hg _).mono ?_; rintro e w4 ⟨rfl, HB4b⟩)
  obtain ⟨W4, hW4⟩ : ∃ W, W = w4.alloc (.cells #[.int .i64 g.1, .int .i64 g.2.1, .string g.2.2] 32) := ⟨_, rfl⟩
  obtain ⟨b11, hb11⟩ : ∃ b, w4.heap.size = b := ⟨_, rfl⟩
  have HS4 := Lib.hid ((HS3.out.below HB4b).box g hW4 hb11)
  rw [← hW4, hb11]
  clear hW4 hb11 a0 a1 a2 a3 a4 a5 HS3 HB4b
  obtain ⟨c00, c01, c02⟩ := HS4.out.cells (b := b11) (x := g) (by simp)
  go_upto_region 8 with (go_at_call 22; refine (I.get_ G0 (Lib.hid HS4.out.one.d) (by have := HNB.out; omega) HGV.out).mono ?_; rintro e w5 ⟨rfl, HBn⟩)
  obtain ⟨W5, hWn⟩ : ∃ W, W = w5.alloc (.cells #[.int .i64 was.1, .int .i64 was.2.1, .string was.2.2] 32) := ⟨_, rfl⟩
  obtain ⟨b12, hbn⟩ : ∃ b, w5.heap.size = b := ⟨_, rfl⟩
  have HS5 := Lib.hid ((HS4.out.below HBn).box was hWn hbn)
  rw [← hWn, hbn]
  clear c00 c01 c02 hWn hbn HBn HS4
  go_upto_region 9 with (go_at_call 25; refine (I.len_ (n := n) HN (Lib.hid HS5.out.one.d) (by have := HNB.out; omega)).mono ?_; rintro e W6 ⟨rfl, HBn⟩)
  have HS6 := Lib.hid (HS5.out.below HBn)
  clear HBn HS5
  obtain ⟨c00, c01, c02⟩ := HS6.out.cells (b := b10) (x := f) (by simp)
  go_upto_region 10 with (go_at_call 22; refine (I.get_ G1 (Lib.hid HS6.out.one.d) (by have := HNB.out; omega) HFV.out).mono ?_; rintro e w7 ⟨rfl, HBn⟩)
  obtain ⟨W7, hWn⟩ : ∃ W, W = w7.alloc (.cells #[.int .i64 zo.1, .int .i64 zo.2.1, .string zo.2.2] 32) := ⟨_, rfl⟩
  obtain ⟨b15, hbn⟩ : ∃ b, w7.heap.size = b := ⟨_, rfl⟩
  have HS7 := Lib.hid ((HS6.out.below HBn).box zo hWn hbn)
  rw [← hWn, hbn]
  clear c00 c01 c02 hWn hbn HBn HS6
  obtain ⟨c00, c01, c02⟩ := HS7.out.cells (b := b10) (x := f) (by simp)
  obtain ⟨c10, c11, c12⟩ := HS7.out.cells (b := b5) (x := x) (by simp)
  go_upto_region 11 with (go_at_call 20; refine (I.put_ P1 (Lib.hid HS7.out.one.d) (by have := HNB.out; omega) HFV.out HX.out).mono ?_; rintro e W8 ⟨rfl, HDn, HBn, HFn⟩)
  have HS8 := Lib.hid (HS7.out.step HDn.out HBn.out HFn.out)
  clear c00 c01 c02 c10 c11 c12 HDn HBn HFn HS7
  obtain ⟨c00, c01, c02⟩ := HS8.out.cells (b := b10) (x := f) (by simp)
  go_upto_region 12 with (go_at_call 22; refine (I.get_ P2 (Lib.hid HS8.out.one.d) (by have := HNB.out; omega) HFV.out).mono ?_; rintro e w9 ⟨rfl, HBn⟩)
  obtain ⟨W9, hWn⟩ : ∃ W, W = w9.alloc (.cells #[.int .i64 x.1, .int .i64 x.2.1, .string x.2.2] 32) := ⟨_, rfl⟩
  obtain ⟨b18, hbn⟩ : ∃ b, w9.heap.size = b := ⟨_, rfl⟩
  have HS9 := Lib.hid ((HS8.out.below HBn).box x hWn hbn)
  rw [← hWn, hbn]
  clear c00 c01 c02 hWn hbn HBn HS8
  obtain ⟨c00, c01, c02⟩ := HS9.out.cells (b := b11) (x := g) (by simp)
  go_upto_region 13 with (go_at_call 22; refine (I.get_ G2 (Lib.hid HS9.out.one.d) (by have := HNB.out; omega) HGV.out).mono ?_; rintro e w10 ⟨rfl, HBn⟩)
  obtain ⟨W10, hWn⟩ : ∃ W, W = w10.alloc (.cells #[.int .i64 now.1, .int .i64 now.2.1, .string now.2.2] 32) := ⟨_, rfl⟩
  obtain ⟨b20, hbn⟩ : ∃ b, w10.heap.size = b := ⟨_, rfl⟩
  have HS10 := Lib.hid ((HS9.out.below HBn).box now hWn hbn)
  rw [← hWn, hbn]
  clear c00 c01 c02 hWn hbn HBn HS9
  go_upto_region 14 with (go_at_call 25; refine (I.len_ (n := n2 + 1) HN1 (Lib.hid HS10.out.one.d) (by have := HNB.out; omega)).mono ?_; rintro e W11 ⟨rfl, HBn⟩)
  have HS11 := Lib.hid (HS10.out.below HBn)
  clear HBn HS10
  obtain ⟨c00, c01, c02⟩ := HS11.out.cells (b := b10) (x := f) (by simp)
  go_upto_region 15 with (go_at_call 23; refine (I.del_ P5 (Lib.hid HS11.out.one.d) (by have := HNB.out; omega) HFV.out).mono ?_; rintro e W12 ⟨rfl, HDn, HBn, HFn⟩)
  have HS12 := Lib.hid (HS11.out.step HDn.out HBn.out HFn.out)
  clear c00 c01 c02 HDn HBn HFn HS11
  obtain ⟨c00, c01, c02⟩ := HS12.out.cells (b := b10) (x := f) (by simp)
  go_upto_region 16 with (go_at_call 22; refine (I.get_ P6 (Lib.hid HS12.out.one.d) (by have := HNB.out; omega) HFV.out).mono ?_; rintro e w13 ⟨rfl, HBn⟩)
  obtain ⟨W13, hWn⟩ : ∃ W, W = w13.alloc (.cells #[.int .i64 zeroV.1, .int .i64 zeroV.2.1, .string zeroV.2.2] 32) := ⟨_, rfl⟩
  obtain ⟨b24, hbn⟩ : ∃ b, w13.heap.size = b := ⟨_, rfl⟩
  have HS13 := Lib.hid ((HS12.out.below HBn).box zeroV hWn hbn)
  rw [← hWn, hbn]
  clear c00 c01 c02 hWn hbn HBn HS12
  obtain ⟨c00, c01, c02⟩ := HS13.out.cells (b := b11) (x := g) (by simp)
  go_upto_region 17 with (go_at_call 22; refine (I.get_ G3 (Lib.hid HS13.out.one.d) (by have := HNB.out; omega) HGV.out).mono ?_; rintro e w14 ⟨rfl, HBn⟩)
  obtain ⟨W14, hWn⟩ : ∃ W, W = w14.alloc (.cells #[.int .i64 last.1, .int .i64 last.2.1, .string last.2.2] 32) := ⟨_, rfl⟩
  obtain ⟨b26, hbn⟩ : ∃ b, w14.heap.size = b := ⟨_, rfl⟩
  have HS14 := Lib.hid ((HS13.out.below HBn).box last hWn hbn)
  rw [← hWn, hbn]
  clear c00 c01 c02 hWn hbn HBn HS13
  obtain ⟨c00, c01, c02⟩ := HS14.out.cells (b := b10) (x := f) (by simp)
  go_upto_region 18 with (go_at_call 23; refine (I.del_ P8 (Lib.hid HS14.out.one.d) (by have := HNB.out; omega) HFV.out).mono ?_; rintro e W15 ⟨rfl, HDn, HBn, HFn⟩)
  have HS15 := Lib.hid (HS14.out.step HDn.out HBn.out HFn.out)
  clear c00 c01 c02 HDn HBn HFn HS14
  obtain ⟨c00, c01, c02⟩ := HS15.out.cells (b := b10) (x := f) (by simp)
  obtain ⟨c10, c11, c12⟩ := HS15.out.cells (b := b11) (x := g) (by simp)
  obtain ⟨c20, c21, c22⟩ := HS15.out.cells (b := b12) (x := was) (by simp)
  obtain ⟨c30, c31, c32⟩ := HS15.out.cells (b := b20) (x := now) (by simp)
  obtain ⟨c40, c41, c42⟩ := HS15.out.cells (b := b26) (x := last) (by simp)
  obtain ⟨c50, c51, c52⟩ := HS15.out.cells (b := b18) (x := x) (by simp)
  obtain ⟨c60, c61, c62⟩ := HS15.out.cells (b := b5) (x := x) (by simp)
  have e3 := fun w => eql_V w x x
  have e2 := fun w => eql_V w was was
  have e1 := fun w => eql_V w f g
  simp only [decide_true] at e2 e3
  have HW : Hid (Below w.heap.size w W15) := HS15.out.one.bel
  have HD : Hid (I.DR W15 a L2) := HS15.out.one.d
  clear HC HOK hl HB4 HLL HLN HL hf hg HKF HFV HGV G0 G1 G2 G3 P1 P2 P5 P6 P8 HN HN1 HS15 HV1 HV2 HX
  have HE : n = if old then n2 + 1 else n2 := by have := P4.out; cases old <;> simp at this ⊢ <;> omega
  clear P4
  have hnb : n2 ≤ 200 ∧ n ≤ 200 := ⟨HNB.out.1, HNB.out.2.1⟩
  obtain ⟨hnb1, hnb2⟩ := hnb
  cases old
  all_goals
    simp only [Bool.false_eq_true, if_false, if_true] at HE
    subst HE
    by_cases hfg : f = g
    · have hd : decide (f = g) = true := by simp [hfg]
      rw [hd] at e1
      clear hd hfg PS
      go_wp2_with (go_at_call 25; refine (I.len_ HN2 HD (by have := HNB.out; omega)).mono ?_; rintro e w16 ⟨rfl, HBn⟩)
      go_ret
      exact ⟨rfl, HW.out.trans (HBn.mono HW.out.size)⟩
    · have hd : decide (f = g) = false := by simp [hfg]
      rw [hd] at e1
      obtain ⟨rfl, rfl, rfl, rfl⟩ := PS.out hfg
      clear hd hfg PS
      go_wp2_with (go_at_call 25; refine (I.len_ HN2 HD (by have := HNB.out; omega)).mono ?_; rintro e w16 ⟨rfl, HBn⟩)
      go_ret
      exact ⟨rfl, HW.out.trans (HBn.mono HW.out.size)⟩
end lawDictBack
end Go.Proofs.Ytaghkidelbepnaa
