/-
  The reference's text of an int, at this program.
-/
import Derived.Test.YtaekjkihdecmcaaNuMa
import Derived.Laws.BytesString
set_option linter.unusedVariables false
set_option linter.unusedSimpArgs false
namespace Go.Proofs.Ytaekjkihdecmcaa
open Go.RowKit

def strLen (v : Value) : Nat := match v with | .string b => b.size | _ => 0
/-- The state of the text: the number, ten, and what is left. -/
structure TX (w : World) (nx nt ny : Nat) (z y : Int) (wr : World) : Prop where
  ox : VarN wr nx z
  ot : VarN wr nt 10
  oy : VarN wr ny y
  h1 : w.heap.size ≤ nx
  h2 : nx < nt
  h3 : nt < ny
  bel : Below w.heap.size w wr
theorem TX.below {w : World} {nx nt ny : Nat} {z y : Int} {wr w2 : World} (h : TX w nx nt ny z y wr) (hb : Below wr.heap.size wr w2) : TX w nx nt ny z y w2 :=
  ⟨h.ox.below hb, h.ot.below hb, h.oy.below hb, h.h1, h.h2, h.h3, h.bel.trans (hb.mono h.bel.size)⟩
theorem TX.sety {w : World} {nx nt ny : Nat} {z y y' : Int} {wr : World} (h : TX w nx nt ny z y wr) {s : Bool} {pa : Option Addr} {n c : Nat} (hv : NumV (.agg #[.bool s, .slice pa n c]) y' wr) : TX w nx nt ny z y' (put2 wr ny (.bool s) (.slice pa n c)) := by
  have h1 := h.h1
  have h2 := h.h2
  have h3 := h.h3
  exact ⟨h.ox.other h.oy (by omega) _ _, h.ot.other h.oy (by omega) _ _, h.oy.put hv, h.h1, h.h2, h.h3, put2_below h.bel (by omega) _ _⟩
theorem VarN.new {w : World} {s : Bool} {pa : Option Addr} {n c : Nat} {z : Int} (hv : NumV (.agg #[.bool s, .slice pa n c]) z w) : VarN (w.alloc (cN (.bool s) (.slice pa n c))) w.heap.size z :=
  ⟨s, pa, n, c, heap_alloc_new _ _, hv.below ((Below.refl _ w).alloc (Nat.le_refl _) _)⟩
theorem below_new (w : World) (o : Obj) : Below w.heap.size w (w.alloc o) := (Below.refl _ w).alloc (Nat.le_refl _) _
theorem two_vars {wr : World} {z1 z2 : Int} {s1 : Bool} {p1 : Option Addr} {n1 c1 : Nat} {s2 : Bool} {p2 : Option Addr} {n2 c2 : Nat} (h1 : NumV (.agg #[.bool s1, .slice p1 n1 c1]) z1 wr) (h2 : NumV (.agg #[.bool s2, .slice p2 n2 c2]) z2 wr) :
    Below wr.heap.size wr ((wr.alloc (cN (.bool s1) (.slice p1 n1 c1))).alloc (cN (.bool s2) (.slice p2 n2 c2))) ∧ VarN ((wr.alloc (cN (.bool s1) (.slice p1 n1 c1))).alloc (cN (.bool s2) (.slice p2 n2 c2))) wr.heap.size z1 ∧ VarN ((wr.alloc (cN (.bool s1) (.slice p1 n1 c1))).alloc (cN (.bool s2) (.slice p2 n2 c2))) (wr.heap.size + 1) z2 := by
  have b1 := below_new wr (cN (.bool s1) (.slice p1 n1 c1))
  have b2 := below_new (wr.alloc (cN (.bool s1) (.slice p1 n1 c1))) (cN (.bool s2) (.slice p2 n2 c2))
  refine ⟨b1.trans (b2.mono b1.size), (VarN.new h1).below b2, s2, p2, n2, c2, ?_, (h2.below b1).below b2⟩
  have := heap_alloc_new (wr.alloc (cN (.bool s1) (.slice p1 n1 c1))) (cN (.bool s2) (.slice p2 n2 c2))
  simpa using this
theorem one_byte (w : World) (x : Int) : (convert 55 9 (.slice (some ⟨w.heap.size, 0, none⟩) 1 1)).run Try.prog (w.alloc (.cells #[.int .u8 x] 5)) = .ok (.string ⟨#[UInt8.ofNat x.toNat]⟩) (w.alloc (.cells #[.int .u8 x] 5)) := by
  have hc : (w.alloc (.cells #[.int .u8 x] 5)).cell? ⟨w.heap.size, 0, none⟩ = some (.int .u8 x) := by
    have h := heap_alloc_new w (.cells #[.int .u8 x] 5)
    unfold World.cell?
    simp only
    rw [h]
    rfl
  rw [run_convert_bytes_string _ _ _ 5 _ _ _ Try.underlying55 Try.underlying5 Try.underlying9]
  rw [run_bytesToString _ _ _ _ [x] (by simp [loadCells, loadCellsFrom, go_sem, hc])]
  rfl
theorem cons_bytes (b : UInt8) (u : Nu.Bs) : (⟨#[b]⟩ : ByteArray) ++ ⟨u.toArray⟩ = ⟨(b :: u).toArray⟩ := by
  apply ByteArray.ext
  simp
theorem dec_le20 {n : Nat} (h : n ≤ 9223372036854775808) : (Nu.dec n).length ≤ 20 := Nu.dec_length_le n 20 (by decide) (Nat.lt_of_le_of_lt h (by decide))
theorem lone_digit {s : Bool} {l : List Nat} {d : Nat} (j : Nu.Says s l (d : Int)) (h : d < 65536) : Nu.dig l 0 = d := by
  have hv : Nu.val l = d := by rw [j.abs]; omega
  have hl : l.length ≤ 1 := Nu.len_of_lt j.2.1 (by rw [hv]; simpa using h)
  rw [← hv, ← Nu.valTo_beyond (i := 1) hl]
  simp [Nu.valTo]

set_option maxHeartbeats 16000000 in
theorem rText_is {z : Int} {t : Nu.Bs} (ht : Hid (Nu.text z = t)) (w : World) (hz1 : -9223372036854775808 ≤ z) (hz2 : z ≤ 9223372036854775807) :
    Calls Try.prog 22 #[.int .i64 z] w fun e w' => e = .returned (.string ⟨t.toArray⟩) ∧ Below w.heap.size w w' := by
  go_enter Try.func22, Try.ntmps22
  go_upto_region 3 with (first
    | (go_at_call 20; with_reducible (show Calls _ _ #[Value.int _ z] _ _); refine (Of_is hz1 hz2).mono ?_; rintro e wo ⟨so, po, no, co, rfl, HOV, HOB⟩)
    | (go_at_call 20; with_reducible (show Calls _ _ #[Value.int _ 10] _ _); refine (Of_is (by omega) (by omega)).mono ?_; rintro e wp ⟨sp, pp, np, cp, rfl, HPV, HPB⟩))
  have HD := Lib.hid (ds_start HOB.out HOV.out HPB.out HPV.out)
  generalize hW : World.alloc wp _ = W
  have HDS : Hid (DS w wo.heap.size wp.heap.size z 10 W) := (show DS _ _ _ _ _ _ from by rw [← hW]; exact HD.out)
  clear hW HD HOV HPV HOB HPB
  obtain ⟨s1, p1, n1, c1, x0, x1, _, _, HVX⟩ := HDS.out.ox.cells
  obtain ⟨lx, dx, hnx, jx⟩ := num_digits HVX.out
  have hval : Nu.val lx = z.natAbs := jx.abs
  have hlx : lx.length ≤ 100 := says_len jx (int_lt1 hz1 hz2)
  have hwh := whole_is (s := false) (z := (z.natAbs : Int)) dx jx.1 (by omega) (by rw [hval]; rfl)
  clear dx hnx jx hval hlx
  obtain ⟨N, hN⟩ : ∃ N, N = z.natAbs := ⟨_, rfl⟩
  rw [← hN] at hwh
  have HNN := Lib.hid hN
  have hNb : N ≤ 9223372036854775808 := by omega
  clear hN
  go_upto_region 5 with (go_at_call 30; refine hwh.mono ?_; clear hwh; rintro e wy ⟨s2, p2, n2, c2, rfl, HYV, HYB⟩)
  have hTX : TX w wo.heap.size wp.heap.size wy.heap.size z (N : Int) (wy.alloc (cN (.bool s2) (.slice p2 n2 c2))) := by
    have h := HDS.out.below HYB.out
    have h1 := HDS.out.oy.lt
    have h2 := HYB.out.size
    exact ⟨(h.below (below_new wy _)).ox, (h.below (below_new wy _)).oy, VarN.new HYV.out, h.hx, h.hxy, by omega, (h.below (below_new wy _)).bel⟩
  have HTX := Lib.hid hTX
  clear hTX
  go_loopw [5] (fun v5 wr => ∃ (Y : Nat) (u : Nu.Bs), v5 = .string ⟨u.toArray⟩ ∧ Y ≤ N ∧ u.length ≤ 20 ∧ Hid (TX w wo.heap.size wp.heap.size wy.heap.size z (Y : Int) wr) ∧ Hid (u = [] ∧ Y = N ∨ u ≠ [] ∧ (if Y = 0 then [] else Nu.dec Y) ++ u = Nu.dec N)) (fun v5 _ => 30 - strLen v5)
  case atStart => exact ⟨N, [], rfl, Nat.le_refl _, by simp, HTX.out, Or.inl ⟨rfl, rfl⟩⟩
  case round =>
    clear HTX x0 x1 HDS HYV HYB HVX
    obtain ⟨Y, u, rfl, hY, hu, HT, HU⟩ := hrel
    obtain ⟨s3, p3, n3, c3, y0, y1, _, _, HVY⟩ := HT.out.oy.cells
    obtain ⟨ly, dy, hny, jy⟩ := num_digits HVY.out
    have hn0 : n3 = 0 ↔ Y = 0 := by
      rw [hny, List.length_eq_zero_iff, ← Nu.val_eq_zero jy.2.1, jy.abs]
      omega
    have HN0 := Lib.hid hn0
    clear dy hny jy hn0
    by_cases hgo : u = [] ∨ 0 < Y
    · have e1 : ((Y : Int)).fdiv 10 = ((Y / 10 : Nat) : Int) := by rw [Int.fdiv_eq_ediv_of_nonneg _ (by decide)]; rfl
      have e2 : ((Y : Int)).fmod 10 = ((Y % 10 : Nat) : Int) := by rw [Int.fmod_eq_emod_of_nonneg _ (by decide)]; rfl
      obtain ⟨s4, p4, n4, c4, t0, t1, _, _, HVT⟩ := HT.out.ot.cells
      have hpt := Parts_is HVY.out HVT.out (Nat.lt_trans (by omega : (Y : Int).natAbs < 18446744073709551616 * 9223372036854775808) e9) (by decide +kernel) (by decide)
      rw [e1, e2] at hpt
      clear e1 e2
      have hcond : ((u.length : Int) == 0) = true ∨ ((u.length : Int) == 0) = false ∧ (0 : Int) < (n3 : Int) := by
        have := HN0.out
        by_cases h : u = []
        · left; rw [h]; rfl
        · right
          have h1 : 0 < u.length := List.length_pos_iff.2 h
          refine ⟨by simp; omega, ?_⟩
          rcases hgo with h2 | h2
          · exact absurd h2 h
          · omega
      have HGO := Lib.hid hgo
      clear hgo
      obtain ⟨us, hus⟩ : ∃ us : ByteArray, us = ⟨u.toArray⟩ := ⟨_, rfl⟩
      rw [← hus]
      have hsz : us.size = u.length := by rw [hus]; exact List.size_toArray
      rw [← hsz] at hcond
      have HUS := Lib.hid hus
      have HSZ := Lib.hid hsz
      clear hus hsz
      rcases hcond with hc | ⟨hc1, hc2⟩
      all_goals
        go_upto_region 7 with (go_at_call 28; refine hpt.mono ?_; clear hpt; rintro e wq ⟨s5, p5, n5, c5, s6, p6, n6, c6, rfl, HQ, HR, HB⟩)
        have H2 := Lib.hid (two_vars HQ.out HR.out)
        generalize hwn : World.alloc (World.alloc wq _) _ = wm
        have H3 : Hid (TX w wo.heap.size wp.heap.size wy.heap.size z (Y : Int) wm ∧ VarN wm wq.heap.size ((Y / 10 : Nat) : Int) ∧ VarN wm (wq.heap.size + 1) ((Y % 10 : Nat) : Int) ∧ wy.heap.size < wq.heap.size) := (show _ ∧ _ from by
          rw [← hwn]
          exact ⟨(HT.out.below HB.out).below H2.out.1, H2.out.2.1, H2.out.2.2, (HT.out.below HB.out).oy.lt⟩)
        clear hwn H2 HQ HR HB HVT HVY y0 y1 t0 t1 HT
        obtain ⟨s7, p7, n7, c7, r0, r1, _, _, HVR⟩ := H3.out.2.2.1.cells
        obtain ⟨lr, dr, hnr, jr⟩ := num_digits HVR.out
        have hdg : Calls Try.prog 33 #[.slice p7 n7 c7, .int .i64 0] wm fun e w' => e = .returned (.int .i64 ((Y % 10 : Nat) : Int)) ∧ w' = wm :=
          digit_is (i := 0) dr (Nat.le_trans (says_len jr (k := 1) (by omega)) (by omega)) (by omega) (show _ = _ from lone_digit jr (by omega))
        clear dr hnr jr
        obtain ⟨D, hD⟩ : ∃ D, D = Y % 10 := ⟨_, rfl⟩
        rw [← hD] at hdg
        have hD10 : D < 10 := by omega
        have HDD := Lib.hid hD
        have wd : IntKind.u8.wrap (48 + (D : Int)) = 48 + (D : Int) := IntWalk.u8_in _ (by omega)
        clear hD
        obtain ⟨bs, hbs⟩ : ∃ bs : ByteArray, bs = ⟨#[UInt8.ofNat (48 + D)]⟩ := ⟨_, rfl⟩
        have hob : ∀ w : World, (convert 55 9 (.slice (some ⟨w.heap.size, 0, none⟩) 1 1)).run Try.prog (w.alloc (.cells #[.int .u8 (48 + (D : Int))] 5)) = .ok (.string bs) (w.alloc (.cells #[.int .u8 (48 + (D : Int))] 5)) := fun w => by
          rw [hbs, one_byte w (48 + (D : Int))]
          rfl
        have hbsz : bs.size ≤ 1 := by rw [hbs]; exact Nat.le_refl _
        have husz : us.size ≤ 20 := by rw [HSZ.out]; exact hu
        have HBS := Lib.hid hbs
        clear hbs
        go_upto_region 8 with (go_at_call 33; refine hdg.mono ?_; clear hdg; rintro e w' ⟨rfl, rfl⟩)
        generalize hwz : World.alloc w' _ = wz
        have H4 : Hid (TX w wo.heap.size wp.heap.size wy.heap.size z (Y : Int) wz ∧ VarN wz wq.heap.size ((Y / 10 : Nat) : Int)) := (show _ ∧ _ from by
          rw [← hwz]
          exact ⟨H3.out.1.below (below_new w' _), H3.out.2.1.below (below_new w' _)⟩)
        clear hwz H3 r0 r1 HVR hob
        obtain ⟨s8, p8, n8, c8, y0, y1, _, _, HVQ⟩ := H4.out.2.cells
        obtain ⟨_, _, t0, t1, tf0, tf1⟩ := H4.out.1.oy.store
        obtain ⟨u2, hu2⟩ : ∃ u2, u2 = UInt8.ofNat (48 + D) :: u := ⟨_, rfl⟩
        have hcat : bs ++ us = ⟨u2.toArray⟩ := by rw [hu2, HBS.out, HUS.out]; exact cons_bytes _ _
        have HCAT := Lib.hid hcat
        have hnew : u2 ≠ [] ∧ (if Y / 10 = 0 then [] else Nu.dec (Y / 10)) ++ u2 = Nu.dec N := by
          refine ⟨by rw [hu2]; simp, ?_⟩
          rw [hu2, HDD.out]
          rcases Nat.eq_zero_or_pos Y with h | h
          · rcases HU.out with ⟨h1, h2⟩ | ⟨h1, h2⟩
            · rw [h1, ← h2, h, Nu.dec_small (by decide)]; rfl
            · rcases HGO.out with h3 | h3
              · exact absurd h3 h1
              · omega
          · rw [Nu.dec_snoc u h]
            rcases HU.out with ⟨h1, h2⟩ | ⟨h1, h2⟩
            · rw [h1, h2]; simp
            · rw [if_neg (by omega)] at h2
              exact h2
        have hlen : u2.length ≤ 20 := by
          have h1 := congrArg List.length hnew.2
          rw [List.length_append] at h1
          have := dec_le20 hNb
          omega
        have hlen2 : u2.length = u.length + 1 := by rw [hu2]; simp
        have HNEW := Lib.hid hnew
        have HL2 := Lib.hid hlen2
        clear hnew hu2 hcat hlen2
        go_wp2_with fail
        rw [HCAT.out]
        refine ⟨⟨Y / 10, u2, rfl, by omega, hlen, H4.out.1.sety HVQ.out, Or.inr HNEW.out⟩, ?_⟩
        have h1 := HL2.out
        have h2 := HSZ.out
        simp only [strLen]
        show 30 - u2.toArray.size < 30 - us.size
        simp only [List.size_toArray]
        omega
    · have hu0 : u ≠ [] := fun e => hgo (Or.inl e)
      have hY0 : Y = 0 := by omega
      subst hY0
      have hn3 : n3 = 0 := HN0.out.2 rfl
      subst hn3
      have hud : u = Nu.dec N := by
        rcases HU.out with ⟨h1, _⟩ | ⟨_, h2⟩
        · exact absurd h1 hu0
        · rw [if_pos rfl, List.nil_append] at h2
          exact h2
      obtain ⟨s1, p1, n1, c1, x0, x1, _, _, HVX⟩ := HT.out.ox.cells
      obtain ⟨lx, _, _, jx⟩ := num_digits HVX.out
      have hsx := jx.sign
      have hlen0 : 0 < u.length := List.length_pos_iff.2 hu0
      obtain ⟨us, hus⟩ : ∃ us : ByteArray, us = ⟨u.toArray⟩ := ⟨_, rfl⟩
      rw [← hus]
      have hsz : us.size = u.length := by rw [hus]; exact List.size_toArray
      have hsne : ((us.size : Int) == 0) = false := by rw [hsz]; simp; intro e; rw [e] at hlen0; simp at hlen0
      have husz : us.size ≤ 20 := by omega
      by_cases hz : z < 0
      · have hs1 : s1 = true := by rw [hsx]; exact decide_eq_true hz
        subst hs1
        have HR : Hid ((⟨#[45]⟩ : ByteArray) ++ us = ⟨t.toArray⟩) := (show _ = _ by
          rw [hus, cons_bytes, ← ht.out, Nu.text, if_pos hz, hud, HNN.out])
        have HTB := Lib.hid HT.out.bel
        clear hsx jx hgo hu0 hlen0 hus hsz hud HU HT hz HN0 HVY
        go_wp2_with fail
        go_ret
        refine ⟨?_, HTB.out⟩
        show Ending.returned (.string ((⟨#[45]⟩ : ByteArray) ++ us)) = _
        rw [HR.out]
      · have hs1 : s1 = false := by rw [hsx]; exact decide_eq_false hz
        subst hs1
        have HR : Hid (us = ⟨t.toArray⟩) := (show _ = _ by
          rw [hus, ← ht.out, Nu.text, if_neg hz, hud, HNN.out])
        have HTB := Lib.hid HT.out.bel
        clear hsx jx hgo hu0 hlen0 hus hsz hud HU HT hz HN0 HVY
        go_wp2_with fail
        go_ret
        refine ⟨?_, HTB.out⟩
        show Ending.returned (.string us) = _
        rw [HR.out]
end Go.Proofs.Ytaekjkihdecmcaa
