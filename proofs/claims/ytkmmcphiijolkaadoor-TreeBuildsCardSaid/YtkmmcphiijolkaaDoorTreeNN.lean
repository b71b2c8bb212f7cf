/-
  The law's builds, at this program.
-/
import Derived.Test.YtkmmcphiijolkaaDoorTreeMM
set_option linter.unusedVariables false
set_option linter.unusedSimpArgs false
namespace Go.Proofs.YtkmmcphiijolkaaDoor
open Go.RowKit Go.Shelf
open Tr

theorem apart_new {v u : Value} {g n c : Nat} {w : World} (hap : ∀ b, v.ownBlock = some b → u.ownBlock ≠ some b) (hg : some g = v.ownBlock ∨ w.heap.size ≤ g) (hu : ∀ b, u.ownBlock = some b → b < w.heap.size) :
    ∀ b, (Value.slice (some ⟨g, 0, none⟩) n c).ownBlock = some b → u.ownBlock ≠ some b := by
  intro b e e2
  simp only [Value.ownBlock, Option.some.injEq] at e
  subst e
  rcases hg with h | h
  · exact hap g h.symm e2
  · have := hu g e2; omega
theorem castL_snocI (l : List Nat) {y : Int} (hy : 0 ≤ y) : castL (l ++ [y.toNat]) = castL l ++ [y] := by
  simp [castL, Int.toNat_of_nonneg hy]

set_option maxHeartbeats 40000000 in
set_option maxRecDepth 100000 in
theorem builds_any (r : Bool) (lv : Value) (l : List NodeD) (w : World) (ha : ArgT lv l w) (hl : l.length ≤ 12) (hbd : ∀ x ∈ l, BndS x) :
    Calls Tryd.prog 11 #[lv, .bool r] w fun e w' => e = .returned (.bool true) ∧ Below w.heap.size w w' := by
  have HA := Lib.hid ha
  have HBD := Lib.hid hbd
  obtain ⟨pa, ca, rfl, _⟩ := ha
  obtain ⟨m, hm⟩ : ∃ m, m = l.length := ⟨_, rfl⟩
  have HM := Lib.hid hm
  obtain ⟨bB, hbB⟩ : ∃ bB, bB = w.heap.size := ⟨_, rfl⟩
  have HBB := Lib.hid hbB
  have hB0 : Bld bB bB (.slice none 0 0) [] (w.alloc (.cells #[.slice none 0 0] 52)) := by
    rw [hbB]
    exact ⟨heap_alloc_new w _, ⟨World.ownsRow_nil _ _ _ _, fun p h => by simp at h⟩, Nat.le_refl _, ⟨none, 0, rfl⟩⟩
  have htree0 := (Tree_any bB bB _ [] _ hB0 (by simp) (by simp) trivial).mono (R' := fun e W1 => ∃ p c, e = .returned (.slice p 0 c) ∧ Hid (Bld bB bB (.slice none 0 0) [] W1) ∧ Hid (Below bB w W1)) (by
    rintro e W1 ⟨v', P', rfl, hT, hP, hb⟩
    have hP0 : P'.length = 0 := by
      have := congrArg List.length hP
      rwa [List.length_map] at this
    obtain ⟨pv, cv, e, _⟩ := hT.argT
    rw [List.length_map, hP0] at e
    have hs : (w.alloc (.cells #[.slice none 0 0] 52)).heap.size = bB + 1 := by rw [hbB]; simp
    refine ⟨pv, cv, by rw [e], hB0.below hb, ?_⟩
    have h1 : Below bB w (w.alloc (.cells #[.slice none 0 0] 52)) := by rw [hbB]; exact (Below.refl _ _).alloc (Nat.le_refl _) _
    exact h1.trans (hb.mono (by omega)))
  rw [← hm] at hl ⊢
  clear hbd hm hB0
  go_enter Tryd.func11, Tryd.ntmps11
  rw [hbB] at htree0
  go_wp2_with (go_at_call 20; refine htree0.mono ?_; clear htree0; rintro e W1 ⟨p6, c6, rfl, HB1, HW1⟩)
  rw [← hbB]
  rw [← hbB] at HB1 HW1
  clear hbB
  go_loopw [7, 8] (fun v7 v8 wr => ∃ (i : Nat) (p7 : Option Addr) (c7 : Nat) (v : Value) (P Q : List (NodeD × Value)), v8 = .int .i64 (i : Int) ∧ v7 = .slice p7 i c7 ∧ i ≤ m ∧ Hid (Bld bB bB v P wr) ∧ Hid (TRow bB (.slice p7 i c7) Q wr) ∧
      Hid (P.map (·.1) = stepsT r 0 (l.take i)) ∧ Hid (Q.map (·.1) = stepsT r 0 (l.take i)) ∧ Hid (Sep bB v P (.slice p7 i c7) Q) ∧ Hid (Below bB w wr)) (fun _ v8 _ => m - (intOf v8).toNat)
  case atStart => exact ⟨0, none, 0, _, [], [], rfl, rfl, Nat.zero_le _, HB1, ⟨World.ownsRow_nil _ _ _ _, fun p h => by simp at h⟩, rfl, rfl, ⟨fun g e => by simp [Value.ownBlock] at e, fun p h => by simp at h, fun p h => by simp at h⟩, HW1⟩
  case round =>
    obtain ⟨i, p7, c7, v, P, Q, rfl, rfl, hi, HB, HT, HPM, HQM, HSEP, HW⟩ := hrel
    by_cases him : i < m
    · obtain ⟨x, hx⟩ : ∃ x, l[i]? = some x := ⟨_, List.getElem?_eq_getElem (by rw [← HM.out]; exact him)⟩
      have HX := Lib.hid hx
      obtain ⟨pa', ca', ea, hca⟩ := HA.out
      injection ea with ea1 ea2 ea3
      subst ea1
      obtain ⟨ga, oa, va, rfl, hga, a0, a1, a2, a3, a4, hak⟩ := hca i x hx
      have hbx := HBD.out x (List.mem_of_getElem? hx)
      obtain ⟨x0, x1, x2, x3, ks⟩ := x
      simp only at a0 a1 a2 a3 a4 hak
      obtain ⟨pk, ck, rfl, fk⟩ := hak
      obtain ⟨q, hq⟩ : ∃ q, q = ks.length := ⟨_, rfl⟩
      have hqm : q ≤ 9223372036854775807 := by rw [hq]; have := hbx.1; unfold maxLen at this; exact this
      rw [← hq] at a4
      obtain ⟨sx, hsx⟩ : ∃ sx : ByteArray, sx = ⟨x2.toArray⟩ := ⟨_, rfl⟩
      rw [← hsx] at a2
      have hw1 := HW.out
      have HCL : Hid (∀ w', Below bB w w' → w'.cell? ⟨ga, oa + i * 5, none⟩ = some (.int .i64 x0) ∧ w'.cell? ⟨ga, oa + i * 5 + 1, none⟩ = some (.int .i64 x1) ∧ w'.cell? ⟨ga, oa + i * 5 + 2, none⟩ = some (.string sx) ∧ w'.cell? ⟨ga, oa + i * 5 + 3, none⟩ = some (.int .i64 x3) ∧ w'.cell? ⟨ga, oa + i * 5 + 4, none⟩ = some (.slice pk q ck)) := fun w' h => by
        have hg : ga < bB := by have := HBB.out; omega
        exact ⟨(h.cell (p := ⟨ga, _, none⟩) hg).trans a0, (h.cell (p := ⟨ga, _, none⟩) hg).trans a1, (h.cell (p := ⟨ga, _, none⟩) hg).trans a2, (h.cell (p := ⟨ga, _, none⟩) hg).trans a3, (h.cell (p := ⟨ga, _, none⟩) hg).trans a4⟩
      have HFK := Lib.hid fk
      have HQ := Lib.hid hq
      have HSX := Lib.hid hsx
      have HBX := Lib.hid hbx
      have himi : (i : Int) < (m : Int) := by omega
      obtain ⟨z, hz⟩ : ∃ z, z = min 4 q := ⟨_, rfl⟩
      have HZ := Lib.hid hz
      have hz4 : z ≤ 4 := by omega
      have hzq : z ≤ q := by omega
      have HZL : Hid ((stepK r i ks).length = z) := (show _ = _ by rw [stepK_length, ← HQ.out, HZ.out])
      have hBs : bB ≤ wr.heap.size := by have := hw1.size; have := HBB.out; omega
      have HBS := Lib.hid hBs
      clear hca ea2 ea3 a0 a1 a2 a3 a4 fk hq hsx hbx hx hz hw1 hBs
      go_wp2_with fail
      obtain ⟨wo, hwo⟩ : ∃ wo, wo = wr := ⟨_, rfl⟩
      subst hwo
      go_loopw [9, 10, 11] (fun v9 v10 v11 wr => ∃ (k n : Nat) (p9 : Option Addr) (c9 : Nat) (p10 : Option Addr) (c10 : Nat), v11 = .int .i64 (k : Int) ∧ v9 = .slice p9 k c9 ∧ v10 = .slice p10 n c10 ∧ k ≤ z ∧ n ≤ k ∧ Hid (wr.ownsRow wo.heap.size 3 1 (.slice p9 k c9) k (((stepK r i ks).take k).map (Value.int .i64))) ∧ Hid (wr.ownsRow wo.heap.size 3 1 (.slice p10 n c10) n ((castL (kidsOf i ((stepK r i ks).take k))).map (Value.int .i64))) ∧
          Hid (∀ g, (Value.slice p9 k c9).ownBlock = some g → (Value.slice p10 n c10).ownBlock ≠ some g) ∧ Hid (Below wo.heap.size wo wr)) (fun _ _ v11 _ => z - (intOf v11).toNat)
      case atStart => exact ⟨0, 0, none, 0, none, 0, rfl, rfl, rfl, Nat.zero_le _, Nat.le_refl _, World.ownsRow_nil _ _ _ _, World.ownsRow_nil _ _ _ _, fun g e => by simp [Value.ownBlock] at e, Below.refl _ _⟩
      case round =>
        obtain ⟨k, n, p9, c9, p10, c10, rfl, rfl, rfl, hk, hn, HK, HMI, HAP, HR⟩ := hrel
        have hwr : Below bB w wr := HW.out.trans (HR.out.mono HBS.out)
        obtain ⟨d0, d1, d2, d3, d4⟩ := HCL.out wr hwr
        have HWR := Lib.hid hwr
        have hbs : wo.heap.size ≤ wr.heap.size := HR.out.size
        by_cases hkz : k < z
        · obtain ⟨nn, hnn⟩ : ∃ nn, ks[k]? = some nn := ⟨_, List.getElem?_eq_getElem (by rw [← HQ.out]; omega)⟩
          obtain ⟨gj, oj, rfl, hgj, kc⟩ := HFK.out.1 k nn hnn
          have kc2 := (hwr.cell (p := ⟨gj, oj + k, none⟩) (by have := HBB.out; show gj < bB; omega)).trans kc
          have hkq : (k : Int) < (q : Int) := by omega
          have hk4 : (k : Int) < 4 := by omega
          have hwf := HBX.out.2 nn (List.mem_of_getElem? hnn)
          have hrest := rest_any nn ((i : Int) + 2) wr (by omega) (by omega) hwf
          have hsk := stepK_get r i ks k nn (by omega) hnn
          obtain ⟨rm, hrm⟩ : ∃ rm, rm = nn % ((i : Int) + 2) := ⟨_, rfl⟩
          have hr0 : 0 ≤ rm := by rw [hrm]; exact Int.emod_nonneg _ (by omega)
          have hr1 : rm < (i : Int) + 2 := by rw [hrm]; exact Int.emod_lt_of_pos _ (by omega)
          have hrw : IntKind.i64.wrap (rm - 1) = rm - 1 := IntWalk.i64_in _ (by omega)
          have hiw : IntKind.i64.wrap ((i : Int) + 2) = (i : Int) + 2 := IntWalk.i64_in _ (by omega)
          rw [← hrm] at hrest hsk
          obtain ⟨y, hy⟩ : ∃ y, y = (if r then rm - 1 else nn) := ⟨_, rfl⟩
          rw [← hy] at hsk
          have hts := take_snoc _ _ _ hsk
          have htk := kidsOf_take i (stepK r i ks) k y hsk
          have HTS := Lib.hid hts
          have HTK := Lib.hid htk
          clear hsk hts htk hrm hwf hnn kc hwr
          have HHY := Lib.hid hy
          by_cases hin : 0 ≤ y ∧ y < (i : Int)
          · have HIN := Lib.hid hin
            obtain ⟨hin0, hin1⟩ := hin
            have htk2 := HTK.out
            rw [if_pos HIN.out] at htk2
            have HTK2 := Lib.hid htk2
            clear htk2 HTK
            cases r with
            | false =>
              have hyn : y = nn := by simpa using hy
              subst hyn
              clear hy hrest
              go_wp2_with (first
                | (at_builtin; refine wpList_iapp rfl _ _ rfl wo.heap.size k _ _ wr HK.out hbs y rfl (by rfl) (by omega) ?_; intro g5 c5 w5 HK5 HB5 HG5; have HM5 := Lib.hid (own_but HMI.out HB5.out (fun g e e2 => HAP.out g e2 e)); have hbs5 : wo.heap.size ≤ w5.heap.size := Nat.le_trans hbs HB5.out.size)
                | (at_builtin; refine wpList_iapp rfl _ _ rfl wo.heap.size n _ _ w5 HM5.out hbs5 y rfl (by rfl) (by omega) ?_; intro g6 c6 w6 HM6 HB6 HG6))
              have hap5 := apart_new (n := k + 1) (c := c5) HAP.out HG5.out.2 (fun b e => (HMI.out.lt b e).2)
              have hap6 := apart_new (n := n + 1) (c := c6) (fun b e e2 => hap5 b e2 e) HG6.out.2 (fun b e => (HK5.out.lt b e).2)
              refine ⟨⟨k + 1, n + 1, _, c5, _, c6, rfl, rfl, rfl, by omega, by omega, ?_, ?_, fun b e e2 => hap6 b e2 e, ?_⟩, by simp [intOf]; omega⟩
              · show World.ownsRow _ _ _ _ _ _ _
                rw [HTS.out]
                exact own_but HK5.out HB6.out (fun g e e2 => hap5 g e e2)
              · show World.ownsRow _ _ _ _ _ _ _
                rw [HTK2.out, castL_snocI _ hin0]
                exact HM6.out
              · show Below _ _ _
                exact (HR.out.trans (HB5.out.below hbs (fun b hb e => by have := (HK.out.lt b e).1; omega))).trans (HB6.out.below hbs5 (fun b hb e => by have := (HM5.out.lt b e).1; omega))
            | true =>
              have hyn : y = rm - 1 := by simpa using hy
              subst hyn
              clear hy
              go_wp2_with (first
                | (go_at_call 9; refine hrest.mono ?_; clear hrest; rintro e w' ⟨rfl, rfl⟩)
                | (at_builtin; refine wpList_iapp rfl _ _ rfl wo.heap.size k _ _ wr HK.out hbs (rm - 1) rfl (by rfl) (by omega) ?_; intro g5 c5 w5 HK5 HB5 HG5; have HM5 := Lib.hid (own_but HMI.out HB5.out (fun g e e2 => HAP.out g e2 e)); have hbs5 : wo.heap.size ≤ w5.heap.size := Nat.le_trans hbs HB5.out.size)
                | (at_builtin; refine wpList_iapp rfl _ _ rfl wo.heap.size n _ _ w5 HM5.out hbs5 (rm - 1) rfl (by rfl) (by omega) ?_; intro g6 c6 w6 HM6 HB6 HG6))
              have hap5 := apart_new (n := k + 1) (c := c5) HAP.out HG5.out.2 (fun b e => (HMI.out.lt b e).2)
              have hap6 := apart_new (n := n + 1) (c := c6) (fun b e e2 => hap5 b e2 e) HG6.out.2 (fun b e => (HK5.out.lt b e).2)
              refine ⟨⟨k + 1, n + 1, _, c5, _, c6, rfl, rfl, rfl, by omega, by omega, ?_, ?_, fun b e e2 => hap6 b e2 e, ?_⟩, by simp [intOf]; omega⟩
              · show World.ownsRow _ _ _ _ _ _ _
                rw [HTS.out]
                exact own_but HK5.out HB6.out (fun g e e2 => hap5 g e e2)
              · show World.ownsRow _ _ _ _ _ _ _
                rw [HTK2.out, castL_snocI _ hin0]
                exact HM6.out
              · show Below _ _ _
                exact (HR.out.trans (HB5.out.below hbs (fun b hb e => by have := (HK.out.lt b e).1; omega))).trans (HB6.out.below hbs5 (fun b hb e => by have := (HM5.out.lt b e).1; omega))
          · have htk2 := HTK.out
            rw [if_neg hin, List.append_nil] at htk2
            have HTK2 := Lib.hid htk2
            have hcase : ¬ 0 ≤ y ∨ (0 ≤ y ∧ ¬ y < (i : Int)) := by omega
            clear htk2 HTK hin
            rcases hcase with h0 | ⟨h0, h1⟩
            · cases r with
              | false =>
                have hyn : y = nn := by simpa using hy
                subst hyn
                clear hy hrest
                go_wp2_with (first
                  | (at_builtin; refine wpList_iapp rfl _ _ rfl wo.heap.size k _ _ wr HK.out hbs y rfl (by rfl) (by omega) ?_; intro g5 c5 w5 HK5 HB5 HG5; have HM5 := Lib.hid (own_but HMI.out HB5.out (fun g e e2 => HAP.out g e2 e))))
                refine ⟨⟨k + 1, n, _, c5, _, c10, rfl, rfl, rfl, by omega, by omega, ?_, ?_, apart_new HAP.out HG5.out.2 (fun b e => (HMI.out.lt b e).2), ?_⟩, by simp [intOf]; omega⟩
                · show World.ownsRow _ _ _ _ _ _ _
                  rw [HTS.out]
                  exact HK5.out
                · show World.ownsRow _ _ _ _ _ _ _
                  rw [HTK2.out]
                  exact HM5.out
                · show Below _ _ _
                  exact HR.out.trans (HB5.out.below hbs (fun b hb e => by have := (HK.out.lt b e).1; omega))
              | true =>
                have hyn : y = rm - 1 := by simpa using hy
                subst hyn
                clear hy
                go_wp2_with (first
                  | (go_at_call 9; refine hrest.mono ?_; clear hrest; rintro e w' ⟨rfl, rfl⟩)
                  | (at_builtin; refine wpList_iapp rfl _ _ rfl wo.heap.size k _ _ wr HK.out hbs (rm - 1) rfl (by rfl) (by omega) ?_; intro g5 c5 w5 HK5 HB5 HG5; have HM5 := Lib.hid (own_but HMI.out HB5.out (fun g e e2 => HAP.out g e2 e))))
                refine ⟨⟨k + 1, n, _, c5, _, c10, rfl, rfl, rfl, by omega, by omega, ?_, ?_, apart_new HAP.out HG5.out.2 (fun b e => (HMI.out.lt b e).2), ?_⟩, by simp [intOf]; omega⟩
                · show World.ownsRow _ _ _ _ _ _ _
                  rw [HTS.out]
                  exact HK5.out
                · show World.ownsRow _ _ _ _ _ _ _
                  rw [HTK2.out]
                  exact HM5.out
                · show Below _ _ _
                  exact HR.out.trans (HB5.out.below hbs (fun b hb e => by have := (HK.out.lt b e).1; omega))
            · cases r with
              | false =>
                have hyn : y = nn := by simpa using hy
                subst hyn
                clear hy hrest
                go_wp2_with (first
                  | (at_builtin; refine wpList_iapp rfl _ _ rfl wo.heap.size k _ _ wr HK.out hbs y rfl (by rfl) (by omega) ?_; intro g5 c5 w5 HK5 HB5 HG5; have HM5 := Lib.hid (own_but HMI.out HB5.out (fun g e e2 => HAP.out g e2 e))))
                refine ⟨⟨k + 1, n, _, c5, _, c10, rfl, rfl, rfl, by omega, by omega, ?_, ?_, apart_new HAP.out HG5.out.2 (fun b e => (HMI.out.lt b e).2), ?_⟩, by simp [intOf]; omega⟩
                · show World.ownsRow _ _ _ _ _ _ _
                  rw [HTS.out]
                  exact HK5.out
                · show World.ownsRow _ _ _ _ _ _ _
                  rw [HTK2.out]
                  exact HM5.out
                · show Below _ _ _
                  exact HR.out.trans (HB5.out.below hbs (fun b hb e => by have := (HK.out.lt b e).1; omega))
              | true =>
                have hyn : y = rm - 1 := by simpa using hy
                subst hyn
                clear hy
                go_wp2_with (first
                  | (go_at_call 9; refine hrest.mono ?_; clear hrest; rintro e w' ⟨rfl, rfl⟩)
                  | (at_builtin; refine wpList_iapp rfl _ _ rfl wo.heap.size k _ _ wr HK.out hbs (rm - 1) rfl (by rfl) (by omega) ?_; intro g5 c5 w5 HK5 HB5 HG5; have HM5 := Lib.hid (own_but HMI.out HB5.out (fun g e e2 => HAP.out g e2 e))))
                refine ⟨⟨k + 1, n, _, c5, _, c10, rfl, rfl, rfl, by omega, by omega, ?_, ?_, apart_new HAP.out HG5.out.2 (fun b e => (HMI.out.lt b e).2), ?_⟩, by simp [intOf]; omega⟩
                · show World.ownsRow _ _ _ _ _ _ _
                  rw [HTS.out]
                  exact HK5.out
                · show World.ownsRow _ _ _ _ _ _ _
                  rw [HTK2.out]
                  exact HM5.out
                · show Below _ _ _
                  exact HR.out.trans (HB5.out.below hbs (fun b hb e => by have := (HK.out.lt b e).1; omega))
        · obtain rfl : k = z := by omega
          have hPL : P.length = i := by
            have := congrArg List.length HPM.out
            rw [List.length_map, stepsT_length, List.length_take] at this
            have := HM.out
            omega
          have hQL : Q.length = i := by
            have := congrArg List.length HQM.out
            rw [List.length_map, stepsT_length, List.length_take] at this
            have := HM.out
            omega
          have hKK := HK.out
          have hMI := HMI.out
          rw [List.take_of_length_le (Nat.le_of_eq HZL.out)] at hKK hMI
          have hbo : bB < wo.heap.size := (Array.getElem?_eq_some_iff.1 HB.out.blk).1
          have hvo : ∀ g, v.ownBlock = some g → bB ≤ g ∧ g < wo.heap.size := fun g e => HB.out.row.1.lt g e
          have huo : ∀ g, (Value.slice p7 i c7).ownBlock = some g → bB ≤ g ∧ g < wo.heap.size := fun g e => HT.out.1.lt g e
          have hgab : ga < bB := by have := HBB.out; omega
          have hbr : Bld bB bB v P wr.drew := (HB.out.below HR.out).below (Below.refl _ _).drew
          have hkr : KRow (.slice p9 k c9) (stepK r i ks) wr.drew := (own_krowI hKK).below (Below.refl _ _).drew
          have hadd := (Add_any bB bB v P wr.drew hbr (by show bB ≤ wr.heap.size; omega) x0 x1 x3 sx (.slice p9 k c9) (stepK r i ks) hkr (by rw [HZL.out]; omega) (by omega)).mono (R' := fun e W5 => ∃ v' vk, e = .returned (.int .i64 (i : Int)) ∧ W5.cell? ⟨ga, oa + i * 5, none⟩ = some (.int .i64 x0) ∧ W5.cell? ⟨ga, oa + i * 5 + 1, none⟩ = some (.int .i64 x1) ∧ W5.cell? ⟨ga, oa + i * 5 + 2, none⟩ = some (.string sx) ∧ W5.cell? ⟨ga, oa + i * 5 + 3, none⟩ = some (.int .i64 x3) ∧
              Hid (Bld bB bB v' (P ++ [(stepN r i (x0, x1, x2, x3, ks), vk)]) W5) ∧ Hid (But (fun k => k = bB ∨ v.ownBlock = some k) wr W5) ∧ Hid (v'.ownBlock = v.ownBlock ∨ ∃ g, v'.ownBlock = some g ∧ wr.heap.size ≤ g) ∧ Hid (∀ g, vk.ownBlock = some g → wr.heap.size ≤ g)) (by
            rintro e W5 ⟨rfl, v', vk, hB', hC, hloc, hfr⟩
            have hcell : ∀ o, W5.cell? ⟨ga, o, none⟩ = wr.cell? ⟨ga, o, none⟩ := fun o => World.cell?_of_block (a := ⟨ga, o, none⟩) (show W5.heap[ga]? = wr.heap[ga]? from (hC.both ga (by show ga < wr.heap.size; omega) (fun h => h.elim (fun h => by omega) (fun h => by have := hvo ga h; omega))).1)
            refine ⟨v', vk, by rw [hPL], by rw [hcell]; exact d0, by rw [hcell]; exact d1, by rw [hcell]; exact d2, by rw [hcell]; exact d3, ?_, ?_, hloc, hfr⟩
            · show Bld _ _ _ _ _
              have hsx := HSX.out
              subst hsx
              rw [hPL] at hB'
              exact hB'
            · exact ⟨hC.os, hC.tape, hC.output, hC.size, hC.both⟩)
          have HPL := Lib.hid hPL
          have HQL := Lib.hid hQL
          have HKK := Lib.hid hKK
          have HMM := Lib.hid hMI
          have HBO := Lib.hid hbo
          have HVO := Lib.hid hvo
          have HUO := Lib.hid huo
          have HGA := Lib.hid hgab
          have hcase : (k < q ∧ k = 4) ∨ k = q := by have := HZ.out; omega
          clear hPL hQL hKK hMI hbo hvo huo hgab hbr hkr HK HMI
          rcases hcase with ⟨hkq, h4⟩ | hkq
          · have hkq2 : (k : Int) < (q : Int) := by omega
            have hk4 : ¬ (k : Int) < 4 := by omega
            clear hkq h4 hkz
            go_wp2_with fail
            go_region_held3 (fun w' => w'.cell? ⟨ga, oa + i * 5, none⟩ = some (.int .i64 x0) ∧ w'.cell? ⟨ga, oa + i * 5 + 1, none⟩ = some (.int .i64 x1) ∧ w'.cell? ⟨ga, oa + i * 5 + 2, none⟩ = some (.string sx) ∧ w'.cell? ⟨ga, oa + i * 5 + 3, none⟩ = some (.int .i64 x3)) (go_keep)
              ((first | (go_at_call 21; refine hadd.mono ?_; clear hadd; rintro e w5 ⟨v', vk, rfl, k0, k1, k2, k3, HB5, HC5, HL5, HF5⟩)))
            have hTw : TRow bB (.slice p7 i c7) Q wr := HT.out.below HR.out
            have hBw : Bld bB bB v P wr := HB.out.below HR.out
            have hT5 : TRow bB (.slice p7 i c7) Q w5 := hTw.but2 HC5.out (fun g e h => h.elim (fun h => (HSEP.out.s1 g e).1 h) (fun h => (HSEP.out.s1 g e).2 h)) (fun q hq hne g e h => h.elim (fun h => (HSEP.out.s3 q hq hne g e).1 h) (fun h => (HSEP.out.s3 q hq hne g e).2 h))
            have hmu : ∀ g, (Value.slice p10 n c10).ownBlock = some g → g ≠ bB ∧ v.ownBlock ≠ some g ∧ g < wr.heap.size := fun g e => by
              have h1 := HMM.out.lt g e
              exact ⟨by have := HBO.out; omega, fun h => by (have := HVO.out g h; omega), h1.2⟩
            have hX5 : KRowX (Value.slice p7 i c7).ownBlock (.slice p10 n c10) (castL (kidsOf i (stepK r i ks))) w5 :=
              ⟨own_krowI (own_but HMM.out HC5.out (fun g e h => h.elim (fun h => (hmu g e).1 h) (fun h => (hmu g e).2.1 h))), fun _ g e e2 => by have h1 := (HMM.out.lt g e).1; have h2 := HUO.out g e2; omega⟩
            have HS : Hid (∀ w', Below w5.heap.size w5 w' → w'.cell? ⟨ga, oa + i * 5, none⟩ = some (.int .i64 x0) ∧ w'.cell? ⟨ga, oa + i * 5 + 1, none⟩ = some (.int .i64 x1) ∧ w'.cell? ⟨ga, oa + i * 5 + 2, none⟩ = some (.string sx) ∧ w'.cell? ⟨ga, oa + i * 5 + 3, none⟩ = some (.int .i64 x3)) := fun w' h => by
              have hg : ga < w5.heap.size := by have := HGA.out; have := HBO.out; have := HC5.out.size; omega
              exact ⟨(h.cell (p := ⟨ga, _, none⟩) hg).trans k0, (h.cell (p := ⟨ga, _, none⟩) hg).trans k1, (h.cell (p := ⟨ga, _, none⟩) hg).trans k2, (h.cell (p := ⟨ga, _, none⟩) hg).trans k3⟩
            have HSB : Hid (∀ w', But (fun k => (Value.slice p7 i c7).ownBlock = some k) w5 w' → w'.cell? ⟨ga, oa + i * 5, none⟩ = some (.int .i64 x0) ∧ w'.cell? ⟨ga, oa + i * 5 + 1, none⟩ = some (.int .i64 x1) ∧ w'.cell? ⟨ga, oa + i * 5 + 2, none⟩ = some (.string sx) ∧ w'.cell? ⟨ga, oa + i * 5 + 3, none⟩ = some (.int .i64 x3)) := fun w' h => by
              have hg : ga < w5.heap.size := by have := HGA.out; have := HBO.out; have := HC5.out.size; omega
              have hc : ∀ o, w'.cell? ⟨ga, o, none⟩ = w5.cell? ⟨ga, o, none⟩ := fun o => World.cell?_of_block (a := ⟨ga, o, none⟩) (show w'.heap[ga]? = w5.heap[ga]? from (h.both ga hg (fun e => by have := (HUO.out ga e).1; have := HGA.out; omega)).1)
              exact ⟨(hc _).trans k0, (hc _).trans k1, (hc _).trans k2, (hc _).trans k3⟩
            have hb5 : bB ≤ w5.heap.size := by have := HBO.out; have := HC5.out.size; omega
            have HT5 := Lib.hid hT5
            have HTW := Lib.hid hTw
            have HBW := Lib.hid hBw
            have HMU := Lib.hid hmu
            have HX5 := Lib.hid hX5
            clear hTw hBw hT5 hmu hX5
            go_wp2_with fail
            go_region_held3 (fun w' => w'.cell? ⟨ga, oa + i * 5, none⟩ = some (.int .i64 x0) ∧ w'.cell? ⟨ga, oa + i * 5 + 1, none⟩ = some (.int .i64 x1) ∧ w'.cell? ⟨ga, oa + i * 5 + 2, none⟩ = some (.string sx) ∧ w'.cell? ⟨ga, oa + i * 5 + 3, none⟩ = some (.int .i64 x3))
              (first | go_keep | exact HS.out _ ((Below.refl _ _).alloc (Nat.le_refl _) _) | exact HS.out _ (((Below.refl _ _).alloc (Nat.le_refl _) _).drew) | exact HS.out _ ((Below.refl _ _).drew.alloc (Nat.le_refl _) _) | exact HSB.out _ HB9.out)
              ((first | (refine step_tapp (by rfl) _ _ (by rfl) bB _ Q w5 HT5.out hb5 _ (by first | exact (Below.refl _ _).alloc (Nat.le_refl _) _ | exact ((Below.refl _ _).alloc (Nat.le_refl _) _).drew | exact (Below.refl _ _).drew.alloc (Nat.le_refl _) _) (by simp) [((x0, x1, x2, x3, castL (kidsOf i (stepK r i ks))), .slice p10 n c10)] i 1 HQL.out rfl (by decide) _ (heap_alloc_new _ _) (by simp [flatT, flatN, HSX.out]) (by rfl) (by rfl) (by intro q hq; simp only [List.mem_cons, List.not_mem_nil, or_false] at hq; subst hq; exact HX5.out) (by omega) ?_; intro g9 c9' w9 HT9 HL9 HB9 HG9)))
            obtain ⟨hB9, hS9, hbel9⟩ := step_all (i := i) (c9 := c9') HBW.out HTW.out HSEP.out HB5.out HC5.out HL5.out HF5.out HMU.out HB9.out HG9.out
            have hbel : Below bB w w9 := (HW.out.trans (HR.out.mono HBS.out)).trans hbel9
            have HB9' := Lib.hid hB9
            have HS9 := Lib.hid hS9
            have HBEL := Lib.hid hbel
            clear hB9 hS9 hbel9 hbel k0 k1 k2 k3 d0 d1 d2 d3 d4
            go_wp2_with fail
            refine ⟨⟨i + 1, _, c9', v', _, _, rfl, rfl, by omega, HB9', HT9, ?_, ?_, HS9, HBEL⟩, by simp [intOf]; omega⟩
            · show _ = _
              rw [stepsT_take r l i _ HX.out, ← HPM.out]; simp
            · show _ = _
              rw [stepsT_take r l i _ HX.out, ← HQM.out]; simp [stepN]
          · have hkq2 : ¬ (k : Int) < (q : Int) := by omega
            clear hkq hkz
            go_wp2_with fail
            go_region_held3 (fun w' => w'.cell? ⟨ga, oa + i * 5, none⟩ = some (.int .i64 x0) ∧ w'.cell? ⟨ga, oa + i * 5 + 1, none⟩ = some (.int .i64 x1) ∧ w'.cell? ⟨ga, oa + i * 5 + 2, none⟩ = some (.string sx) ∧ w'.cell? ⟨ga, oa + i * 5 + 3, none⟩ = some (.int .i64 x3)) (go_keep)
              ((first | (go_at_call 21; refine hadd.mono ?_; clear hadd; rintro e w5 ⟨v', vk, rfl, k0, k1, k2, k3, HB5, HC5, HL5, HF5⟩)))
            have hTw : TRow bB (.slice p7 i c7) Q wr := HT.out.below HR.out
            have hBw : Bld bB bB v P wr := HB.out.below HR.out
            have hT5 : TRow bB (.slice p7 i c7) Q w5 := hTw.but2 HC5.out (fun g e h => h.elim (fun h => (HSEP.out.s1 g e).1 h) (fun h => (HSEP.out.s1 g e).2 h)) (fun q hq hne g e h => h.elim (fun h => (HSEP.out.s3 q hq hne g e).1 h) (fun h => (HSEP.out.s3 q hq hne g e).2 h))
            have hmu : ∀ g, (Value.slice p10 n c10).ownBlock = some g → g ≠ bB ∧ v.ownBlock ≠ some g ∧ g < wr.heap.size := fun g e => by
              have h1 := HMM.out.lt g e
              exact ⟨by have := HBO.out; omega, fun h => by (have := HVO.out g h; omega), h1.2⟩
            have hX5 : KRowX (Value.slice p7 i c7).ownBlock (.slice p10 n c10) (castL (kidsOf i (stepK r i ks))) w5 :=
              ⟨own_krowI (own_but HMM.out HC5.out (fun g e h => h.elim (fun h => (hmu g e).1 h) (fun h => (hmu g e).2.1 h))), fun _ g e e2 => by have h1 := (HMM.out.lt g e).1; have h2 := HUO.out g e2; omega⟩
            have HS : Hid (∀ w', Below w5.heap.size w5 w' → w'.cell? ⟨ga, oa + i * 5, none⟩ = some (.int .i64 x0) ∧ w'.cell? ⟨ga, oa + i * 5 + 1, none⟩ = some (.int .i64 x1) ∧ w'.cell? ⟨ga, oa + i * 5 + 2, none⟩ = some (.string sx) ∧ w'.cell? ⟨ga, oa + i * 5 + 3, none⟩ = some (.int .i64 x3)) := fun w' h => by
              have hg : ga < w5.heap.size := by have := HGA.out; have := HBO.out; have := HC5.out.size; omega
              exact ⟨(h.cell (p := ⟨ga, _, none⟩) hg).trans k0, (h.cell (p := ⟨ga, _, none⟩) hg).trans k1, (h.cell (p := ⟨ga, _, none⟩) hg).trans k2, (h.cell (p := ⟨ga, _, none⟩) hg).trans k3⟩
            have HSB : Hid (∀ w', But (fun k => (Value.slice p7 i c7).ownBlock = some k) w5 w' → w'.cell? ⟨ga, oa + i * 5, none⟩ = some (.int .i64 x0) ∧ w'.cell? ⟨ga, oa + i * 5 + 1, none⟩ = some (.int .i64 x1) ∧ w'.cell? ⟨ga, oa + i * 5 + 2, none⟩ = some (.string sx) ∧ w'.cell? ⟨ga, oa + i * 5 + 3, none⟩ = some (.int .i64 x3)) := fun w' h => by
              have hg : ga < w5.heap.size := by have := HGA.out; have := HBO.out; have := HC5.out.size; omega
              have hc : ∀ o, w'.cell? ⟨ga, o, none⟩ = w5.cell? ⟨ga, o, none⟩ := fun o => World.cell?_of_block (a := ⟨ga, o, none⟩) (show w'.heap[ga]? = w5.heap[ga]? from (h.both ga hg (fun e => by have := (HUO.out ga e).1; have := HGA.out; omega)).1)
              exact ⟨(hc _).trans k0, (hc _).trans k1, (hc _).trans k2, (hc _).trans k3⟩
            have hb5 : bB ≤ w5.heap.size := by have := HBO.out; have := HC5.out.size; omega
            have HT5 := Lib.hid hT5
            have HTW := Lib.hid hTw
            have HBW := Lib.hid hBw
            have HMU := Lib.hid hmu
            have HX5 := Lib.hid hX5
            clear hTw hBw hT5 hmu hX5
            go_wp2_with fail
            go_region_held3 (fun w' => w'.cell? ⟨ga, oa + i * 5, none⟩ = some (.int .i64 x0) ∧ w'.cell? ⟨ga, oa + i * 5 + 1, none⟩ = some (.int .i64 x1) ∧ w'.cell? ⟨ga, oa + i * 5 + 2, none⟩ = some (.string sx) ∧ w'.cell? ⟨ga, oa + i * 5 + 3, none⟩ = some (.int .i64 x3))
              (first | go_keep | exact HS.out _ ((Below.refl _ _).alloc (Nat.le_refl _) _) | exact HS.out _ (((Below.refl _ _).alloc (Nat.le_refl _) _).drew) | exact HS.out _ ((Below.refl _ _).drew.alloc (Nat.le_refl _) _) | exact HSB.out _ HB9.out)
              ((first | (refine step_tapp (by rfl) _ _ (by rfl) bB _ Q w5 HT5.out hb5 _ (by first | exact (Below.refl _ _).alloc (Nat.le_refl _) _ | exact ((Below.refl _ _).alloc (Nat.le_refl _) _).drew | exact (Below.refl _ _).drew.alloc (Nat.le_refl _) _) (by simp) [((x0, x1, x2, x3, castL (kidsOf i (stepK r i ks))), .slice p10 n c10)] i 1 HQL.out rfl (by decide) _ (heap_alloc_new _ _) (by simp [flatT, flatN, HSX.out]) (by rfl) (by rfl) (by intro q hq; simp only [List.mem_cons, List.not_mem_nil, or_false] at hq; subst hq; exact HX5.out) (by omega) ?_; intro g9 c9' w9 HT9 HL9 HB9 HG9)))
            obtain ⟨hB9, hS9, hbel9⟩ := step_all (i := i) (c9 := c9') HBW.out HTW.out HSEP.out HB5.out HC5.out HL5.out HF5.out HMU.out HB9.out HG9.out
            have hbel : Below bB w w9 := (HW.out.trans (HR.out.mono HBS.out)).trans hbel9
            have HB9' := Lib.hid hB9
            have HS9 := Lib.hid hS9
            have HBEL := Lib.hid hbel
            clear hB9 hS9 hbel9 hbel k0 k1 k2 k3 d0 d1 d2 d3 d4
            go_wp2_with fail
            refine ⟨⟨i + 1, _, c9', v', _, _, rfl, rfl, by omega, HB9', HT9, ?_, ?_, HS9, HBEL⟩, by simp [intOf]; omega⟩
            · show _ = _
              rw [stepsT_take r l i _ HX.out, ← HPM.out]; simp
            · show _ = _
              rw [stepsT_take r l i _ HX.out, ← HQM.out]; simp [stepN]
    · obtain rfl : i = m := by omega
      have htk : l.take i = l := List.take_of_length_le (by rw [← HM.out]; exact Nat.le_refl _)
      have hPM := HPM.out
      have hQM := HQM.out
      rw [htk] at hPM hQM
      have htl : (stepsT r 0 l).length = i := by rw [stepsT_length, HM.out]
      have hPl : P.length ≤ 1000000 := by
        have := congrArg List.length hPM
        rw [List.length_map, htl] at this
        omega
      have hBs : bB ≤ wr.heap.size := by have := HW.out.size; have := HBB.out; omega
      have HTR : Hid (∀ W, Below wr.heap.size wr W → Calls Tryd.prog 20 #[.pointer (some ⟨bB, 0, none⟩)] W fun e W' => ∃ vt, e = .returned vt ∧ Hid (ArgT vt (treeT (stepsT r 0 l)) W') ∧ Below W.heap.size W W') := fun W hW =>
        (Tree_any bB bB v P W (HB.out.below hW) hPl (fun p hp => by
          have := stepsT_few r 0 l p.1 (by rw [← hPM]; exact List.mem_map_of_mem hp)
          omega) (by rw [hPM]; exact stepsT_kids r 0 l)).mono (by
          rintro e W' ⟨v', P', rfl, hT, hP, hb⟩
          refine ⟨v', rfl, ?_, hb⟩
          show ArgT _ _ _
          rw [← hPM, ← hP]
          exact hT.argT)
      have HTO : Hid (∀ W vt, Below wr.heap.size wr W → ArgT vt (treeT (stepsT r 0 l)) W → Calls Tryd.prog 22 #[vt, .slice p7 i c7] W fun e W' => e = .returned (.bool true) ∧ Below W.heap.size W W') := fun W vt hW hA =>
        told_any vt _ (stepsT r 0 l) W hA (by
          have := HT.out.argT
          rw [hQM] at this
          exact this.below hW) (by rw [htl]; omega) (fun x hx => by have := stepsT_few r 0 l x hx; omega) (stepsT_kids r 0 l)
      have htr := HTR.out wr (Below.refl _ _)
      have HBS := Lib.hid hBs
      clear htk hPM hQM htl hPl hBs HT HB HSEP HPM HQM
      go_wp2_with (first
        | (go_at_call 20; refine htr.mono ?_; clear htr; rintro e W1 ⟨vt, rfl, HA1, hb1⟩; have hto := HTO.out W1 vt hb1 HA1.out)
        | (go_at_call 22; refine hto.mono ?_; clear hto; rintro e W2 ⟨rfl, hb2⟩; have hb12 := hb1.trans (hb2.mono hb1.size); have htr2 := HTR.out W2 hb12)
        | (go_at_call 20; refine htr2.mono ?_; clear htr2; rintro e W3 ⟨vt3, rfl, HA3, hb3⟩; have hb13 := hb12.trans (hb3.mono hb12.size); have hto2 := HTO.out W3 vt3 hb13 HA3.out)
        | (go_at_call 22; refine hto2.mono ?_; clear hto2; rintro e W4 ⟨rfl, hb4⟩))
      go_ret
      exact ⟨rfl, by rw [← HBB.out]; exact HW.out.trans ((hb13.trans (hb4.mono hb13.size)).mono HBS.out)⟩
end Go.Proofs.YtkmmcphiijolkaaDoor
