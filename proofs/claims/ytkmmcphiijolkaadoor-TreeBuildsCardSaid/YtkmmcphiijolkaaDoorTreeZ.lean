/-
  Whether a tree is right, at this program.
-/
import Derived.Test.YtkmmcphiijolkaaDoorTreeX
import Derived.Test.YtkmmcphiijolkaaDoorTreeB
set_option linter.unusedVariables false
set_option linter.unusedSimpArgs false
namespace Go.Proofs.YtkmmcphiijolkaaDoor
open Go.RowKit Go.Shelf
open Tr

theorem tieKids_in (i : Nat) : ∀ (ks : List Int) (st st' : Nat → Bool), tieKids i st ks = some st' → ∀ k ∈ ks, 0 ≤ k ∧ k < (i : Int)
  | [], st, st', _, k, hk => by cases hk
  | x :: ks, st, st', h, k, hk => by
    rw [tieKids] at h
    by_cases h1 : x < 0 ∨ (i : Int) ≤ x
    · rw [if_pos h1] at h; cases h
    · rw [if_neg h1] at h
      by_cases h2 : st x.toNat = true
      · rw [if_pos h2] at h; cases h
      · rw [if_neg h2] at h
        rcases List.mem_cons.1 hk with rfl | hk
        · omega
        · exact tieKids_in i ks _ _ h k hk
theorem tieAll_in : ∀ (l : List NodeD) (i : Nat) (st st' : Nat → Bool), tieAll i st l = some st' → KidsAt i l
  | [], i, st, st', _ => trivial
  | x :: l, i, st, st', h => by
    rw [tieAll] at h
    cases hk : tieKids i st x.2.2.2.2 with
    | none => rw [hk] at h; cases h
    | some st2 =>
      rw [hk] at h
      exact ⟨tieKids_in i _ _ _ hk, tieAll_in l (i + 1) _ _ h⟩
theorem tied_kids {t : List NodeD} (h : tied t = true) : KidsAt 0 t ∧ 0 < t.length := by
  unfold tied at h
  cases hk : tieAll 0 (fun _ => false) t with
  | none => rw [hk] at h; cases h
  | some st =>
    rw [hk] at h
    simp only [Bool.and_eq_true, decide_eq_true_eq] at h
    exact ⟨tieAll_in t 0 _ _ hk, h.2⟩
theorem allIn_of {t : List NodeD} (hl : t.length ≤ 1000000) (hin : ∀ x ∈ t, x.2.2.1.length ≤ 1000000 ∧ x.2.2.2.2.length ≤ maxLen) (hk : KidsAt 0 t) : AllIn t :=
  ⟨hl, fun y hy => ⟨(hin y hy).1, (hin y hy).2, fun k hkk => by
    obtain ⟨i, hi⟩ := List.getElem?_of_mem hy
    have := hk.get hi k hkk
    have hlt := (List.getElem?_eq_some_iff.1 hi).1
    omega⟩⟩
theorem zero_test (w : World) : (zeroValue 60).run Tryd.prog w = .ok .nilFunc w := Tryd.zeroValue60 w

set_option maxHeartbeats 16000000 in
set_option maxRecDepth 100000 in
theorem Right_of (hkinds : ∀ w, Calls Tryd.prog 24 #[] w fun e w' => ∃ b E, e = .returned (.map (some b)) ∧ Kst w w' b (kindOf sNames) E) (v : Value) (t : List NodeD) (w : World) (ha : ArgT v t w) (hl : t.length ≤ 1000000) (hin : ∀ x ∈ t, x.2.2.1.length ≤ 1000000 ∧ x.2.2.2.2.length ≤ maxLen) (hwf : ∀ x ∈ t, (Lit.int .i64 x.1).wf = true) :
    Calls Tryd.prog 12 #[v] w fun e w' => e = .returned (.bool (rightT sNames t)) ∧ Below w.heap.size w w' := by
  have HKI := Lib.hid hkinds
  have hti := fun w' (h : Below w.heap.size w w') => tied_any v t w' (ha.below h) hl (fun x hx => (hin x hx).2)
  have HTI := Lib.hid hti
  have HA := Lib.hid ha
  have HIN := Lib.hid hin
  have HWF := Lib.hid hwf
  obtain ⟨R, hR⟩ := hid_ex (rightT sNames t)
  rw [hR.out]
  cases hB : tied t with
  | false =>
    obtain ⟨pa, ca, rfl, fa⟩ := ha
    have HRF : Hid (R = false) := by show _ = _; rw [← hR.out]; unfold rightT; rw [hB]; rfl
    rw [HRF.out]
    have hc := HTI.out w (Below.refl _ _)
    rw [hB] at hc
    obtain ⟨n, hn⟩ : ∃ n, n = t.length := ⟨_, rfl⟩
    rw [← hn] at hc ⊢
    clear hR HTI HA HIN HWF fa HRF hB hn hl hkinds HKI hti hin hwf
    go_enter Tryd.func12, Tryd.ntmps12
    go_wp2_with (go_at_call 23; refine hc.mono ?_; clear hc; rintro e w1 ⟨rfl, hb1⟩)
    go_ret
    exact ⟨rfl, hb1⟩
  | true =>
    obtain ⟨hkid, hpos⟩ := tied_kids hB
    have hal := allIn_of hl hin hkid
    obtain ⟨ga, oa, cat, rfl, hga, hnodes⟩ := ha.form (fun e => by rw [e] at hpos; simp at hpos)
    have HNODES := Lib.hid hnodes
    have HAL := Lib.hid hal
    have hsh := fun w' (h : Below w.heap.size w w') => shallow_any _ t w' (ha.below h) hl (fun x hx => (hin x hx).2) hkid
    have HSH := Lib.hid hsh
    have hc := HTI.out w (Below.refl _ _)
    rw [hB] at hc
    obtain ⟨k, hk⟩ : ∃ k, t.length = k + 1 := ⟨t.length - 1, by omega⟩
    obtain ⟨x, hx⟩ : ∃ x, t[k]? = some x := ⟨_, List.getElem?_eq_getElem (by omega)⟩
    have hlast : t.getLast? = some x := by rw [List.getLast?_eq_getElem?, hk]; simpa using hx
    obtain ⟨vk, a0, _, _, _, _, _⟩ := hnodes k x hx
    have hRx : R = (decide (x.1 = 40) && t.all (kinded sNames t) && shallow t) := by
      rw [← hR.out]; unfold rightT; rw [hB, hlast]; simp
    obtain ⟨x0, hx0⟩ : ∃ x0, x0 = x.1 := ⟨_, rfl⟩
    rw [← hx0] at a0 hRx
    have HRX := Lib.hid hRx
    have HK := Lib.hid hk
    have HK2 : Hid (k + 1 ≤ 1000000) := by show _ ≤ _; omega
    rw [hk] at hc ⊢
    have hk3 : k + 1 ≤ 1000000 := by omega
    clear hR HTI hB hk hl hkinds hti hin hwf hkid hpos hal hnodes hsh hlast hx hRx hx0 HIN
    have HAT := Lib.hid ha
    clear ha HA
    by_cases h40 : x0 = 40
    · subst h40
      have HR2 : Hid (R = (t.all (kinded sNames t) && shallow t)) := by show _ = _; rw [HRX.out]; simp
      clear HRX
      have hbk := fun w1 (h : Below w.heap.size w w1) => (h.cell (p := ⟨ga, oa + k * 5, none⟩) hga).trans a0
      have HBK := Lib.hid hbk
      clear hbk a0
      go_enter Tryd.func12, Tryd.ntmps12
      go_wp2_with (first | (go_at_call 23; refine hc.mono ?_; clear hc; rintro e w1 ⟨rfl, hb1⟩; have b0 := HBK.out w1 hb1) | (go_at_call 24; refine (HKI.out _).mono ?_; rintro e w2 ⟨b, E, rfl, hk2⟩))
      have hb2 : Below w.heap.size w w2 := hb1.trans (hk2.below.mono hb1.size)
      have HML0 : Hid (MapL w2 b (kindOf sNames)) := hk2.map.resolve_left (by simp [kindOf])
      clear hk2 b0 HKI
      go_loopw [24] (fun v24 wr => ∃ i : Nat, v24 = .int .i64 (i : Int) ∧ i ≤ k + 1 ∧ Below w.heap.size w wr ∧ Hid (MapL wr b (kindOf sNames)) ∧ Hid (t.all (kinded sNames t) = (t.drop i).all (kinded sNames t))) (fun v24 _ => k + 1 - (intOf v24).toNat)
      case atStart => exact ⟨0, rfl, Nat.zero_le _, hb2, HML0, rfl⟩
      case round =>
        obtain ⟨i, rfl, hi, hbel, HML, HT⟩ := hrel
        clear hb1 hb2 HML0
        by_cases hlt : i < k + 1
        · obtain ⟨x, hx⟩ : ∃ x, t[i]? = some x := ⟨_, List.getElem?_eq_getElem (by rw [HK.out]; exact hlt)⟩
          have hxm := List.mem_of_getElem? hx
          have hd := drop_cons t i x hx
          have hti := HT.out
          rw [hd, List.all_cons] at hti
          obtain ⟨vk, n0, n1, n2, n3, n4, n5⟩ := HNODES.out i x hx
          have hxw := HWF.out x hxm
          have p0 := (hbel.cell (p := ⟨ga, oa + i * 5, none⟩) hga).trans n0
          have p1 := (hbel.cell (p := ⟨ga, oa + i * 5 + 1, none⟩) hga).trans n1
          have p2 := (hbel.cell (p := ⟨ga, oa + i * 5 + 2, none⟩) hga).trans n2
          have p3 := (hbel.cell (p := ⟨ga, oa + i * 5 + 3, none⟩) hga).trans n3
          have p4 := (hbel.cell (p := ⟨ga, oa + i * 5 + 4, none⟩) hga).trans n4
          obtain ⟨W1, hW1⟩ : ∃ W1, W1 = wr.alloc (.cells #[.int .i64 x.1, .int .i64 x.2.1, .string ⟨x.2.2.1.toArray⟩, .int .i64 x.2.2.2.1, vk] 37) := ⟨_, rfl⟩
          have hbW : Below wr.heap.size wr W1 := by rw [hW1]; exact (Below.refl _ _).alloc (Nat.le_refl _) _
          have hbw : Below w.heap.size w W1 := hbel.trans (hbW.mono hbel.size)
          have hmlW := HML.out.kept hbW
          have HMW := Lib.hid hmlW
          obtain ⟨gm, nm, hm, hnm, hgx⟩ := hmlW
          have hlk := hm.get_ok 57 60 Tryd.underlying57 (zero_test W1) x.1 hxw
          have hat : ArgT (.slice (some ⟨ga, oa, none⟩) (k + 1) cat) t W1 := by rw [← HK.out]; exact HAT.out.below hbw
          have hnv : NodeV (.agg #[.int .i64 x.1, .int .i64 x.2.1, .string ⟨x.2.2.1.toArray⟩, .int .i64 x.2.2.2.1, vk]) x W1 := ⟨vk, rfl, n5.below hbw⟩
          have hkd : kinded sNames t x = match Tr.look (kindOf sNames) x.1 with
            | none => false
            | some T => T t x := rfl
          cases hlook : Tr.look (kindOf sNames) x.1 with
          | none =>
            rw [hlook] at hkd
            rw [(hgx x.1).1 hlook] at hlk
            simp only [Option.getD_none, Option.isSome_none] at hlk
            simp only at hkd
            rw [hkd, Bool.false_and] at hti
            have HRF : Hid (R = false) := by show _ = _; rw [HR2.out, hti]; rfl
            rw [hW1] at hlk hbw
            have HBW := Lib.hid hbw
            obtain ⟨x0, x1, x2, x3, ks⟩ := x
            obtain ⟨py, cy, rfl, fy⟩ := n5
            simp only at p0 p1 p2 p3 p4 hlk HBW
            obtain ⟨my, hmy⟩ : ∃ my, my = ks.length := ⟨_, rfl⟩
            rw [← hmy] at p4 hlk HBW
            clear hx hxm hd hti n0 n1 n2 n3 n4 fy hxw hm hnm hgx hat hnv hkd hlook HMW HML HT HNODES HWF HAL HSH hbw hbW hW1 hmy HAT
            go_wp2_with fail
            go_ret
            exact ⟨ret_bool HRF.out.symm, HBW.out⟩
          | some T =>
            rw [hlook] at hkd
            obtain ⟨fv, hfv, htest⟩ := (hgx x.1).2 T hlook
            rw [hfv] at hlk
            simp only [Option.getD_some, Option.isSome_some] at hlk
            simp only at hkd
            rw [hkd] at hti
            obtain ⟨kf, cf, rfl, ef, hcf⟩ := htest
            have hcall := hcf W1 _ _ t x (Kept.refl _) hat hnv HAL.out hxm trivial
            have HPOST : Hid (∀ w3, Below W1.heap.size W1 w3 → Below w.heap.size w w3 ∧ MapL w3 b (kindOf sNames)) := fun w3 h3 => ⟨hbw.trans (h3.mono hbw.size), HMW.out.kept h3⟩
            obtain ⟨Bx, hBx⟩ := hid_ex (T t x)
            rw [hBx.out] at hcall hti
            have HTI2 := Lib.hid hti
            obtain ⟨x0, x1, x2, x3, ks⟩ := x
            obtain ⟨py, cy, rfl, fy⟩ := n5
            simp only at p0 p1 p2 p3 p4 hlk hcall
            obtain ⟨my, hmy⟩ : ∃ my, my = ks.length := ⟨_, rfl⟩
            rw [hW1] at hlk hcall HPOST
            rw [← hmy] at p4 hlk hcall HPOST
            clear hx hxm hd hti n0 n1 n2 n3 n4 fy hxw hm hnm hgx hat hnv hkd hlook HMW HML HT hbw hbW hW1 hmy hcf hfv
            cases Bx with
            | true =>
              have HT2 : Hid (t.all (kinded sNames t) = (t.drop (i + 1)).all (kinded sNames t)) := by show _ = _; rw [HTI2.out, Bool.true_and]
              clear HTI2 hBx
              go_wp2_with (refine hcall.mono ?_; clear hcall; rintro e w3 ⟨rfl, hb3⟩)
              exact ⟨⟨i + 1, by go_num, by omega, (HPOST.out w3 hb3).1, (HPOST.out w3 hb3).2, HT2⟩, by simp [intOf]; omega⟩
            | false =>
              have HRF : Hid (R = false) := by show _ = _; rw [HR2.out, HTI2.out]; rfl
              clear HTI2 hBx
              go_wp2_with (refine hcall.mono ?_; clear hcall; rintro e w3 ⟨rfl, hb3⟩)
              go_ret
              exact ⟨ret_bool HRF.out.symm, (HPOST.out w3 hb3).1⟩
        · obtain rfl : i = k + 1 := by omega
          have HT2 : Hid (R = shallow t) := by
            show _ = _
            rw [HR2.out, HT.out, List.drop_eq_nil_of_le (by rw [HK.out]; exact Nat.le_refl _)]
            rfl
          have hc := HSH.out wr hbel
          rw [HK.out] at hc
          have HB := Lib.hid hbel
          clear HT HML HNODES HAL HSH HAT
          go_wp2_with (go_at_call 25; refine hc.mono ?_; clear hc; rintro e w3 ⟨rfl, hb3⟩)
          go_ret
          exact ⟨ret_bool HT2.out.symm, HB.out.trans (hb3.mono HB.out.size)⟩
    · have HR2 : Hid (R = false) := by show _ = _; rw [HRX.out]; simp [h40]
      have g40 : (x0 != 40) = true := by simp [h40]
      have hbk := fun w1 (h : Below w.heap.size w w1) => (h.cell (p := ⟨ga, oa + k * 5, none⟩) hga).trans a0
      have HBK := Lib.hid hbk
      clear hbk a0 HRX HSH HAL HNODES HWF HK HAT
      rw [HR2.out]
      go_enter Tryd.func12, Tryd.ntmps12
      go_wp2_with (go_at_call 23; refine hc.mono ?_; clear hc; rintro e w1 ⟨rfl, hb1⟩; have b0 := HBK.out w1 hb1)
      go_ret
      exact ⟨rfl, hb1⟩
end Go.Proofs.YtkmmcphiijolkaaDoor
