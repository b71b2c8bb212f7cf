/-
  All that is told of a source lies in it, and does not go back: the walk of that statement, at this program.
-/
import Derived.Test.YtbdjccmcdifjcaaDoorShown
import Derived.Test.YtbdjccmcdifjcaaDoorWhere
import Derived.Deep.QuietTactic
import Derived.BigQuiet
set_option linter.unusedVariables false
set_option linter.unusedSimpArgs false
namespace Go.Proofs.YtbdjccmcdifjcaaDoor
open Go.RowKit Go.Shelf
namespace lawPlaced

/-- A byte of a text, read in its list and in the array. -/
theorem byte_at {f : ByteArray} {p : Nat} {c : UInt8} (h : f.data.toList[p]? = some c) : ∃ hp : p < f.size, f[p] = c := by
  have hp : p < f.data.toList.length := by
    rcases Nat.lt_or_ge p f.data.toList.length with h1 | h1
    · exact h1
    · rw [List.getElem?_eq_none h1] at h; cases h
  refine ⟨by simpa using hp, ?_⟩
  rw [List.getElem?_eq_getElem hp] at h
  exact Option.some.inj h

set_option maxHeartbeats 16000000 in
set_option maxRecDepth 100000 in
theorem walk (s : ByteArray) (hs : s.size ≤ maxLen) (w : World) (hE : Env w) : Calls Tryd.prog 5 #[.string s] w fun e w' => e = .returned (.bool true) ∧ Below w.heap.size w w' := by
  obtain ⟨f, HF⟩ := hid_ex (s.extract 0 (min s.size 1000))
  have hf : f.size ≤ 1000 := by rw [← HF.out]; simp [ByteArray.size_extract]; omega
  have HSH := Lib.hid (shown_any2 w hE)
  have HE := Lib.hid hE
  have hEs := hE.size
  clear hE
  go_enter Tryd.func5, Tryd.ntmps5
  go_wp2_with fail
  refine HSH.out.mono ?_
  rintro e w1 ⟨rfl, hb1⟩
  clear HSH
  have HT := Lib.hid (tokens_any f (by omega) w1 (HE.out.below hb1 hEs))
  have hfe : Hid (s.extract 0 (min (s.size : Int) 1000).toNat = f) := by
    show _ = _
    rw [← HF.out]
    congr 1
    omega
  clear HF
  obtain ⟨X, HX⟩ := hid_ex (Sp.layL f.data.toList)
  rw [HX.out] at HT
  go_wp2_with fail
  rw [hfe.out]
  refine HT.out.mono ?_
  clear HT
  rintro e w2 ⟨he, hb2⟩
  have HBW : Hid (Below w.heap.size w w2) := hb1.trans (hb2.mono hb1.size)
  clear hb1 hb2 HE hfe
  have hfl : f.data.toList.length = f.size := by simp
  cases X with
  | error p =>
    obtain ⟨p, er⟩ := p
    obtain rfl : e = _ := he
    have hc := Sp.layL_code HX.out
    have ger : ((er : Int) != 0) = true := by unfold Sp.Code1 at hc; simp; omega
    have hp := Sp.layL_wrong (by omega) HX.out
    rw [hfl] at hp
    obtain ⟨hp0, hp1⟩ := hp
    clear hc HX
    go_wp2_with fail
    go_ret
    exact ⟨rfl, HBW.out⟩
  | ok ts =>
    obtain ⟨v, rfl, hrow⟩ := he
    have HA := Lib.hid (Sp.layL_lies (by omega) HX.out)
    rw [hfl] at HA
    have hlen : ts.length ≤ 100000 := by have := Sp.layL_len HX.out; rw [size_list] at this; omega
    obtain ⟨pa, ca, rfl, fa⟩ := hrow.form
    have FA := Lib.hid fa
    clear fa hrow HX
    go_wp2_with fail
    go_loopw [7, 8] (fun v7 v8 wr => ∃ (i d q : Nat), v8 = .int .i64 (i : Int) ∧ v7 = .int .i64 (d : Int) ∧ i ≤ ts.length ∧ d ≤ 1000 ∧ Hid (∀ j x, i ≤ j → ts[j]? = some x → (d : Int) ≤ x.2.1) ∧ wr = w2.drewN q) (fun _ v8 _ => ts.length - (intOf v8).toNat)
    case atStart => exact ⟨0, 0, 0, rfl, rfl, Nat.zero_le _, Nat.zero_le _, fun j x _ hx => (HA.out.2 x (List.mem_of_getElem? hx)).2.1, rfl⟩
    case round =>
      obtain ⟨i, d, q, rfl, rfl, hi, hd, HD, hw⟩ := hrel
      subst hw
      by_cases hlt : i < ts.length
      · obtain ⟨x, hx⟩ : ∃ x, ts[i]? = some x := ⟨_, List.getElem?_eq_getElem hlt⟩
        have hdx := HD.out i x (Nat.le_refl _) hx
        obtain ⟨⟨hn1, hn5, hn8⟩, hx0, hxl⟩ := HA.out.2 x (List.mem_of_getElem? hx)
        rw [hfl] at hn8
        have HN : Hid (∀ j y, i + 1 ≤ j → ts[j]? = some y → x.2.1 ≤ y.2.1) := by
          intro j y hj hy
          obtain ⟨hj', ey⟩ := List.getElem?_eq_some_iff.1 hy
          obtain ⟨hi', ex⟩ := List.getElem?_eq_some_iff.1 hx
          rw [← ey, ← ex]
          exact List.pairwise_iff_getElem.1 HA.out.1 i j hi' hj' (by omega)
        obtain ⟨g, rfl, hg, _, a0, a1, a2, a3⟩ := FA.out i x hx
        obtain ⟨x1, x2, x3, x4⟩ := x
        simp only at hdx hn1 hn5 hn8 hx0 hxl HN a0 a1 a2
        obtain ⟨p, rfl⟩ : ∃ p : Nat, x2 = (p : Int) := ⟨x2.toNat, by omega⟩
        rw [Int.toNat_natCast] at hn1 hn5
        have hdp : ¬ (p : Int) < (d : Int) := by omega
        have hpf : ¬ (f.size : Int) < (p : Int) := by omega
        have i0 : (0 : Int) ≤ (i : Int) := by omega
        have i1 : (i : Int) < (ts.length : Int) := by omega
        clear hx hx0 HD FA HA hg a3 hfl hi hdx hd
        by_cases e1 : x1 = 1
        · subst e1
          obtain ⟨c, u, hu, hc⟩ := hn1 rfl
          subst hu
          obtain ⟨hp, hfc⟩ := byte_at hc
          obtain ⟨tx, htx⟩ : ∃ tx : ByteArray, tx = ⟨(c :: u).toArray⟩ := ⟨_, rfl⟩
          rw [← htx] at a2
          have ht0 : 0 < tx.size := by rw [htx]; simp [ByteArray.size]
          have htc : tx[0] = c := by subst htx; rfl
          have b0 : (0 : Int) < (tx.size : Int) := by omega
          have b1 : (0 : Int) ≤ (p : Int) := by omega
          have b2 : (p : Int) < (f.size : Int) := by omega
          have n1 : ((p : Int) == (f.size : Int)) = false := by simp; omega
          have n2 : ((tx.size : Int) == 0) = false := by rw [beq_eq_false_iff_ne]; omega
          clear hn1 hn5 hn8 hc htx hxl
          go_wp2_with fail
          go_quiet (fail)
          go_wp2_with fail
          exact ⟨⟨i + 1, p, _, by go_num, by go_num, by omega, by omega, HN, rfl⟩, by simp [intOf]; omega⟩
        · have m1 : (x1 == 1) = false := by rw [beq_eq_false_iff_ne]; exact e1
          by_cases e5 : x1 = 5
          · subst e5
            have h5 := hn5 rfl
            by_cases hp : p < f.size
            · have b1 : (0 : Int) ≤ (p : Int) := by omega
              have b2 : (p : Int) < (f.size : Int) := by omega
              have hc : f[p].toNat = 10 := h5 f[p] (by rw [List.getElem?_eq_getElem (by simpa using hp)]; rfl)
              have n1 : ((f[p].toNat : Int) != 10) = false := by simp; omega
              clear hn1 hn5 hn8 h5 hc hxl e1 m1
              go_wp2_with fail
              go_quiet (fail)
              go_wp2_with fail
              exact ⟨⟨i + 1, p, _, by go_num, by go_num, by omega, by omega, HN, rfl⟩, by simp [intOf]; omega⟩
            · have b2 : decide ((p : Int) < (f.size : Int)) = false := by simp; omega
              clear hn1 hn5 hn8 h5 hxl e1 m1
              go_wp2_with fail
              go_quiet (fail)
              go_wp2_with fail
              exact ⟨⟨i + 1, p, _, by go_num, by go_num, by omega, by omega, HN, rfl⟩, by simp [intOf]; omega⟩
          · have m5 : (x1 == 5) = false := by rw [beq_eq_false_iff_ne]; exact e5
            by_cases e8 : x1 = 8
            · subst e8
              have h8 : (p : Int) = (f.size : Int) := hn8 rfl
              have n1 : ((p : Int) != (f.size : Int)) = false := by simp; omega
              clear hn1 hn5 hn8 h8 hxl e1 m1 e5 m5
              go_wp2_with fail
              go_quiet (fail)
              go_wp2_with fail
              exact ⟨⟨i + 1, p, _, by go_num, by go_num, by omega, by omega, HN, rfl⟩, by simp [intOf]; omega⟩
            · have m8 : (x1 == 8) = false := by rw [beq_eq_false_iff_ne]; exact e8
              clear hn1 hn5 hn8 hxl e1 e5 e8
              go_wp2_with fail
              go_quiet (fail)
              go_wp2_with fail
              exact ⟨⟨i + 1, p, _, by go_num, by go_num, by omega, by omega, HN, rfl⟩, by simp [intOf]; omega⟩
      · obtain rfl : i = ts.length := by omega
        clear HD HA FA hlt hfl
        go_wp2_with fail
        go_ret
        exact ⟨rfl, below_drewN HBW.out _⟩
end lawPlaced
end Go.Proofs.YtbdjccmcdifjcaaDoor
