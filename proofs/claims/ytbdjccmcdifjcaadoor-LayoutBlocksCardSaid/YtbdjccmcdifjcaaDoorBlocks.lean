/-
  What is told of a source has blocks that end: the walk of that statement, at this program.
-/
import Derived.Test.YtbdjccmcdifjcaaDoorShown
import Derived.Test.YtbdjccmcdifjcaaDoorTells
import Derived.Deep.DeepCutAuto
set_option linter.unusedVariables false
set_option linter.unusedSimpArgs false
namespace Go.Proofs.YtbdjccmcdifjcaaDoor
open Go.RowKit Go.Shelf
namespace lawBlocks

set_option maxHeartbeats 16000000 in
set_option maxRecDepth 100000 in
theorem walk (s : ByteArray) (hs : s.size ≤ maxLen) (w : World) (hE : Env w) : Calls Tryd.prog 4 #[.string s] w fun e w' => e = .returned (.bool true) ∧ Below w.heap.size w w' := by
  obtain ⟨f, HF⟩ := hid_ex (s.extract 0 (min s.size 1000))
  have hf : f.size ≤ 1000 := by rw [← HF.out]; simp [ByteArray.size_extract]; omega
  have HSH := Lib.hid (shown_any2 w hE)
  have HE := Lib.hid hE
  have hEs := hE.size
  clear hE
  go_enter Tryd.func4, Tryd.ntmps4
  go_wp2_with fail
  refine HSH.out.mono ?_
  rintro e w1 ⟨rfl, hb1⟩
  clear HSH
  have HT := Lib.hid (tokens_any f (by omega) w1 (HE.out.below hb1 hEs))
  have hfe : Hid (s.extract 0 (min (s.size : Int) 1000).toNat = f) := by
    show _ = _
    rw [← HF.out]
    congr 1
    omega
  clear HF
  obtain ⟨X, HX⟩ := hid_ex (Sp.layL f.data.toList)
  rw [HX.out] at HT
  go_wp2_with fail
  rw [hfe.out]
  refine HT.out.mono ?_
  clear HT
  rintro e w2 ⟨he, hb2⟩
  have HBW : Hid (Below w.heap.size w w2) := hb1.trans (hb2.mono hb1.size)
  clear hb1 hb2 HE hfe
  cases X with
  | error p =>
    obtain ⟨p, er⟩ := p
    obtain rfl : e = _ := he
    have hc := Sp.layL_code HX.out
    have ger : ((er : Int) != 0) = true := by unfold Sp.Code1 at hc; simp; omega
    clear hc HX
    go_wp2_with fail
    go_ret
    exact ⟨rfl, HBW.out⟩
  | ok ts =>
    obtain ⟨v, rfl, hrow⟩ := he
    have HA : Hid (Sp.aut (0, 0) ts = some (8, 0)) := Sp.layL_blocks HX.out
    have hlen : ts.length ≤ 100000 := by have := Sp.layL_len HX.out; rw [size_list] at this; omega
    obtain ⟨pa, ca, rfl, fa⟩ := hrow.form
    have FA := Lib.hid fa
    clear fa hrow HX
    go_wp2_with fail
    go_loopw [7, 8] (fun v7 v8 wr => ∃ (i d : Nat), v8 = .int .i64 (i : Int) ∧ v7 = .int .i64 (d : Int) ∧ i ≤ ts.length ∧ d ≤ i ∧ Hid (∃ k, Sp.aut (0, 0) (ts.take i) = some (k, d)) ∧ wr = w2) (fun _ v8 _ => ts.length - (intOf v8).toNat)
    case atStart => exact ⟨0, 0, rfl, rfl, Nat.zero_le _, Nat.le_refl _, ⟨0, rfl⟩, rfl⟩
    case round =>
      obtain ⟨i, d, rfl, rfl, hi, hdi, HT, hw⟩ := hrel
      subst hw
      by_cases hlt : i < ts.length
      · obtain ⟨x, hx⟩ : ∃ x, ts[i]? = some x := ⟨_, List.getElem?_eq_getElem hlt⟩
        obtain ⟨k, d0, k', d', h1, h2, h3, h4⟩ := Sp.aut_at HA.out hx
        obtain ⟨k0, hk0⟩ := HT.out
        rw [hk0] at h1
        obtain ⟨rfl, rfl⟩ : k0 = k ∧ d = d0 := by cases h1; exact ⟨rfl, rfl⟩
        obtain ⟨g, rfl, hg, _, a0, _, _, _⟩ := FA.out i x hx
        obtain ⟨x1, x2, x3, x4⟩ := x
        obtain ⟨hk', hx1a, hx1b⟩ := Sp.aut1_kind h2
        simp only at hk' hx1a hx1b a0
        have HN : Hid (∃ k, Sp.aut (0, 0) (ts.take (i + 1)) = some (k, d')) := ⟨_, h3⟩
        have i0 : (0 : Int) ≤ (i : Int) := by omega
        have i1 : (i : Int) < (ts.length : Int) := by omega
        by_cases e6 : x1 = 6
        · subst e6
          have e2 := h2
          unfold Sp.aut1 at e2
          simp at e2
          obtain ⟨hk, rfl, rfl⟩ := e2
          obtain ⟨y, r, hyr, hy1, hy4⟩ := Sp.aut_begin h4
          have hlt2 : i + 1 < ts.length := by
            have := congrArg List.length hyr
            simp at this
            omega
          have hy : ts[i + 1]? = some y := by
            have := congrArg (·[0]?) hyr
            simpa using this
          obtain ⟨g2, eg, _, _, b0, _, _, _⟩ := FA.out (i + 1) y hy
          cases eg
          have j1 : ¬ (ts.length : Int) ≤ (i : Int) + 1 := by omega
          have j2 : (i : Int) + 1 < (ts.length : Int) := by omega
          have j3 : ¬ (4 : Int) < y.1 := by omega
          have j4 : y.1 ≤ 4 := hy4
          by_cases hi0 : i = 0
          · subst hi0
            have hd0 : d = 0 := by omega
            subst hd0
            clear h1 h2 h3 h4 hk hyr hx hy hk0 HT HA FA hg hlt hlt2 hdi hi
            go_wp2_with fail
            exact ⟨⟨1, 1, by go_num, by go_num, by omega, by omega, HN, trivial⟩, by simp [intOf]; omega⟩
          · obtain ⟨j, rfl⟩ : ∃ j, i = j + 1 := ⟨i - 1, by omega⟩
            obtain ⟨z, hz⟩ : ∃ z, ts[j]? = some z := ⟨_, List.getElem?_eq_getElem (by omega)⟩
            have hzl : k0 = z.1 ∧ 1 ≤ z.1 := by
              rw [List.take_add_one, hz] at hk0
              exact Sp.aut_last _ _ _ _ hk0
            have hz5 : z.1 = 5 := by omega
            obtain ⟨g3, eg, _, _, d0', _, _, _⟩ := FA.out j z hz
            cases eg
            rw [hz5] at d0'
            have j5 : (0 : Int) < (j : Int) + 1 := by omega
            clear h1 h2 h3 h4 hk hyr hx hy hk0 HT HA FA hg hlt hlt2 hz hzl hz5 hi0
            go_wp2_with fail
            exact ⟨⟨j + 1 + 1, d + 1, by go_num, by go_num, by omega, by omega, HN, trivial⟩, by simp [intOf]; omega⟩
        · by_cases e7 : x1 = 7
          · subst e7
            have e2 := h2
            unfold Sp.aut1 at e2
            simp at e2
            obtain ⟨_, _, hd0, _, hdd⟩ : ¬k0 = 6 ∧ ¬k0 = 8 ∧ ¬d = 0 ∧ 7 = k' ∧ d - 1 = d' := by
              obtain ⟨⟨q1, q2, q3⟩, q4, q5⟩ := e2
              exact ⟨q1, q2, q3, q4, q5⟩
            obtain ⟨d1, rfl⟩ : ∃ d1, d = d1 + 1 := ⟨d - 1, by omega⟩
            obtain rfl : d1 = d' := by omega
            clear h1 h2 h3 h4 e2 hx hk0 HT HA FA hg hlt e6 hdd hd0 hk'
            go_wp2_with fail
            exact ⟨⟨i + 1, d1, by go_num, by go_num, by omega, by omega, HN, trivial⟩, by simp [intOf]; omega⟩
          · have hdd : d' = d := by
              have e2 := h2
              unfold Sp.aut1 at e2
              simp only at e2
              rw [if_neg e6, if_neg e7] at e2
              split at e2
              · split at e2 <;> cases e2; rfl
              · split at e2
                · split at e2 <;> cases e2; rfl
                · split at e2
                  · split at e2 <;> cases e2; rfl
                  · cases e2
            subst hdd
            by_cases e8 : x1 = 8
            · subst e8
              subst hk'
              have hr := Sp.aut_none h4
              have hle : ts.length = i + 1 := by
                have := congrArg List.length hr
                simp at this
                omega
              have j6 : (ts.length : Int) - 1 = (i : Int) := by omega
              clear h1 h2 h3 h4 hx hk0 HT HA FA hg hlt e6 e7 hr hle
              go_wp2_with fail
              exact ⟨⟨i + 1, d', by go_num, by go_num, by omega, by omega, HN, trivial⟩, by simp [intOf]; omega⟩
            · clear h1 h2 h3 h4 hx hk0 HT HA FA hg hlt hk'
              go_wp2_with fail
              exact ⟨⟨i + 1, d', by go_num, by go_num, by omega, by omega, HN, trivial⟩, by simp [intOf]; omega⟩
      · obtain rfl : i = ts.length := by omega
        obtain ⟨k, hk⟩ := HT.out
        rw [List.take_length, HA.out] at hk
        obtain rfl : d = 0 := by cases hk; rfl
        have hne : ts ≠ [] := by
          intro e
          have := HA.out
          rw [e] at this
          simp [Sp.aut] at this
        obtain ⟨xs, z, hxz⟩ : ∃ xs z, ts = xs ++ [z] := ⟨_, _, (List.dropLast_concat_getLast hne).symm⟩
        have hz8 : z.1 = 8 := by
          have := HA.out
          rw [hxz] at this
          exact (Sp.aut_last _ _ _ _ this).1.symm
        obtain ⟨m, hm⟩ : ∃ m, m = xs.length := ⟨_, rfl⟩
        have hml : ts.length = m + 1 := by rw [hxz, hm]; simp
        have hz : ts[m]? = some z := by rw [hxz, hm]; simp
        obtain ⟨g, rfl, hg, _, a0, _, _, _⟩ := FA.out m z hz
        rw [hz8] at a0
        rw [hml] at hlen ⊢
        have i1 : (0 : Int) < (m : Int) + 1 := by omega
        clear hz hz8 hxz hne hk HT HA FA hg hi hlt hdi hm hml
        go_wp2_with fail
        go_ret
        exact ⟨rfl, HBW.out⟩
end lawBlocks
end Go.Proofs.YtbdjccmcdifjcaaDoor
