/-
  The tokens that a line may have, of any row of tokens that came in, at this program.
-/
import Derived.Test.YtfomjdaihoaipaaDoorFitW
import Derived.Test.YtfomjdaihoaipaaDoorRefD
set_option linter.unusedVariables false
set_option linter.unusedSimpArgs false
namespace Go.Proofs.YtfomjdaihoaipaaDoor
open Go.RowKit Go.Shelf

/-- A row of tokens that came in. -/
def Arg4 (v : Value) (l : List T4) (w : World) : Prop := ∃ pa cap, v = .slice pa l.length cap ∧ ∀ k x, l[k]? = some x → ∃ g o, pa = some ⟨g, o, none⟩ ∧ g < w.heap.size ∧
    w.cell? ⟨g, o + k * 4, none⟩ = some (.int .i64 x.1) ∧ w.cell? ⟨g, o + k * 4 + 1, none⟩ = some (.int .i64 x.2.1) ∧ w.cell? ⟨g, o + k * 4 + 2, none⟩ = some (.string ⟨x.2.2.1.toArray⟩) ∧ w.cell? ⟨g, o + k * 4 + 3, none⟩ = some (.int .i64 x.2.2.2)
theorem Arg4.below {v : Value} {l : List T4} {w w' : World} (h : Arg4 v l w) (hb : Below w.heap.size w w') : Arg4 v l w' := by
  obtain ⟨pa, cap, e, hc⟩ := h
  refine ⟨pa, cap, e, fun k x hx => ?_⟩
  obtain ⟨g, o, e2, hg, a0, a1, a2, a3⟩ := hc k x hx
  exact ⟨g, o, e2, Nat.lt_of_lt_of_le hg hb.size, (hb.cell (p := ⟨g, _, none⟩) hg).trans a0, (hb.cell (p := ⟨g, _, none⟩) hg).trans a1, (hb.cell (p := ⟨g, _, none⟩) hg).trans a2, (hb.cell (p := ⟨g, _, none⟩) hg).trans a3⟩

set_option maxHeartbeats 8000000 in
set_option maxRecDepth 100000 in
theorem fit_any (va : Value) (l : List T4) (w : World) (ha : Arg4 va l w) (hl : l.length ≤ maxLen) (hts : ∀ x ∈ l, x.2.2.1.length ≤ maxLen) :
    Calls Tryd.prog 28 #[va] w fun e w' => ∃ v', e = .returned v' ∧ Row4 w.heap.size v' (Sp.fitL l) w' ∧ Below w.heap.size w w' := by
  obtain ⟨i0, hi, hz0, hz1_, hz2⟩ := info_parts infoTok
  obtain ⟨pa, ca, rfl, fa⟩ := ha
  have FA := Lib.hid fa
  have HTS := Lib.hid hts
  clear fa hts
  unfold maxLen at hl
  go_enter Tryd.func28, Tryd.ntmps28
  go_wp2_with fail
  go_loopw [3, 4] (fun v3 v4 wr => ∃ k : Nat, v4 = .int .i64 k ∧ k ≤ l.length ∧ k ≤ 20 ∧ Row4 w.heap.size v3 ((l.take k).map Sp.few4) wr ∧ Below w.heap.size w wr) (fun _ v4 wr => 20 - (intOf v4).toNat)
  case atStart =>
    refine ⟨0, rfl, Nat.zero_le _, Nat.zero_le _, ?_, ?_⟩
    · exact row_lit w [] #[] rfl (by decide)
    · exact (Below.refl _ w).alloc (Nat.le_refl _) _
  case round =>
    obtain ⟨k, rfl, hk, hk20, hrow, hbel⟩ := hrel
    by_cases hlt : k < l.length
    · by_cases hlt2 : k < 20
      · obtain ⟨x, hx⟩ : ∃ x, l[k]? = some x := ⟨_, List.getElem?_eq_getElem hlt⟩
        have htx := HTS.out x (List.mem_of_getElem? hx)
        unfold maxLen at htx
        obtain ⟨g, o, rfl, hg, a0, a1, a2, a3⟩ := FA.out k x hx
        have b0 := (hbel.cell (p := ⟨g, o + k * 4, none⟩) hg).trans a0
        have b1 := (hbel.cell (p := ⟨g, o + k * 4 + 1, none⟩) hg).trans a1
        have b2 := (hbel.cell (p := ⟨g, o + k * 4 + 2, none⟩) hg).trans a2
        have b3 := (hbel.cell (p := ⟨g, o + k * 4 + 3, none⟩) hg).trans a3
        clear a0 a1 a2 a3
        have hgw : g < wr.heap.size := Nat.lt_of_lt_of_le hg hbel.size
        have hlen : ((l.take k).map Sp.few4).length = k := by rw [List.length_map, List.length_take]; omega
        obtain ⟨m, HM⟩ := hid_ex ((l.take k).map Sp.few4)
        rw [HM.out] at hlen hrow
        have HN : Hid ((l.take (k + 1)).map Sp.few4 = m ++ [Sp.few4 x]) := by
          show _ = _
          rw [List.take_add_one, List.map_append, HM.out, hx]
          rfl
        obtain ⟨tb, htb⟩ : ∃ tb : ByteArray, tb = ⟨x.2.2.1.toArray⟩ := ⟨_, rfl⟩
        have htl : tb.data.toList = x.2.2.1 := by rw [htb]
        have htbs : tb.size ≤ 2 ^ 63 - 1 := by rw [← size_list, htl]; exact htx
        rw [← htb] at b2
        have e20 : Hid ((min (tb.size : Int) 20).toNat = min tb.size 20) := by show _ = _; omega
        obtain ⟨sb, HSB⟩ := hid_ex (tb.extract 0 (min tb.size 20))
        have hsb : sb.size ≤ 20 := by rw [← HSB.out]; simp [ByteArray.size_extract]; omega
        have hsl : sb.data.toList = x.2.2.1.take 20 := by
          rw [← HSB.out, extract_list, ← htl]
          simp only [List.drop_zero, Nat.sub_zero]
          rw [← size_list]
          rcases Nat.le_total tb.data.toList.length 20 with h | h
          · rw [Nat.min_eq_left h, List.take_of_length_le h, List.take_of_length_le (Nat.le_refl _)]
          · rw [Nat.min_eq_right h]
        obtain ⟨y, HY⟩ := hid_ex (Sp.few4 x)
        have HFIT : Hid (∀ w, Calls Tryd.prog 46 #[.agg #[.int .i64 x.1, .int .i64 x.2.1, .string sb, .int .i64 x.2.2.2]] w fun e w' => e = .returned (.agg #[.int .i64 y.1, .int .i64 y.2.1, .string ⟨y.2.2.1.toArray⟩, .int .i64 y.2.2.2]) ∧ Below w.heap.size w w') := by
          intro w
          refine (fitOne_any x.1 x.2.1 x.2.2.2 sb (by omega) w).mono ?_
          rintro e w' ⟨rfl, hb⟩
          refine ⟨?_, hb⟩
          rw [hsl]
          show Ending.returned (agg4 (Sp.few4 x)) = _
          rw [HY.out]
          rfl
        rw [HY.out] at HN
        have hrow0 : wr.ownsRow w.heap.size 36 4 _ m.length (m.flatMap c4) := hrow
        clear hrow HM hx htx htb htl hsl HY FA HTS
        have hz1' : w.heap.size ≤ wr.heap.size := hbel.size
        go_wp2_with fail
        rw [e20.out, HSB.out]
        refine (HFIT.out _).mono ?_
        rintro e w1 ⟨rfl, hb1⟩
        have hbel1 : Below w.heap.size w w1 := (hbel.alloc hz1' _).trans (hb1.mono (by simp; omega))
        have hown : w1.ownsRow w.heap.size 36 4 _ m.length (m.flatMap c4) := own_below hrow0 (((Below.refl _ wr).alloc (Nat.le_refl _) _).trans (hb1.mono (by simp)))
        have hz1 : w.heap.size ≤ w1.heap.size := hbel1.size
        clear hb1 hrow0 hbel hz1'
        go_wp2_with (at_builtin; refine wpList_append_own _ rfl _ _ 23 rfl w.heap.size 36 i0 (.agg #[.int .i64 0, .int .i64 0, .string ⟨#[]⟩, .int .i64 0]) 4 40 Tryd.underlying23 hi hz0 hz1_ hz2 rfl (by decide) _ _ _ rfl (hown.alloc _) ⟨w1.heap.size, 0, none⟩ 1 1 [.int .i64 y.1, .int .i64 y.2.1, .string ⟨y.2.2.1.toArray⟩, .int .i64 y.2.2.2] rfl rfl ?c1 ?c2 ?c3 ?c4 ?c5 ?_)
        case c1 =>
          intro j u hj
          match j, hj with
          | 0, hj => simp at hj; subst hj; simp [Addr.add]
          | 1, hj => simp at hj; subst hj; simp [Addr.add]
          | 2, hj => simp at hj; subst hj; simp [Addr.add]
          | 3, hj => simp at hj; subst hj; simp [Addr.add]
        case c2 => intro u hu; simp at hu; rcases hu with rfl | rfl | rfl | rfl <;> rfl
        case c3 => unfold maxLen; omega
        case c4 => omega
        case c5 => simp; omega
        intro v' w2 hown' hgrow _
        have hbel2 : Below w.heap.size w w2 := (hbel1.alloc hz1 _).grown hgrow (by simp; omega) (fun k hk => (hown.lt k hk).1)
        have hrow2 : Row4 w.heap.size v' ((l.take (k + 1)).map Sp.few4) w2 := by
          unfold Row4
          rw [HN.out, List.length_append, List.flatMap_append, hlen]
          exact hown'
        clear hown' hgrow hown hbel1 hz1
        go_wp2_with fail
        go_roundw
        case rel => exact ⟨k + 1, by go_num, by omega, by omega, hrow2, hbel2⟩
        case measure => simp [intOf]; omega
      · have HN : Hid ((l.take k).map Sp.few4 = Sp.fitL l) := by
          show _ = _
          obtain rfl : k = 20 := by omega
          rfl
        clear FA HTS
        go_wp2_with fail
        go_ret
        rw [HN.out] at hrow
        exact ⟨_, rfl, hrow, hbel⟩
    · have HN : Hid ((l.take k).map Sp.few4 = Sp.fitL l) := by
        show _ = _
        unfold Sp.fitL
        rw [List.take_of_length_le (by omega), List.take_of_length_le (by omega)]
      clear FA HTS
      go_wp2_with fail
      go_ret
      rw [HN.out] at hrow
      exact ⟨_, rfl, hrow, hbel⟩
end Go.Proofs.YtfomjdaihoaipaaDoor
