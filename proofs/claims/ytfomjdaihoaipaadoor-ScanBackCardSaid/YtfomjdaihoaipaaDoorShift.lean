/-
  So much added to all places of a row of tokens, at this program; and where the tokens of a line stand.
-/
import Derived.Test.YtfomjdaihoaipaaDoorNames
set_option linter.unusedVariables false
set_option linter.unusedSimpArgs false
namespace Go.Proofs.YtfomjdaihoaipaaDoor
open Go.RowKit Go.Shelf

/-- A token with so much added to its place. -/
def sh4 (by_ : Int) (x : T4) : T4 := (x.1, wrap64 (x.2.1 + by_), x.2.2.1, x.2.2.2)

set_option maxHeartbeats 4000000 in
set_option maxRecDepth 100000 in
theorem shift_any (B : Nat) (va : Value) (l : List T4) (by_ : Int) (w : World) (ha : Row4 B va l w) (hl : l.length ≤ 1000000) :
    Calls Tryd.prog 30 #[va, .int .i64 by_] w fun e w' => ∃ v', e = .returned v' ∧ Row4 w.heap.size v' (l.map (sh4 by_)) w' ∧ Below w.heap.size w w' := by
  obtain ⟨i0, hi, hz0, hz1, hz2⟩ := info_parts infoTok
  obtain ⟨pa, ca, rfl, fa⟩ := ha.form
  have FA := Lib.hid fa
  clear fa ha
  go_enter Tryd.func30, Tryd.ntmps30
  go_wp2_with fail
  go_loopw [5, 6] (fun v5 v6 wr => ∃ k : Nat, v6 = .int .i64 k ∧ k ≤ l.length ∧ Row4 w.heap.size v5 ((l.take k).map (sh4 by_)) wr ∧ Below w.heap.size w wr) (fun _ v6 wr => l.length - (intOf v6).toNat)
  case atStart =>
    refine ⟨0, rfl, Nat.zero_le _, ?_, ?_⟩
    · exact row_lit w [] #[] rfl (by decide)
    · exact (Below.refl _ w).alloc (Nat.le_refl _) _
  case round =>
    obtain ⟨k, rfl, hk, hrow, hbel⟩ := hrel
    by_cases hlt : k < l.length
    · obtain ⟨x, hx⟩ : ∃ x, l[k]? = some x := ⟨_, List.getElem?_eq_getElem hlt⟩
      obtain ⟨g, rfl, hg, _, a0, a1, a2, a3⟩ := FA.out k x hx
      have b0 := (hbel.cell (p := ⟨g, k * 4, none⟩) hg).trans a0
      have b1 := (hbel.cell (p := ⟨g, k * 4 + 1, none⟩) hg).trans a1
      have b2 := (hbel.cell (p := ⟨g, k * 4 + 2, none⟩) hg).trans a2
      have b3 := (hbel.cell (p := ⟨g, k * 4 + 3, none⟩) hg).trans a3
      clear a0 a1 a2 a3
      have hgw : g < wr.heap.size := Nat.lt_of_lt_of_le hg hbel.size
      clear FA
      have hz1' : w.heap.size ≤ wr.heap.size := hbel.size
      have hlen : ((l.take k).map (sh4 by_)).length = k := by rw [List.length_map, List.length_take]; omega
      obtain ⟨m, HM⟩ := hid_ex ((l.take k).map (sh4 by_))
      rw [HM.out] at hlen hrow
      have hrow' : wr.ownsRow w.heap.size 36 4 _ m.length (m.flatMap c4) := hrow
      clear hrow
      go_wp2_with (at_builtin; refine wpList_append_own _ rfl _ _ 23 rfl w.heap.size 36 i0 (.agg #[.int .i64 0, .int .i64 0, .string ⟨#[]⟩, .int .i64 0]) 4 40 Tryd.underlying23 hi hz0 hz1 hz2 rfl (by decide) _ _ _ rfl ((hrow'.alloc _).alloc _) ⟨wr.heap.size + 1, 0, none⟩ 1 1 [.int .i64 x.1, .int .i64 (wrap64 (x.2.1 + by_)), .string ⟨x.2.2.1.toArray⟩, .int .i64 x.2.2.2] rfl rfl ?c1 ?c2 ?c3 ?c4 ?c5 ?_)
      case c1 =>
        intro j u hj
        match j, hj with
        | 0, hj => simp at hj; subst hj; simp [Addr.add]
        | 1, hj => simp at hj; subst hj; simp [Addr.add]
        | 2, hj => simp at hj; subst hj; simp [Addr.add]
        | 3, hj => simp at hj; subst hj; simp [Addr.add]
      case c2 => intro u hu; simp at hu; rcases hu with rfl | rfl | rfl | rfl <;> rfl
      case c3 => unfold maxLen; omega
      case c4 => omega
      case c5 => simp; omega
      intro v' w2 hown' hgrow _
      have hbel2 : Below w.heap.size w w2 := ((hbel.alloc hz1' _).alloc (by simp; omega) _).grown hgrow (by simp; omega) (fun k hk => (hrow'.lt k hk).1)
      have hrow2 : Row4 w.heap.size v' ((l.take (k + 1)).map (sh4 by_)) w2 := by
        have e : (l.take (k + 1)).map (sh4 by_) = m ++ [sh4 by_ x] := by
          rw [List.take_add_one, hx, List.map_append, HM.out]
          rfl
        unfold Row4
        rw [e, List.length_append, List.flatMap_append, hlen]
        exact hown'
      clear hown' hgrow hrow' hbel hz1' hlen HM hx
      go_wp2_with fail
      go_roundw
      case rel => exact ⟨k + 1, by go_num, by omega, hrow2, hbel2⟩
      case measure => simp [intOf]; omega
    · clear FA
      go_wp2_with fail
      go_ret
      refine ⟨_, rfl, ?_, hbel⟩
      rw [List.take_of_length_le (by omega)] at hrow
      exact hrow
end Go.Proofs.YtfomjdaihoaipaaDoor
