/-
  The reference's Clone, at this program.
-/
import Derived.Test.YtaghkidelbepnaaDiG
set_option linter.unusedVariables false
set_option linter.unusedSimpArgs false
namespace Go.Proofs.Ytaghkidelbepnaa
open Go.RowKit
open Di

set_option maxHeartbeats 4000000 in
set_option maxRecDepth 100000 in
theorem rClone_is {w : World} {b : Nat} {v : Value} {l : List Pr} (H : Hid (RD w b v l)) (hl : l.length ≤ 100000) :
    Calls Try.prog 29 #[.pointer (some ⟨b, 0, none⟩)] w fun e w' => ∃ b' v', e = .returned (.pointer (some ⟨b', 0, none⟩)) ∧ Hid (RD w' b' v' l) ∧ Hid (Below w.heap.size w w') ∧ Hid (w.heap.size ≤ b' ∧ ∀ j, v'.ownBlock = some j → w.heap.size ≤ j) := by
  obtain ⟨n, hn⟩ : ∃ n, l.length = n := ⟨_, rfl⟩
  have HN := Lib.hid hn
  have hD := H.out.below (below_new w (.cells #[] 60))
  have a0 := hD.cell
  have HS := Lib.hid (own_src hD.row)
  obtain ⟨pa, cap, hv, _⟩ := own_form cP_len H.out.row
  subst hv
  rw [hn] at hl a0 HS
  have H0 := Lib.hid (World.ownsRow_lit (e := 60) (size := 6) (base := w.heap.size) w #[] 0 (Nat.le_refl _) (Nat.zero_le _) rfl)
  clear hn hD
  go_enter Try.func29, Try.ntmps29
  go_wp2_with (at_builtin; refine wpList_papps (by rfl) _ _ (by rfl) _ w.heap.size w.heap.size 0 [] 0 rfl (by exact H0.out) (by exact (below_new w _).size) (.slice pa n cap) l HS.out n (by rw [HN.out]; simp) (by omega) (by rfl) (by rfl) ?_; intro g5 c5 w5 HO5 HG5 HS5; have HB5 := Lib.hid (grow_below (below_new w _) HG5.out (Nat.le_refl _)))
  go_ret
  have hO : w5.ownsRow w.heap.size 60 6 (.slice (some ⟨g5, 0, none⟩) n c5) n (l.flatMap cP) := by have := HO5.out; rw [List.nil_append] at this; exact this
  have hb2 := below_new w5 (.cells #[.slice (some ⟨g5, 0, none⟩) n c5] 29)
  refine ⟨w5.heap.size, rfl, _, (show RD _ _ _ _ from ⟨heap_alloc_new w5 _, ?_⟩), (show Below _ _ _ from HB5.out.trans (hb2.mono HB5.out.size)), (show _ ∧ _ from ⟨HB5.out.size, fun j hj => ?_⟩)⟩
  · rw [HN.out]
    refine ⟨hO.1, ?_⟩
    rcases hO.2 with ⟨hv, _⟩ | ⟨g', cap', cur, hv, h0, hgb', rest⟩
    · simp at hv
    · exact .inr ⟨g', cap', cur, hv, Nat.zero_le _, (hb2.block g' (Array.getElem?_eq_some_iff.1 hgb').1).trans hgb', rest⟩
  · exact (hO.lt j hj).1
end Go.Proofs.Ytaghkidelbepnaa
