/-
  Find of the program's package text, at this program.
-/
import Derived.Test.YtcpjogjkjbillaaTxRd
set_option linter.unusedVariables false
set_option linter.unusedSimpArgs false
namespace Go.Proofs.Ytcpjogjkjbillaa
open Go.RowKit Go.Shelf
attribute [local go_sem] Oper.semAt_some

theorem results_i64 {fn : Func} {p : Tmp} (h : fn.results = #[.cell p 2]) (tmps : Array Value) (w : World) (H : Nat) (b : Int) (hp : tmps.getD p undef = .pointer (some ⟨H, 0, none⟩)) (hc : w.cell? ⟨H, 0, none⟩ = some (.int .i64 b)) :
    (results fn tmps).run Try.prog w = .ok (.int .i64 b) w := by
  have hp' : tmps[p]?.getD undef = .pointer (some ⟨H, 0, none⟩) := by simpa using hp
  simp [results, h, hp', asAddr, go_sem, hc]
theorem places_is (s p : ByteArray) (w : World) : Calls Try.prog 40 #[.string s, .string p] w fun e w' =>
    e = .returned (.func (.func 49) #[] #[.pointer (some ⟨w.heap.size + 1, 0, none⟩), .pointer (some ⟨w.heap.size, 0, none⟩)]) ∧
    w' = (w.alloc (.cells #[.string s] 9)).alloc (.cells #[.string p] 9) := by
  have hmf : ∀ (fn : Fn) (first cap : Array Value) (w : World), (Instr.makeFunc fn first cap).run Try.prog w = .ok (.func fn first cap) w := fun _ _ _ _ => rfl
  go_enter Try.func40, Try.ntmps40
  go_wp2
  go_ret
  exact ⟨rfl, rfl⟩
/-- The boxes of a text and of what is looked for in it. -/
theorem two_boxes (s p : ByteArray) (w W : World) (h : W = (w.alloc (.cells #[.string s] 9)).alloc (.cells #[.string p] 9)) :
    Below w.heap.size w W ∧ W.heap.size = w.heap.size + 2 ∧ W.cell? ⟨w.heap.size + 1, 0, none⟩ = some (.string p) ∧ W.cell? ⟨w.heap.size, 0, none⟩ = some (.string s) := by
  subst h
  refine ⟨((Below.refl _ w).alloc (Nat.le_refl _) _).alloc (by simp) _, by simp, ?_, ?_⟩
  · rw [World.cell?_alloc_at _ _ _ _ (by simp)]; rfl
  · rw [World.cell?_alloc_past _ _ _ (by simp), World.cell?_alloc_at _ _ _ _ rfl]; rfl
set_option maxHeartbeats 8000000 in
set_option maxRecDepth 20000 in
theorem tFind_is {s t : ByteArray} {r : Int} (h : Hid (Tx.findI s.data.toList t.data.toList = r)) (hs : s.size ≤ 1048576) (ht : t.size ≤ 1048576) (w : World) :
    Calls Try.prog 29 #[.string s, .string t] w fun e' w' => e' = .returned (.int .i64 r) ∧ Below w.heap.size w w' := by
  obtain ⟨W1, hW1⟩ : ∃ W, W = w.alloc (.cells #[.int .i64 0] 2) := ⟨_, rfl⟩
  have hb1 : Below w.heap.size w W1 := by rw [hW1]; exact (Below.refl _ w).alloc (Nat.le_refl _) _
  have hs1 : W1.heap.size = w.heap.size + 1 := by rw [hW1]; simp
  have k1 : W1.cell? ⟨w.heap.size, 0, none⟩ = some (.int .i64 0) := by rw [hW1, World.cell?_alloc_at _ _ _ _ rfl]; rfl
  have kf1 : W1.frozen? ⟨w.heap.size, 0, none⟩ = false := by rw [hW1]; simp [go_sem]
  have HW1 := Lib.hid hW1
  clear hW1
  refine callsIn_wide.1 (callsIn_of_wp_marks (n := 3) Try.func29 rfl trivial ?_ rfl)
  simp only [Try.ntmps29, List.size_toArray, List.length_cons, List.length_nil, Nat.reduceAdd, Nat.reduceSub, Array.replicate_succ, Array.replicate_zero, List.push_toArray, List.append_toArray, List.nil_append, List.cons_append]
  by_cases h0 : t.data.toList = []
  · have hr : r = 0 := by
      rw [← h.out, h0]
      unfold Tx.findI
      rw [Tx.find_at (k := 0) (Tx.pre_nil _) (fun j hj => by omega)]
      rfl
    subst hr
    have g0 : (t.toList == []) = true := by rw [ByteArray.toList_eq, h0]; rfl
    clear h h0 hs1 kf1
    gi_wp2_with fail
    rw [← HW1.out]
    refine ⟨_, results_i64 rfl _ _ w.heap.size 0 rfl k1, rfl, hb1⟩
  · have g0 : (t.toList == []) = false := by rw [ByteArray.toList_eq]; simpa using h0
    have HPL := Lib.hid (places_is s t W1)
    rw [HW1.out] at HPL
    gi_wp2_with fail
    refine ⟨trivial, (callsIn_wide.2 HPL.out).mono ?_⟩
    clear HPL
    rintro e W2 ⟨rfl, hW2⟩
    rw [← HW1.out] at hW2 ⊢
    obtain ⟨hb2, hs2, c1, c2⟩ := two_boxes s t W1 W2 hW2
    rw [hs1] at c1 c2
    have k2 := (hb2.cell (p := ⟨w.heap.size, 0, none⟩) (by show w.heap.size < _; omega)).trans k1
    have kf2 := (hb2.frozen (p := ⟨w.heap.size, 0, none⟩) (by show w.heap.size < _; omega)).trans kf1
    have hb02 : Below w.heap.size w W2 := hb1.trans (hb2.mono hb1.size)
    have hfp := Tx.plcs_find (P := t.data.toList) (s := s.data.toList) h0
    rw [h.out] at hfp
    have hg := places_gives (3 - 1) s t hs ht h0 (w.heap.size + 1 + 1) (w.heap.size + 1) (fun _ k => k = w.heap.size) W2 (Dyn.const _ _) (by omega) (by omega) (fun e => by omega) (fun e => by omega) c1 c2
    generalize Tx.plcs t.data.toList s.data.toList = L at hg hfp
    have HFP := Lib.hid hfp
    clear hW2 k1 kf1 c1 c2 hfp h
    gi_wp2_with fail
    refine wpIn_rangeFunc_R rfl (depthless9 rfl _) (gf := 49) (lb := #[.pointer (some ⟨w.heap.size + 1 + 1, 0, none⟩), .pointer (some ⟨w.heap.size + 1, 0, none⟩)]) rfl trivial (enters_of Try.func49 (by kernel_rfl) rfl)
      (R := fun _ k => k = w.heap.size) (Dyn.const _ _) hg (fun _ => rfl)
      (fun q A => q = [] ∧ A.cell? ⟨w.heap.size, 0, none⟩ = some (.int .i64 0) ∧ A.frozen? ⟨w.heap.size, 0, none⟩ = false)
      (fun c q A => c = .ret ∧ ∃ x : Nat, L.head? = some x ∧ A.cell? ⟨w.heap.size, 0, none⟩ = some (.int .i64 (x : Int))) (fun q A _ hs k e => by omega)
      (fun q A B ⟨u1, u2, u3⟩ hST hs => have hB := hST.b
        ⟨u1, (hB.cell (p := ⟨w.heap.size, 0, none⟩) (by show w.heap.size < _; omega)).trans u2, (hB.frozen (p := ⟨w.heap.size, 0, none⟩) (by show w.heap.size < _; omega)).trans u3⟩)
      (fun c q A B ⟨u0, x, u1, u2⟩ hB hs => ⟨u0, x, u1, (hB.cell (p := ⟨w.heap.size, 0, none⟩) (by show w.heap.size < _; omega)).trans u2⟩) ⟨rfl, k2, kf2⟩
      (fun x => { tmps := #[.string s, .string t, undef, undef, .pointer (some ⟨w.heap.size, 0, none⟩), .int .i64 (x : Int), .string t, .bool false, .string s, .string t, .func (.func 49) #[] #[.pointer (some ⟨w.heap.size + 1 + 1, 0, none⟩), .pointer (some ⟨w.heap.size + 1, 0, none⟩)], .int .i64 (x : Int), undef], defers := [] })
      ?assign ?body ?done ?stop
    case assign =>
      intro l x W' K hK
      gi_wp2
      exact hK
    case body =>
      rintro l2 q2 x A ⟨rfl, u2, u3⟩ hS hsz
      have hx : L.head? = some x := by
        obtain ⟨z, hz⟩ := hS
        rw [← hz]
        rfl
      clear hg hS
      gi_wp2
      exact ⟨(Chg.refl (fun _ k => k = w.heap.size) A).setCell (Dyn.const _ 0) (p := ⟨w.heap.size, 0, none⟩) (Nat.zero_le _) (Nat.zero_le _) (fun _ => rfl) _, rfl, x, hx, World.cell?_setCell_same' _ _ _ (by rw [u2]; rfl)⟩
    case done =>
      rintro q2 A rfl ⟨rfl, u2, u3⟩ hcA hK _
      have hr : r = -1 := HFP.out
      subst hr
      have hbA : Below w.heap.size w A := hb02.trans (hcA.below (by omega) (fun k hk e => by omega))
      have HZ : Hid (∀ B, B = (A.setCell ⟨w.heap.size, 0, none⟩ (.int .i64 (-1))).putObj W2.heap.size (.deferred none) → Below w.heap.size w B ∧ B.cell? ⟨w.heap.size, 0, none⟩ = some (.int .i64 (-1))) := (show ∀ _, _ from fun B hB => by
        subst hB
        refine ⟨(hbA.setCell (p := ⟨w.heap.size, 0, none⟩) (Nat.le_refl _) _).trans (below_putObj _ (by omega) _), ?_⟩
        rw [World.cell?_of_block (w := A.setCell ⟨w.heap.size, 0, none⟩ (.int .i64 (-1))) (World.putObj_heap_other (by show w.heap.size ≠ _; omega))]
        exact World.cell?_setCell_same' _ _ _ (by rw [u2]; rfl))
      have hK2 : (A.setCell ⟨w.heap.size, 0, none⟩ (.int .i64 (-1))).heap[W2.heap.size]? = some (.deferred (some [])) := (Below.heap_setCell A ⟨w.heap.size, 0, none⟩ _ W2.heap.size (by simp; omega)).trans hK
      clear hg k2 kf2 HFP hb02 hb2 hs2 hb1 hs1 hcA hbA
      gi_wp2_with fail
      refine ⟨by simp, .inl ⟨_, _, rfl, run_takeDeferred hK2, ?_⟩⟩
      obtain ⟨z1, z2⟩ := HZ.out _ rfl
      exact ⟨_, results_i64 rfl _ _ w.heap.size (-1) rfl z2, rfl, z1⟩
    case stop =>
      rintro c q2 A ⟨rfl, x, hx, u2⟩ hcA hK
      have hr : r = (x : Int) := by
        have h1 := HFP.out
        cases L with
        | nil => cases hx
        | cons y l =>
          injection hx with hx
          subst hx
          exact h1
      subst hr
      have hbA : Below w.heap.size w A := hb02.trans (hcA.below (by omega) (fun k hk e => by omega))
      have HZ : Hid (∀ B, B = A.putObj W2.heap.size (.deferred none) → Below w.heap.size w B ∧ B.cell? ⟨w.heap.size, 0, none⟩ = some (.int .i64 (x : Int))) := (show ∀ _, _ from fun B hB => by
        subst hB
        refine ⟨hbA.trans (below_putObj _ (by omega) _), ?_⟩
        rw [World.cell?_of_block (w := A) (World.putObj_heap_other (by show w.heap.size ≠ _; omega))]
        exact u2)
      clear hg k2 kf2 HFP hb02 hb2 hs2 hb1 hs1 hcA hbA
      gi_wp2_with fail
      refine ⟨by simp, .inl ⟨_, _, rfl, run_takeDeferred hK, ?_⟩⟩
      obtain ⟨z1, z2⟩ := HZ.out _ rfl
      exact ⟨_, results_i64 rfl _ _ w.heap.size (x : Int) rfl z2, rfl, z1⟩
end Go.Proofs.Ytcpjogjkjbillaa
