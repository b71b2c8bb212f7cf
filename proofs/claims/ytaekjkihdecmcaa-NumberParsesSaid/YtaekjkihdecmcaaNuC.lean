/-
  The reference's digits, and what is left of a row without noughts ahead, at this program.
-/
import Derived.Test.YtaekjkihdecmcaaNuB
import Derived.Laws.AppendOwnNone
set_option linter.unusedVariables false
set_option linter.unusedSimpArgs false
namespace Go.Proofs.Ytaekjkihdecmcaa
open Go.RowKit

theorem digit_any (v : Value) (l : List Nat) (i : Nat) (w : World) (h : DRow v l w) (hl : l.length ≤ 1000000) (hi : i ≤ 1000000) :
    Calls Try.prog 33 #[v, .int .i64 (i : Int)] w fun e w' => e = .returned (.int .i64 (Nu.dig l i : Nat)) ∧ w' = w := by
  rcases h with ⟨rfl, rfl⟩ | ⟨g, o, cap, rfl, hg, hcap, hc⟩
  · have HE : Hid (Nu.dig [] i = 0) := (show _ = _ from Nu.dig_beyond (by simp))
    rw [HE.out]
    clear HE
    go_enter Try.func33, Try.ntmps33
    go_wp2_with fail
    go_ret
    exact ⟨rfl, rfl⟩
  obtain ⟨n, hn⟩ : ∃ n, n = l.length := ⟨_, rfl⟩
  rw [← hn] at hl hcap ⊢
  by_cases hlt : i < n
  · obtain ⟨d, hd⟩ : ∃ d, l[i]? = some d := ⟨_, List.getElem?_eq_getElem (by omega)⟩
    have a0 := hc i d hd
    have HE : Hid (Nu.dig l i = d) := (show _ = _ by unfold Nu.dig; rw [hd]; rfl)
    rw [HE.out]
    clear hc hd HE hn
    go_enter Try.func33, Try.ntmps33
    go_wp2_with fail
    go_ret
    exact ⟨rfl, rfl⟩
  · have HE : Hid (Nu.dig l i = 0) := (show _ = _ from Nu.dig_beyond (by omega))
    rw [HE.out]
    clear hc HE hn
    go_enter Try.func33, Try.ntmps33
    go_wp2_with fail
    go_ret
    exact ⟨rfl, rfl⟩
theorem digit_is {v : Value} {l : List Nat} {i d : Nat} {w : World} (h : DRow v l w) (hl : l.length ≤ 1000000) (hi : i ≤ 1000000) (hd : Hid (Nu.dig l i = d)) :
    Calls Try.prog 33 #[v, .int .i64 (i : Int)] w fun e w' => e = .returned (.int .i64 (d : Int)) ∧ w' = w := by
  rw [← hd.out]; exact digit_any v l i w h hl hi

/-- A number that is told by a variable of the call's own. -/
theorem ret_num {R : Ending → World → Prop} {fn : Func} {k : Nat} (hf : fn.results = #[.cell k 31]) (tmps : Array Value) (w : World) (b : Nat) (x y : Value) (fr : Nat × Nat) (hp : tmps[k]? = some (.pointer (some ⟨b, 0, none⟩))) (hb : w.heap[b]? = some (.cells #[x, y] 31 fr)) (h : R (.returned (.agg #[x, y])) w) :
    bodyPost Try.prog fn R Exit.ret { tmps := tmps, defers := [] } w := by
  have h0 : w.cell? ⟨b, 0, none⟩ = some x := by simp [World.cell?, hb]
  have h1 : w.cell? ⟨b, 1, none⟩ = some y := by simp [World.cell?, hb]
  refine ⟨rfl, .agg #[x, y], ?_, h⟩
  simp [results, hf, hp, go_sem, h0, h1]
theorem num_box (w : World) (w2 : World) (hb : ButD (fun b => some (w.heap.size + 1) = some b) ((w.alloc (.cells #[.bool false, .slice none 0 0] 31)).alloc (.cells #[] 3)) w2) : w2.heap[w.heap.size]? = some (.cells #[.bool false, .slice none 0 0] 31) := by
  rw [hb.block w.heap.size (by simp; omega) (by simp)]
  show ((w.heap.push _).push _)[_]? = _
  rw [Array.getElem?_push, if_neg (by simp), Array.getElem?_push, if_pos rfl]
theorem num_row (w : World) (g o : Nat) (l : List Nat) (hg : g < w.heap.size) (hc : ∀ k c, l[k]? = some c → w.cell? ⟨g, o + k, none⟩ = some (dI c)) (k : Nat) : ∀ (j d : Nat), (l.take k)[j]? = some d → ((w.alloc (.cells #[.bool false, .slice none 0 0] 31)).alloc (.cells #[] 3)).cell? (Addr.add ⟨g, o, none⟩ j) = some (dI d) := by
  intro j d hj
  rw [List.getElem?_take] at hj
  split at hj
  · have := ((((Below.refl w.heap.size w).alloc (Nat.le_refl _) (.cells #[.bool false, .slice none 0 0] 31)).alloc (by simp) (.cells #[] 3)).cell (p := ⟨g, o + j, none⟩) hg).trans (hc j d hj)
    unfold Addr.add
    split
    · rename_i e; subst e; exact this
    · exact this
  · cases hj

theorem num_cells {w2 : World} {b : Nat} {x y : Value} {t : TypeId} (h : w2.heap[b]? = some (.cells #[x, y] t)) : Hid (w2.heap[b]? = some (.cells #[x, y] t)) ∧ w2.cell? ⟨b, 0, none⟩ = some x ∧ w2.cell? ⟨b, 1, none⟩ = some y ∧ w2.frozen? ⟨b, 0, none⟩ = false ∧ w2.frozen? ⟨b, 1, none⟩ = false := by
  refine ⟨h, ?_, ?_, ?_, ?_⟩
  · simp [World.cell?, h]
  · simp [World.cell?, h]
  · simp [World.frozen?, h]
  · simp [World.frozen?, h]

theorem num_set {w2 : World} {b : Nat} {x y x' y' : Value} {t : TypeId} (h : w2.heap[b]? = some (.cells #[x, y] t)) : ((w2.setCell ⟨b, 0, none⟩ x').setCell ⟨b, 1, none⟩ y').heap[b]? = some (.cells #[x', y'] t) := by
  unfold World.setCell
  simp only [Array.getElem?_modify, if_true, h, Option.map_some]
  rfl
/-- What a function tells that builds a number in a variable of its own. -/
theorem num_fin {w w2 : World} {s : Bool} {pr : Option Addr} {cr n : Nat} {l : List Nat} (hb : ButD (fun b => some (w.heap.size + 1) = some b) ((w.alloc (.cells #[.bool false, .slice none 0 0] 31)).alloc (.cells #[] 3)) w2)
    (ho : w2.ownsRow (w.heap.size + 1) 3 1 (.slice pr n cr) n (l.map dI)) :
    DRow (.slice pr n cr) l ((w2.setCell ⟨w.heap.size, 0, none⟩ (.bool s)).setCell ⟨w.heap.size, 1, none⟩ (.slice pr n cr)) ∧ Below w.heap.size w ((w2.setCell ⟨w.heap.size, 0, none⟩ (.bool s)).setCell ⟨w.heap.size, 1, none⟩ (.slice pr n cr)) := by
  refine ⟨own_drow (own_setD (own_setD ho _ (by show w.heap.size < _; omega)) _ (by show w.heap.size < _; omega)), ?_⟩
  have h1 : Below w.heap.size w ((w.alloc (.cells #[.bool false, .slice none 0 0] 31)).alloc (.cells #[] 3)) := ((Below.refl _ w).alloc (Nat.le_refl _) _).alloc (by simp) _
  exact ((h1.trans (hb.below (by simp; omega) (fun b hb e => by simp at e; omega))).setCell (p := ⟨w.heap.size, 0, none⟩) (Nat.le_refl _) _).setCell (p := ⟨w.heap.size, 1, none⟩) (Nat.le_refl _) _

set_option maxHeartbeats 2000000 in
theorem whole_any (s : Bool) (v : Value) (l : List Nat) (w : World) (h : DRow v l w) (hl : l.length ≤ 100000) :
    Calls Try.prog 30 #[.bool s, v] w fun e w' => ∃ v', e = .returned (.agg #[.bool (s && decide (0 < Nu.trim l l.length)), v']) ∧ DRow v' (Nu.trimmed l) w' ∧ Below w.heap.size w w' := by
  rcases h with ⟨rfl, rfl⟩ | ⟨g, o, cap, rfl, hg, hcap, hc⟩
  · cases s
    all_goals
      go_enter Try.func30, Try.ntmps30
      go_wp2_with fail
      go_loop [5] (fun v5 => v5 = .int .i64 0) (fun v5 => 0)
      case atStart => rfl
      case round =>
        subst hrel
        go_wp2_with (at_builtin; refine wpList_append_own_none rfl _ _ _ rfl (w.heap.size + 1) 3 _ 1 Try.underlying29 (info_parts infoInt).choose_spec.1 _ 0 [] rfl (own_empty (w.alloc (.cells #[.bool false, .slice none 0 0] 31)) _ (by simp) (w.heap.size + 1) (by simp)) rfl ?_)
        refine ret_num rfl _ _ w.heap.size _ _ _ rfl (show ((w.heap.push _).push _)[_]? = _ by rw [Array.getElem?_push, if_neg (by simp), Array.getElem?_push, if_pos rfl]) ?_
        exact ⟨_, rfl, Or.inr ⟨w.heap.size + 1, 0, 0, rfl, by simp, Nat.le_refl _, fun k c h => by simp [Nu.trimmed] at h⟩, ((Below.refl w.heap.size w).alloc (Nat.le_refl _) _).alloc (by simp) _⟩
  have HC := Lib.hid hc
  obtain ⟨n, hn⟩ : ∃ n, n = l.length := ⟨_, rfl⟩
  rw [← hn] at hl hcap ⊢
  have HN := Lib.hid hn
  clear hc hn
  cases s
  all_goals
    go_enter Try.func30, Try.ntmps30
    go_wp2_with fail
    go_loop [5] (fun v5 => ∃ k : Nat, v5 = .int .i64 k ∧ k ≤ n ∧ Hid (Nu.trim l n = Nu.trim l k)) (fun v5 => (intOf v5).toNat)
    case atStart => exact ⟨n, rfl, Nat.le_refl _, rfl⟩
    case round =>
      obtain ⟨k, rfl, hk, HT⟩ := hrel
      have HLT : Hid ((l.take k).length = k) := (show _ = _ by rw [List.length_take, ← HN.out]; omega)
      have HCL := Lib.hid (num_row w g o l hg HC.out k)
      by_cases hz : k = 0 ∨ Nu.dig l (k - 1) ≠ 0
      · have HT2 : Hid (Nu.trim l n = k) := (show _ = _ by
          rw [HT.out]
          cases k with
          | zero => rfl
          | succ k => rw [Nu.trim, if_neg]; exact hz.resolve_left (by omega))
        have HTR : Hid (Nu.trimmed l = l.take k) := (show _ = _ by unfold Nu.trimmed; rw [← HN.out, HT2.out])
        cases k with
        | zero =>
          have HTR0 : Hid (Nu.trimmed l = []) := (show _ = _ by rw [HTR.out]; rfl)
          clear HT hz
          go_wp2_with fail
          refine ret_num rfl _ _ w.heap.size _ _ _ rfl (show ((w.heap.push _).push _)[_]? = _ by rw [Array.getElem?_push, if_neg (by simp), Array.getElem?_push, if_pos rfl]) ?_
          refine ⟨_, by first | rfl | (rw [HT2.out]; rfl), Or.inr ⟨w.heap.size + 1, 0, 0, by rw [HTR0.out]; rfl, by simp, by rw [HTR0.out]; simp, by rw [HTR0.out]; simp⟩, ((Below.refl w.heap.size w).alloc (Nat.le_refl _) _).alloc (by simp) _⟩
        | succ k =>
          have hd0 : Nu.dig l k ≠ 0 := hz.resolve_left (by omega)
          obtain ⟨d, hd⟩ : ∃ d, l[k]? = some d := ⟨_, List.getElem?_eq_getElem (by have := HN.out; omega)⟩
          have a0 := HC.out k d hd
          have h0' : ¬ ((d : Int) = 0) := by
            unfold Nu.dig at hd0
            rw [hd] at hd0
            simp only [Option.getD_some] at hd0
            omega
          clear HT hz hd hd0
          go_wp2_with (at_builtin; refine wpList_drow rfl _ _ rfl (w.heap.size + 1) 0 (k + 1) _ [] _ (own_empty (w.alloc (.cells #[.bool false, .slice none 0 0] 31)) _ (by simp) (w.heap.size + 1) (by simp)) (by simp) (l.take (k + 1)) HLT.out _ _ rfl rfl HCL.out (by omega) ?_; intro v2 w2 HO HB; obtain ⟨pr, cr, rfl⟩ := own_formD HO.out; obtain ⟨hN2, c0, c1, f0, f1⟩ := num_cells (num_box w w2 HB.out))
          refine ret_num rfl _ _ w.heap.size _ _ _ rfl (num_set hN2.out) ?_
          have HO2 : w2.ownsRow (w.heap.size + 1) 3 1 (.slice pr (k + 1) cr) (k + 1) ((l.take (k + 1)).map dI) := by simpa using HO.out
          obtain ⟨hD, hbel⟩ := num_fin (s := _) HB.out HO2
          refine ⟨.slice pr (k + 1) cr, by first | rfl | (rw [HT2.out]; simp; done), ?_, hbel⟩
          rw [HTR.out]
          exact hD
      · have hk0 : k ≠ 0 := fun e => hz (Or.inl e)
        have hd0 : Nu.dig l (k - 1) = 0 := Classical.byContradiction fun e => hz (Or.inr e)
        obtain ⟨k, rfl⟩ : ∃ m, k = m + 1 := ⟨k - 1, by omega⟩
        rw [Nat.add_sub_cancel] at hd0
        obtain ⟨d, hd⟩ : ∃ d, l[k]? = some d := ⟨_, List.getElem?_eq_getElem (by have := HN.out; omega)⟩
        have hdd : d = 0 := by
          unfold Nu.dig at hd0
          rw [hd] at hd0
          simpa using hd0
        subst hdd
        have a0 := HC.out k 0 hd
        have HT2 : Hid (Nu.trim l n = Nu.trim l k) := (show _ = _ by rw [HT.out, Nu.trim, if_pos hd0])
        clear HT hd hd0 hz HCL HLT
        go_wp2_with fail
        refine ⟨⟨k, by go_num, by omega, HT2⟩, by simp [intOf]⟩
end Go.Proofs.Ytaekjkihdecmcaa
