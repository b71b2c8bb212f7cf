/-
  What is below a node, as an iterator, at this program.
-/
import Derived.Test.YtkmmcphiijolkaaDoorTreeG
import Derived.Laws.EntriesVeiled
set_option linter.unusedVariables false
set_option linter.unusedSimpArgs false
namespace Go.Proofs.YtkmmcphiijolkaaDoor
open Go.RowKit Go.Shelf
open Tr
attribute [local go_sem] Oper.semAt_some

theorem newCell (W : World) (v : Value) (t : TypeId) (b : Nat) (hb : b = W.heap.size) : (W.alloc (.cells #[v] t)).cell? ⟨b, 0, none⟩ = some v ∧ (W.alloc (.cells #[v] t)).frozen? ⟨b, 0, none⟩ = false := by
  subst hb
  constructor <;> simp

set_option maxHeartbeats 4000000 in
theorem below_gives (F : Fence) (hd : F.depth = none) (hro : F.round = none) (n : Nat) (hf89 : F.fn 36) (hf90 : F.fn 37) (hf45 : F.fn 27) (hf40 : F.fn 39) (hf87 : F.fn 68)
    (w0 : World) (tv : Value) (t : List NodeD) (ha : ArgT tv t w0) (hl : t.length ≤ 1000000) (hks : ∀ x ∈ t, x.2.2.2.2.length ≤ maxLen) (node : Int) (b1 b2 : Nat) (R : World → Nat → Prop) (w : World) (hD : Dyn R w.heap.size)
    (hb0 : Below w0.heap.size w0 w) (hR0 : ∀ A k, R A k → w0.heap.size ≤ k) (hb1 : b1 < w.heap.size) (hb2 : b2 < w.heap.size) (hn1 : ¬ R w b1)
    (h1 : w.cell? ⟨b1, 0, none⟩ = some tv) (h2 : w.cell? ⟨b2, 0, none⟩ = some (.int .i64 node)) :
    GivesR F n Tryd.prog 36 #[.pointer (some ⟨b1, 0, none⟩), .pointer (some ⟨b2, 0, none⟩)] (fun x : Nat => #[.int .i64 (x : Int)]) (Few t) (fun xs => xs = belowT t node) R w := by
  intro l J Jx W hl1 hlW hW hnl hr1 hJ hJx hY h0
  have hw0 := hb0.size
  have hWs := hW.size
  have hat : TellAt w0 R l (W.heap.size + 2) W.heap.size b1 (W.heap.size + 3) (W.heap.size + 1) W.heap.size (W.heap.size + 4) :=
    ⟨hR0, hD.mono hWs, by omega, hlW, ⟨by omega, by omega⟩, ⟨by omega, by omega, by omega⟩, ⟨by omega, by omega, by omega⟩, ⟨by omega, by omega, by omega⟩, ⟨by omega, by omega⟩, by omega⟩
  have hbW : Below w0.heap.size w0 W := hb0.trans (hW.mono hw0)
  have c1 : W.cell? ⟨b1, 0, none⟩ = some tv := (hW.cell (p := ⟨b1, 0, none⟩) hb1).trans h1
  have c2 : W.cell? ⟨b2, 0, none⟩ = some (.int .i64 node) := (hW.cell (p := ⟨b2, 0, none⟩) hb2).trans h2
  have hmm := @run_makeMap Tryd.prog
  have htell := tell_any F hd hro hf90 hf45 hf40 hf87 w0 tv t ha hl hks R l (W.heap.size + 2) W.heap.size b1 (W.heap.size + 3) (W.heap.size + 1) W.heap.size (W.heap.size + 4) hat J Jx hr1 hJ hJx
    (fun m pre x A hj hs hf => yieldAny hd m (hY pre x A hj hs hf))
  obtain ⟨k4, k4f⟩ := newCell (((W.alloc (.cells #[.func (.yield l) #[] #[]] 39)).alloc (.map #[] 0)).alloc (.cells #[.map (some (W.heap.size + 1))] 67)) .nilFunc 39 (W.heap.size + 1 + 1 + 1) (by simp)
  obtain ⟨X, hX⟩ : ∃ X, X = (((W.alloc (.cells #[.func (.yield l) #[] #[]] 39)).alloc (.map #[] 0)).alloc (.cells #[.map (some (W.heap.size + 1))] 67)).alloc (.cells #[(.func (.func 37) #[] #[.pointer (some ⟨W.heap.size + 1 + 1, 0, none⟩), .pointer (some ⟨W.heap.size, 0, none⟩), .pointer (some ⟨b1, 0, none⟩), .pointer (some ⟨W.heap.size + 1 + 1 + 1, 0, none⟩)])] 39) := ⟨_, rfl⟩
  have hbX : Below W.heap.size W X := by rw [hX]; exact ((((Below.refl _ W).alloc (Nat.le_refl _) _).alloc (by simp) _).alloc (by simp; omega) _).alloc (by simp; omega) _
  have hsX : X.heap.size = W.heap.size + 4 := by rw [hX]; simp
  have g1 := (hbX.cell (p := ⟨b1, 0, none⟩) (by show b1 < _; omega)).trans c1
  have g2 := (hbX.cell (p := ⟨b2, 0, none⟩) (by show b2 < _; omega)).trans c2
  have g3 : X.cell? ⟨W.heap.size + 1 + 1 + 1, 0, none⟩ = some (.func (.func 37) #[] #[.pointer (some ⟨W.heap.size + 1 + 1, 0, none⟩), .pointer (some ⟨W.heap.size, 0, none⟩), .pointer (some ⟨b1, 0, none⟩), .pointer (some ⟨W.heap.size + 1 + 1 + 1, 0, none⟩)]) := by
    rw [hX, World.cell?_alloc_at _ _ _ _ (by simp)]; rfl
  have g4 : X.cell? ⟨W.heap.size + 1 + 1, 0, none⟩ = some (.map (some (W.heap.size + 1))) := by
    rw [hX, World.cell?_alloc_past _ _ _ (by simp), World.cell?_alloc_at _ _ _ _ (by simp)]; rfl
  have g5 : X.cell? ⟨W.heap.size, 0, none⟩ = some (.func (.yield l) #[] #[]) := by
    rw [hX, World.cell?_alloc_past _ _ _ (by simp; omega), World.cell?_alloc_past _ _ _ (by simp; omega), World.cell?_alloc_past _ _ _ (by simp), World.cell?_alloc_at _ _ _ _ rfl]; rfl
  have g6 : MapI X (W.heap.size + 1) 0 (fun _ => none) := by
    rw [hX]
    have := MapI.made (W.alloc (.cells #[.func (.yield l) #[] #[]] 39))
    rw [World.size_alloc] at this
    exact (this.alloc _).alloc _
  have hDW := hD.mono hWs
  have hnX : ∀ k, W.heap.size ≤ k → ¬ R X k := fun k hk e => by have := hr1 _ _ h0 (Nat.le_refl _) k (hDW _ _ hbX _ e); omega
  have hst : TellSt R w0 t tv l (W.heap.size + 2) W.heap.size b1 (W.heap.size + 3) (W.heap.size + 1) [] X :=
    ⟨g4, g5, g1, g3, g6.congr (fun x _ => by simp), hbW.trans (hbX.mono (by omega)), ⟨List.nodup_nil, fun y hy => by cases hy⟩, hnX _ (by omega), hnX _ (by omega), fun e => hn1 (hD _ _ hW _ (hDW _ _ hbX _ e)), hnX _ (by omega), hnX _ (by omega)⟩
  have hjX : J [] X := hJ _ _ _ h0 (Stp.all hbX (Nat.le_refl _)) (Nat.le_refl _)
  have hcX : Chg (fun A k => R A k ∨ k = l) W X := (Chg.refl _ W).of_below (hDW.or fun k => k = l) hbX (Nat.le_refl _) (Nat.le_refl _)
  have HT : Hid (∀ i : Nat, i < t.length → ∀ m, CallsIn F m Tryd.prog 37 #[.int .i64 (i : Int), .pointer (some ⟨W.heap.size + 1 + 1, 0, none⟩), .pointer (some ⟨W.heap.size, 0, none⟩), .pointer (some ⟨b1, 0, none⟩), .pointer (some ⟨W.heap.size + 1 + 1 + 1, 0, none⟩)] X fun e B =>
      (e = .returned (.bool true) ∨ e = .returned (.bool false)) ∧ Chg (fun A k => R A k ∨ k = l) W B ∧ (J (belowT t (i : Int)) B ∨ ∃ q, Jx q B)) := fun i hi m =>
    (htell t.length i [] X m hi hi (by omega) hst hjX).mono (fun e B ⟨hc, hor⟩ => by
      have h1 : Chg (fun A k => R A k ∨ k = l) W B := hcX.then hc (fun k hk e => by
        rcases e with e | e
        · exact e
        · omega)
      rcases hor with ⟨rfl, hj, _⟩ | ⟨rfl, q, hq⟩
      · exact ⟨Or.inl rfl, h1, Or.inl (by unfold belowT; rw [if_pos ⟨by omega, by omega⟩, Int.toNat_natCast]; exact hj)⟩
      · exact ⟨Or.inr rfl, h1, Or.inr ⟨q, hq⟩⟩)
  have HE : Hid (¬ (0 ≤ node ∧ node < (t.length : Int)) → Chg (fun A k => R A k ∨ k = l) W X ∧ J (belowT t node) X) := fun h => ⟨hcX, by unfold belowT; rw [if_neg h]; exact hjX⟩
  obtain ⟨pa, ca, rfl, fa⟩ := ha
  obtain ⟨m, hm⟩ : ∃ m, m = t.length := ⟨_, rfl⟩
  rw [← hm] at g1 hl
  have HM := Lib.hid hm
  rw [hX] at HT HE g1 g2 g3
  clear fa htell h1 h2 hY hks hst hjX hcX hnX hDW hr1 g4 g5 g6 hbX hsX hX hm c1 c2 hat hJ hJx h0
  refine callsIn_of_wp Tryd.func36 rfl hf89 ?_ hro
  simp only [Tryd.ntmps36, List.size_toArray, List.length_cons, List.length_nil, Nat.reduceAdd, Nat.reduceSub, Array.replicate_succ, Array.replicate_zero, List.push_toArray, List.append_toArray, List.nil_append, List.cons_append]
  by_cases hn0 : 0 ≤ node
  · by_cases hnl : node < (m : Int)
    · obtain ⟨i, rfl⟩ : ∃ i : Nat, node = (i : Int) := ⟨node.toNat, by omega⟩
      have hcall := HT.out i (by rw [← HM.out]; omega)
      clear HT HE HM
      gi_wp2_with ((try refine ⟨depthless hd _, ?_⟩); gi_at_call 37; refine (hcall _).mono ?_; clear hcall; rintro e B ⟨(rfl | rfl), hcB, hor⟩)
      · go_end0
        exact ⟨⟨_, rfl⟩, hcB, hor.elim (fun h => .inl ⟨_, rfl, h⟩) .inr⟩
      · go_end0
        exact ⟨⟨_, rfl⟩, hcB, hor.elim (fun h => .inl ⟨_, rfl, h⟩) .inr⟩
    · have hE := HE.out (by rw [← HM.out]; omega)
      have HE2 := Lib.hid hE
      clear HT HE HM hE
      gi_wp2
      go_end0
      exact ⟨⟨_, rfl⟩, HE2.out.1, .inl HE2.out.2⟩
  · have hE := HE.out (by rw [← HM.out]; omega)
    have HE2 := Lib.hid hE
    clear HT HE HM hE
    gi_wp2
    go_end0
    exact ⟨⟨_, rfl⟩, HE2.out.1, .inl HE2.out.2⟩
end Go.Proofs.YtkmmcphiijolkaaDoor
