/-
  Rows that lie apart, rows of numbers, rows cut short, at this program.
-/
import Derived.Test.YtbdjccmcdifjcaaGreatDoorLay
import Derived.Maps.AppendAt
set_option linter.unusedVariables false
set_option linter.unusedSimpArgs false
namespace Go.Proofs.YtbdjccmcdifjcaaGreatDoor
open Go.RowKit Go.Shelf

theorem infoStr : (Tryz.prog.info? 9).map (fun i => (i.zero, i.size, i.bytes)) = some (some (.string ⟨#[]⟩), 1, 16) := by kernel_rfl
theorem infoInt : (Tryz.prog.info? 3).map (fun i => (i.zero, i.size, i.bytes)) = some (some (.int .i64 0), 1, 8) := by kernel_rfl

/-- Rows of different kinds of cells lie apart. -/
theorem own_apart {w : World} {B B' T T' n n' k k' : Nat} {v v' : Value} {xs xs' : List Value} (h : w.ownsRow B T n v k xs) (h' : w.ownsRow B' T' n' v' k' xs') (hT : T ≠ T') : v.ownBlock = none ∨ v.ownBlock ≠ v'.ownBlock := by
  rcases h.2 with ⟨rfl, _⟩ | ⟨g, cap, cur, rfl, _, hg, _⟩
  · exact Or.inl rfl
  · right
    rcases h'.2 with ⟨rfl, _⟩ | ⟨g', cap', cur', rfl, _, hg', _⟩
    · intro e; cases e
    · intro e
      have : g = g' := by simpa [Value.ownBlock] using e
      subst this
      rw [hg] at hg'
      cases hg'
      exact hT rfl

theorem c4_take : ∀ (l : List T4) (m : Nat), (l.flatMap c4).take (m * 4) = (l.take m).flatMap c4 := by
  intro l
  induction l with
  | nil => intro m; simp
  | cons x l ih =>
    intro m
    cases m with
    | zero => simp
    | succ m =>
      rw [List.flatMap_cons, List.take_succ_cons, List.flatMap_cons, ← ih m]
      have e : (m + 1) * 4 = m * 4 + 1 + 1 + 1 + 1 := by omega
      rw [e]
      simp [c4]
theorem Row4.shrink {B g cap m : Nat} {l : List T4} {w : World} (h : Row4 B (.slice (some ⟨g, 0, none⟩) (m + 1) cap) l w) (hl : l.length = m + 1) : Row4 B (.slice (some ⟨g, 0, none⟩) m cap) (l.take m) w := by
  unfold Row4 at h ⊢
  have hlt : (l.take m).length = m := by rw [List.length_take]; omega
  rw [hl] at h
  rw [hlt]
  rcases h.2 with ⟨h', _⟩ | ⟨g', cap', cur, h', hb, hg, hnc, hcm, hcs, htake⟩
  · simp at h'
  · simp only [Value.slice.injEq, Option.some.injEq, Addr.mk.injEq, and_true, true_and] at h'
    obtain ⟨rfl, rfl⟩ := h'
    have h1 : cur.toList.take (m * 4) = (l.take m).flatMap c4 := by
      rw [← c4_take, ← htake, List.take_take]
      congr 1
      omega
    have h2 : ((l.take m).flatMap c4).length = m * 4 := by rw [← h1, List.length_take, Array.length_toList, hcs]; omega
    exact ⟨h2, .inr ⟨g, cap, cur, rfl, hb, hg, by omega, hcm, hcs, h1⟩⟩
theorem c4_len2 (l : List T4) : (l.flatMap c4).length = l.length * 4 := by
  induction l with
  | nil => rfl
  | cons x l ih => rw [List.flatMap_cons, List.length_append, ih, List.length_cons]; show 4 + _ = _; omega
theorem c4_one2 (l : List T4) : ∀ u ∈ l.flatMap c4, u.oneCell' = true := by
  intro u hu
  obtain ⟨x, _, hx⟩ := List.mem_flatMap.1 hu
  simp [c4] at hx
  rcases hx with rfl | rfl | rfl | rfl <;> rfl
/-- A row that lies at an address. -/
theorem Row4.laid2 {B : Nat} {v : Value} {l : List T4} {w : World} (h : Row4 B v l w) (hv : v ≠ .slice none 0 0) : ∃ g cap, v = .slice (some ⟨g, 0, none⟩) l.length cap ∧ l.length ≤ cap ∧ g < w.heap.size ∧ B ≤ g ∧ ∀ j u, (l.flatMap c4)[j]? = some u → w.cell? ((⟨g, 0, none⟩ : Addr).add j) = some u := by
  have hc := fun g hg j u hj => World.ownsRow.cells h (g := g) hg j u hj
  rcases h.2 with ⟨rfl, hn⟩ | ⟨g, cap, cur, rfl, hbg, hg, hcap, _⟩
  · exact absurd rfl hv
  · exact ⟨g, cap, rfl, hcap, heap_of_some hg, hbg, fun j u hj => hc g rfl j u hj⟩

/-- Two slices that own no block in common. -/
def Apart (v u : Value) : Prop := ∀ g, v.ownBlock = some g → u.ownBlock ≠ some g
theorem Apart.symm {v u : Value} (h : Apart v u) : Apart u v := fun g hu hv => h g hv hu
theorem Apart.ne {v u : Value} (h : Apart v u) : u.ownBlock = none ∨ u.ownBlock ≠ v.ownBlock := by
  cases hu : u.ownBlock with
  | none => exact Or.inl rfl
  | some g =>
    right
    intro e
    exact h g e.symm hu
theorem Apart.types {w : World} {B B' T T' n n' k k' : Nat} {v v' : Value} {xs xs' : List Value} (h : w.ownsRow B T n v k xs) (h' : w.ownsRow B' T' n' v' k' xs') (hT : T ≠ T') : Apart v v' := by
  intro g hg hg'
  rcases own_apart h h' hT with h1 | h1
  · rw [h1] at hg; cases hg
  · exact h1 (hg.trans hg'.symm)
/-- A slice that has grown lies where it lay, or in a new block: apart from what was there. -/
theorem Apart.grow {w : World} {B T n k : Nat} {v v' u : Value} {xs : List Value} (h : Apart v u) (hu : w.ownsRow B T n u k xs) (hb : v'.ownBlock = v.ownBlock ∨ v'.ownBlock = some w.heap.size) : Apart v' u := by
  intro g hg hg'
  rcases hb with hb | hb
  · exact h g (hb.symm.trans hg) hg'
  · have h1 := (hu.lt g hg').2
    rw [hb] at hg
    have := Option.some.inj hg
    omega
/-- A slice in a block that was made later. -/
theorem Apart.later {w w' : World} {B T n k T' n' k' : Nat} {v u : Value} {xs ys : List Value} (hu : w.ownsRow B T n u k xs) (hv : w'.ownsRow w.heap.size T' n' v k' ys) : Apart v u := by
  intro g hg hg'
  have h1 := (hu.lt g hg').2
  have h2 := (hv.lt g hg).1
  omega

def intRow (l : List Nat) : List Value := l.map fun (x : Nat) => Value.int .i64 (x : Int)
def RowI (B : Nat) (v : Value) (l : List Nat) (w : World) : Prop := w.ownsRow B 3 1 v l.length (intRow l)

theorem RowI.form {B : Nat} {v : Value} {l : List Nat} {w : World} (h : RowI B v l w) (hv : v ≠ .slice none 0 0) : ∃ g cap, v = .slice (some ⟨g, 0, none⟩) l.length cap ∧ l.length ≤ cap ∧ g < w.heap.size ∧ B ≤ g ∧ ∀ (k : Nat) (x : Nat), l[k]? = some x → w.cell? ⟨g, k, none⟩ = some (.int .i64 (x : Int)) := by
  have hc := fun g hg j u hj => World.ownsRow.cells h (g := g) hg j u hj
  rcases h.2 with ⟨rfl, hn⟩ | ⟨g, cap, cur, rfl, hbg, hg, hcap, _⟩
  · exact absurd rfl hv
  · refine ⟨g, cap, rfl, hcap, heap_of_some hg, hbg, fun k x hx => ?_⟩
    have := hc g rfl k (.int .i64 (x : Int)) (by unfold intRow; rw [List.getElem?_map, hx]; rfl)
    rw [Addr.add_lit, Nat.zero_add] at this
    exact this
theorem RowI.shrink {B g cap m : Nat} {l : List Nat} {w : World} (h : RowI B (.slice (some ⟨g, 0, none⟩) (m + 1) cap) l w) (hl : l.length = m + 1) : RowI B (.slice (some ⟨g, 0, none⟩) m cap) (l.take m) w := by
  unfold RowI at h ⊢
  have hlt : (l.take m).length = m := by rw [List.length_take]; omega
  rw [hl] at h
  rw [hlt]
  rcases h.2 with ⟨h', _⟩ | ⟨g', cap', cur, h', hb, hg, hnc, hcm, hcs, htake⟩
  · simp at h'
  · simp only [Value.slice.injEq, Option.some.injEq, Addr.mk.injEq, and_true, true_and] at h'
    obtain ⟨rfl, rfl⟩ := h'
    have h1 : cur.toList.take (m * 1) = intRow (l.take m) := by
      unfold intRow
      rw [List.map_take]
      have : l.map (fun (x : Nat) => Value.int .i64 (x : Int)) = intRow l := rfl
      rw [this, ← htake, List.take_take]
      congr 1
      omega
    have h2 : (intRow (l.take m)).length = m * 1 := by unfold intRow; rw [List.length_map, hlt]; omega
    exact ⟨h2, .inr ⟨g, cap, cur, rfl, hb, hg, by omega, hcm, hcs, h1⟩⟩
theorem Sp.brk_pos {opn ts : List T4} {x : T4} (h : 0 < Sp.bk x) : Sp.brk opn (x :: ts) = Sp.brk (x :: opn) ts := by cases opn <;> rw [Sp.brk, if_pos h]
theorem Sp.brk_zero {opn ts : List T4} {x : T4} (h : Sp.bk x = 0) : Sp.brk opn (x :: ts) = Sp.brk opn ts := by cases opn <;> rw [Sp.brk, if_neg (by omega), if_neg (by omega)]
theorem Sp.brk_none {ts : List T4} {x : T4} (h : Sp.bk x < 0) : Sp.brk [] (x :: ts) = .error x.2.1 := by rw [Sp.brk, if_neg (by omega), if_pos h]
theorem Sp.brk_shut {opn ts : List T4} {o x : T4} (h : Sp.bk x < 0) (h2 : Sp.bk o = - Sp.bk x) : Sp.brk (o :: opn) (x :: ts) = Sp.brk opn ts := by rw [Sp.brk, if_neg (by omega), if_pos h, if_pos h2]
theorem Sp.brk_odd {opn ts : List T4} {o x : T4} (h : Sp.bk x < 0) (h2 : ¬ Sp.bk o = - Sp.bk x) : Sp.brk (o :: opn) (x :: ts) = .error x.2.1 := by rw [Sp.brk, if_neg (by omega), if_pos h, if_neg h2]
theorem Sp.bk_in (x : T4) : -3 ≤ Sp.bk x ∧ Sp.bk x ≤ 3 := by
  unfold Sp.bk
  repeat' split
  all_goals omega
end Go.Proofs.YtbdjccmcdifjcaaGreatDoor
