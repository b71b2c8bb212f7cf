/-
  The reader of a source in memory, at this program: its three rows, and what each step leaves of it; no walk is here.
-/
import Derived.Test.YtbdjccmcdifjcaaGreatDoorSplit
set_option linter.unusedVariables false
set_option linter.unusedSimpArgs false
namespace Go.Proofs.YtbdjccmcdifjcaaGreatDoor
open Go.RowKit Go.Shelf

theorem infoBr : (Tryz.prog.info? 75).map (fun i => (i.zero, i.size, i.bytes)) = some (some (.agg #[.int .i64 0, .string ⟨#[]⟩]), 2, 24) := by kernel_rfl

/-- What closes a bracket. -/
def Sp.closer (t : T4) : Sp.Bs := if Sp.bk t = 1 then [41] else if Sp.bk t = 2 then [93] else [125]
def c2 (x : T4) : List Value := [.int .i64 x.2.1, .string ⟨(Sp.closer x).toArray⟩]
/-- Value v is a row of brackets that are open. -/
def RowB (B : Nat) (v : Value) (l : List T4) (w : World) : Prop := w.ownsRow B 75 2 v l.length (l.flatMap c2)

theorem c2_at (l : List T4) (k j : Nat) (hj : j < 2) : (l.flatMap c2)[k * 2 + j]? = (l[k]?).bind fun x => (c2 x)[j]? := by
  induction l generalizing k with
  | nil => simp
  | cons x l ih =>
    rw [List.flatMap_cons]
    cases k with
    | zero =>
      rw [List.getElem?_append_left (by simp [c2]; omega)]
      simp
    | succ k =>
      rw [List.getElem?_append_right (by simp [c2]; omega)]
      have e : (k + 1) * 2 + j - (c2 x).length = k * 2 + j := by simp [c2]; omega
      rw [e, ih k]
      rfl
theorem c2_take : ∀ (l : List T4) (m : Nat), (l.flatMap c2).take (m * 2) = (l.take m).flatMap c2 := by
  intro l
  induction l with
  | nil => intro m; simp
  | cons x l ih =>
    intro m
    cases m with
    | zero => simp
    | succ m =>
      rw [List.flatMap_cons, List.take_succ_cons, List.flatMap_cons, ← ih m]
      have e : (m + 1) * 2 = m * 2 + 1 + 1 := by omega
      rw [e]
      simp [c2]
theorem RowB.shrink {B g cap m : Nat} {l : List T4} {w : World} (h : RowB B (.slice (some ⟨g, 0, none⟩) (m + 1) cap) l w) (hl : l.length = m + 1) : RowB B (.slice (some ⟨g, 0, none⟩) m cap) (l.take m) w := by
  unfold RowB at h ⊢
  have hlt : (l.take m).length = m := by rw [List.length_take]; omega
  rw [hl] at h
  rw [hlt]
  rcases h.2 with ⟨h', _⟩ | ⟨g', cap', cur, h', hb, hg, hnc, hcm, hcs, htake⟩
  · simp at h'
  · simp only [Value.slice.injEq, Option.some.injEq, Addr.mk.injEq, and_true, true_and] at h'
    obtain ⟨rfl, rfl⟩ := h'
    have h1 : cur.toList.take (m * 2) = (l.take m).flatMap c2 := by
      rw [← c2_take, ← htake, List.take_take]
      congr 1
      omega
    have h2 : ((l.take m).flatMap c2).length = m * 2 := by rw [← h1, List.length_take, Array.length_toList, hcs]; omega
    exact ⟨h2, .inr ⟨g, cap, cur, rfl, hb, hg, by omega, hcm, hcs, h1⟩⟩
/-- What a row of brackets gives a walk. -/
theorem RowB.form {B : Nat} {v : Value} {l : List T4} {w : World} (h : RowB B v l w) : ∃ pa cap, v = .slice pa l.length cap ∧ l.length ≤ cap ∧ ∀ k x, l[k]? = some x → ∃ g, pa = some ⟨g, 0, none⟩ ∧ g < w.heap.size ∧ B ≤ g ∧
    w.cell? ⟨g, k * 2, none⟩ = some (.int .i64 x.2.1) ∧ w.cell? ⟨g, k * 2 + 1, none⟩ = some (.string ⟨(Sp.closer x).toArray⟩) := by
  have hc := fun g hg j u hj => World.ownsRow.cells h (g := g) hg j u hj
  rcases h.2 with ⟨rfl, hn⟩ | ⟨g, cap, cur, rfl, hbg, hg, hcap, _⟩
  · refine ⟨none, 0, by rw [hn], by omega, fun k x hx => ?_⟩
    have : l = [] := List.eq_nil_of_length_eq_zero hn
    rw [this] at hx
    cases hx
  · refine ⟨some ⟨g, 0, none⟩, cap, rfl, hcap, fun k x hx => ⟨g, rfl, heap_of_some hg, hbg, ?_⟩⟩
    have at0 := fun j (hj : j < 2) u (hu : (c2 x)[j]? = some u) => hc g rfl (k * 2 + j) u (by rw [c2_at l k j hj, hx]; exact hu)
    have a0 := at0 0 (by omega) _ rfl
    have a1 := at0 1 (by omega) _ rfl
    simp only [Addr.add_lit, Nat.zero_add, Nat.add_zero] at a0 a1
    exact ⟨a0, a1⟩
theorem RowI.any {B : Nat} {v : Value} {l : List Nat} {w : World} (h : RowI B v l w) : ∃ pa cap, v = .slice pa l.length cap ∧ l.length ≤ cap ∧ ∀ (k : Nat) (x : Nat), l[k]? = some x → ∃ g, pa = some ⟨g, 0, none⟩ ∧ g < w.heap.size ∧ B ≤ g ∧ w.cell? ⟨g, k, none⟩ = some (.int .i64 (x : Int)) := by
  rcases h.2 with ⟨rfl, hn⟩ | ⟨g, cap, cur, rfl, hbg, hg, hcap, _⟩
  · refine ⟨none, 0, by rw [hn], by omega, fun k x hx => ?_⟩
    have : l = [] := List.eq_nil_of_length_eq_zero hn
    rw [this] at hx
    cases hx
  · obtain ⟨g', cap', he, hc, hg', hb', hcell⟩ := RowI.form h (by simp)
    cases he
    exact ⟨some ⟨g, 0, none⟩, cap, rfl, hcap, fun k x hx => ⟨g, rfl, hg', hb', hcell k x hx⟩⟩

/-- Block b is a reader: its tokens, its brackets, its blocks. -/
structure Rd (B b : Nat) (v5 v6 v7 : Value) (out opn : List T4) (bs : List Nat) (w : World) : Prop where
  heap : w.heap[b]? = some (.cells #[v5, v6, v7] 54)
  out : Row4 B v5 out w
  opn : RowB B v6 opn.reverse w
  blk : RowI B v7 bs.reverse w

theorem own_past {B T n k : Nat} {v : Value} {xs : List Value} {w w' : World} (h : w.ownsRow B T n v k xs) (hb : Below w.heap.size w w') : w'.ownsRow B T n v k xs := by
  refine ⟨h.1, ?_⟩
  rcases h.2 with hn | ⟨g, cap, cur, hv, hbg, hg, rest⟩
  · exact .inl hn
  · exact .inr ⟨g, cap, cur, hv, hbg, (hb.block g (heap_of_some hg)).trans hg, rest⟩
/-- What stays through a step of the reader: what lay below n, whatever is no cells, and what lay below B beside the reader. -/
def Kp (n b B : Nat) (w w' : World) : Prop := Below n w w' ∧ KeepsOthers w w' ∧ ∀ k, k < B → k ≠ b → w'.heap[k]? = w.heap[k]?
theorem Kp.refl {b B : Nat} (n : Nat) (w : World) : Kp n b B w w := ⟨Below.refl _ _, KeepsOthers.refl _, fun _ _ _ => rfl⟩
theorem Kp.trans {n b B : Nat} {a c d : World} (h : Kp n b B a c) (k : Kp n b B c d) : Kp n b B a d := ⟨h.1.trans k.1, h.2.1.trans k.2.1, fun i hi hb => (k.2.2 i hi hb).trans (h.2.2 i hi hb)⟩
theorem Kp.setCell {n b B : Nat} {w w' : World} (h : Kp n b B w w') (a : Addr) (ha : n ≤ a.block) (v : Value) (e : a.block = b := by rfl) : Kp n b B w (w'.setCell a v) :=
  ⟨h.1.setCell ha v, h.2.1.trans (KeepsOthers.setCell _ _ _), fun k hk hb => (heap_setCell_other w' a k v (fun e' => hb (e'.trans e))).trans (h.2.2 k hk hb)⟩
theorem Kp.alloc {n b B : Nat} {w w' : World} (h : Kp n b B w w') (hB : B ≤ w'.heap.size) (o : Obj) (hn : n ≤ B := by assumption) : Kp n b B w (w'.alloc o) :=
  ⟨h.1.alloc (Nat.le_trans hn hB) o, h.2.1.trans (KeepsOthers.alloc _ _), fun k hk hb => (Below.heap_alloc w' o k (Nat.lt_of_lt_of_le hk hB)).trans (h.2.2 k hk hb)⟩
theorem Kp.of_below {n b B : Nat} {w w' : World} (h : Below w.heap.size w w') (hB : B ≤ w.heap.size) (hn : n ≤ B := by assumption) : Kp n b B w w' :=
  ⟨h.mono (Nat.le_trans hn hB), ⟨h.size, fun k o hk _ => (h.block k (Array.getElem?_eq_some_iff.1 hk).1).trans hk⟩, fun k hk _ => h.block k (Nat.lt_of_lt_of_le hk hB)⟩
theorem own_cells {w : World} {B T n k : Nat} {v : Value} {xs : List Value} (h : w.ownsRow B T n v k xs) : ∀ (j : Nat) (o : Obj), v.ownBlock = some j → w.heap[j]? = some o → o.isCells = true := by
  intro j o hj ho
  rcases h.2 with ⟨rfl, _⟩ | ⟨g, cap, cur, rfl, _, hg, _⟩
  · cases hj
  · cases hj
    rw [hg] at ho
    cases ho
    rfl
theorem Kp.grown {n b T sz k B : Nat} {w w1 w2 : World} {v : Value} {xs : List Value} (h : Kp n b B w w1) (ho : w1.ownsRow B T sz v k xs) (hn : n ≤ B) (hB : B ≤ w1.heap.size) (hg : w1.grownBy w2 v.ownBlock) : Kp n b B w w2 :=
  ⟨h.1.grown hg (Nat.le_trans hn hB) (fun j hj => Nat.le_trans hn (ho.lt j hj).1), h.2.1.trans (KeepsOthers.of_grownBy hg (own_cells ho)), fun j hj hb => (hg.block j (Nat.lt_of_lt_of_le hj hB) (fun e => Nat.not_le_of_lt hj (ho.lt j e.symm).1)).trans (h.2.2 j hj hb)⟩

theorem Rd.lt {B b : Nat} {v5 v6 v7 : Value} {out opn : List T4} {bs : List Nat} {w : World} (h : Rd B b v5 v6 v7 out opn bs w) : b < w.heap.size := heap_of_some h.heap
theorem Rd.below {B b : Nat} {v5 v6 v7 : Value} {out opn : List T4} {bs : List Nat} {w w' : World} (h : Rd B b v5 v6 v7 out opn bs w) (hb : Below w.heap.size w w') : Rd B b v5 v6 v7 out opn bs w' :=
  ⟨(hb.block b h.lt).trans h.heap, h.out.below hb, own_past h.opn hb, own_past h.blk hb⟩
theorem Rd.cells {B b : Nat} {v5 v6 v7 : Value} {out opn : List T4} {bs : List Nat} {w : World} (h : Rd B b v5 v6 v7 out opn bs w) :
    w.cell? ⟨b, 0, none⟩ = some v5 ∧ w.cell? ⟨b, 1, none⟩ = some v6 ∧ w.cell? ⟨b, 2, none⟩ = some v7 ∧ w.frozen? ⟨b, 0, none⟩ = false ∧ w.frozen? ⟨b, 1, none⟩ = false ∧ w.frozen? ⟨b, 2, none⟩ = false := by
  have := h.heap
  refine ⟨?_, ?_, ?_, ?_, ?_, ?_⟩ <;> simp [World.cell?, World.frozen?, this]
/-- A row of another kind of cells does not lie in a reader. -/
theorem apart_reader {w : World} {b B T n k : Nat} {v : Value} {xs : List Value} {cs : Array Value} (h : w.ownsRow B T n v k xs) (hb : w.heap[b]? = some (.cells cs 54)) (hT : T ≠ 54) : v.ownBlock ≠ some b := by
  intro e
  rcases h.2 with ⟨rfl, _⟩ | ⟨g, cap, cur, rfl, _, hg, _⟩
  · cases e
  · cases e
    rw [hb] at hg
    cases hg
    exact hT rfl
theorem own_setCell {w : World} {b i B T n k : Nat} {v u : Value} {xs : List Value} (h : w.ownsRow B T n v k xs) (hne : v.ownBlock ≠ some b) : (w.setCell ⟨b, i, none⟩ u).ownsRow B T n v k xs := by
  refine ⟨h.1, ?_⟩
  rcases h.2 with hn | ⟨g, cap, cur, rfl, hb, hg, rest⟩
  · exact .inl hn
  · refine .inr ⟨g, cap, cur, rfl, hb, ?_, rest⟩
    rw [heap_setCell_other w ⟨b, i, none⟩ g u (fun e => hne (by rw [e]; rfl))]
    exact hg
/-- The first field is a row that has grown. -/
theorem Rd.set5 {B b : Nat} {v5 v6 v7 v' : Value} {out opn out' : List T4} {bs : List Nat} {w w' : World} (h : Rd B b v5 v6 v7 out opn bs w) (hR : Row4 B v' out' w') (hg : w.grownBy w' v5.ownBlock) : Rd B b v' v6 v7 out' opn bs (w'.setCell ⟨b, 0, none⟩ v') := by
  have n5 := apart_reader h.out h.heap (by decide)
  have hb := hg.block b h.lt (fun e => n5 e.symm)
  have hb' := hb.trans h.heap
  have a6 : v6.ownBlock = none ∨ v6.ownBlock ≠ v5.ownBlock := (Apart.types h.out h.opn (by decide)).ne
  have a7 : v7.ownBlock = none ∨ v7.ownBlock ≠ v5.ownBlock := (Apart.types h.out h.blk (by decide)).ne
  have k6 := World.ownsRow.kept h.opn hg a6
  have k7 := World.ownsRow.kept h.blk hg a7
  exact ⟨heap_setCell_same w' b 0 _ _ v' hb', own_setCell hR (apart_reader hR hb' (by decide)), own_setCell k6 (apart_reader k6 hb' (by decide)), own_setCell k7 (apart_reader k7 hb' (by decide))⟩
theorem Rd.set6 {B b : Nat} {v5 v6 v7 v' : Value} {out opn opn' : List T4} {bs : List Nat} {w w' : World} (h : Rd B b v5 v6 v7 out opn bs w) (hR : RowB B v' opn'.reverse w') (hg : w.grownBy w' v6.ownBlock) : Rd B b v5 v' v7 out opn' bs (w'.setCell ⟨b, 1, none⟩ v') := by
  have n6 := apart_reader h.opn h.heap (by decide)
  have hb := hg.block b h.lt (fun e => n6 e.symm)
  have hb' := hb.trans h.heap
  have a5 : v5.ownBlock = none ∨ v5.ownBlock ≠ v6.ownBlock := (Apart.types h.opn h.out (by decide)).ne
  have a7 : v7.ownBlock = none ∨ v7.ownBlock ≠ v6.ownBlock := (Apart.types h.opn h.blk (by decide)).ne
  have k5 := World.ownsRow.kept h.out hg a5
  have k7 := World.ownsRow.kept h.blk hg a7
  exact ⟨heap_setCell_same w' b 1 _ _ v' hb', own_setCell k5 (apart_reader k5 hb' (by decide)), own_setCell hR (apart_reader hR hb' (by decide)), own_setCell k7 (apart_reader k7 hb' (by decide))⟩
theorem Rd.set7 {B b : Nat} {v5 v6 v7 v' : Value} {out opn : List T4} {bs bs' : List Nat} {w w' : World} (h : Rd B b v5 v6 v7 out opn bs w) (hR : RowI B v' bs'.reverse w') (hg : w.grownBy w' v7.ownBlock) : Rd B b v5 v6 v' out opn bs' (w'.setCell ⟨b, 2, none⟩ v') := by
  have n7 := apart_reader h.blk h.heap (by decide)
  have hb := hg.block b h.lt (fun e => n7 e.symm)
  have hb' := hb.trans h.heap
  have a5 : v5.ownBlock = none ∨ v5.ownBlock ≠ v7.ownBlock := (Apart.types h.blk h.out (by decide)).ne
  have a6 : v6.ownBlock = none ∨ v6.ownBlock ≠ v7.ownBlock := (Apart.types h.blk h.opn (by decide)).ne
  have k5 := World.ownsRow.kept h.out hg a5
  have k6 := World.ownsRow.kept h.opn hg a6
  exact ⟨heap_setCell_same w' b 2 _ _ v' hb', own_setCell k5 (apart_reader k5 hb' (by decide)), own_setCell k6 (apart_reader k6 hb' (by decide)), own_setCell hR (apart_reader hR hb' (by decide))⟩
/-- Rows of tokens lie as they lay. -/
def Kt (w w' : World) : Prop := ∀ (k : Nat) (cs : Array Value) (fz : Nat × Nat), w.heap[k]? = some (.cells cs 37 fz) → w'.heap[k]? = some (.cells cs 37 fz)
theorem Kt.refl (w : World) : Kt w w := fun _ _ _ h => h
theorem Kt.trans {a b c : World} (h : Kt a b) (k : Kt b c) : Kt a c := fun i cs fz hi => k i cs fz (h i cs fz hi)
theorem Kt.of_below {w w' : World} (h : Below w.heap.size w w') : Kt w w' := fun k cs fz hk => (h.block k (Array.getElem?_eq_some_iff.1 hk).1).trans hk
theorem Kt.of_heap {w w1 w2 : World} (h : Kt w w1) (e : w2.heap = w1.heap) : Kt w w2 := fun k cs fz hk => by rw [e]; exact h k cs fz hk
theorem Kt.grown {T sz k B : Nat} {w w1 : World} {v : Value} {xs : List Value} (ho : w.ownsRow B T sz v k xs) (hT : T ≠ 37) (hg : w.grownBy w1 v.ownBlock) : Kt w w1 := by
  intro j cs fz hj
  refine (hg.block j (Array.getElem?_eq_some_iff.1 hj).1 ?_).trans hj
  intro e
  rcases ho.2 with ⟨rfl, _⟩ | ⟨g, cap, cur, rfl, _, hgg, _⟩
  · cases e
  · cases e
    rw [hj] at hgg
    cases hgg
    exact hT rfl
theorem Kt.setReader {w : World} {b i : Nat} {cs : Array Value} (hb : w.heap[b]? = some (.cells cs 54)) (u : Value) : Kt w (w.setCell ⟨b, i, none⟩ u) := by
  intro j cs' fz hj
  rw [heap_setCell_other w ⟨b, i, none⟩ j u ?_]
  · exact hj
  · rintro rfl
    rw [hb] at hj
    cases hj
theorem Row4.kt {B : Nat} {v : Value} {l : List T4} {w w' : World} (h : Row4 B v l w) (k : Kt w w') : Row4 B v l w' := by
  refine ⟨h.1, ?_⟩
  rcases h.2 with hn | ⟨g, cap, cur, hv, hbg, hg, rest⟩
  · exact .inl hn
  · exact .inr ⟨g, cap, cur, hv, hbg, k g cur (0, 0) hg, rest⟩
theorem grown_refl (w : World) (r : Option Nat) : w.grownBy w r := ⟨rfl, rfl, rfl, Nat.le_refl _, fun _ _ _ => rfl⟩
end Go.Proofs.YtbdjccmcdifjcaaGreatDoor
