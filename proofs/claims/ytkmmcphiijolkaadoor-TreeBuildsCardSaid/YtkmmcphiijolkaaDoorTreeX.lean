/-
  What a node of each kind must be, as a map of tests, at this program.
-/
import Derived.Test.YtkmmcphiijolkaaDoorTreeW
import Derived.Test.YtkmmcphiijolkaaDoorTreeM
import Derived.Maps.Own
set_option linter.unusedVariables false
set_option linter.unusedSimpArgs false
namespace Go.Proofs.YtkmmcphiijolkaaDoor
open Go.RowKit Go.Shelf
open Tr

/-- Tests that are values, each what it says. -/
def Bag (w : World) (E : List (Value × Test)) : Prop := ∀ p ∈ E, IsTest All2 p.2 p.1 w
/-- Block b is a map of tests: what L says. -/
def MapL (w : World) (b : Nat) (L : List (Int × Test)) : Prop := ∃ g n, MapI w b n g ∧ n ≤ L.length ∧ ∀ x, (Tr.look L x = none → g x = none) ∧ ∀ T, Tr.look L x = some T → ∃ v, g x = some v ∧ IsTest All2 T v w
theorem MapL.kept {w w' : World} {b : Nat} {L : List (Int × Test)} (h : MapL w b L) (hb : Below w.heap.size w w') : MapL w' b L := by
  obtain ⟨g, n, hm, hn, hx⟩ := h
  refine ⟨g, n, hm.below hb hm.lt, hn, fun x => ⟨(hx x).1, fun T hT => ?_⟩⟩
  obtain ⟨v, hv, ht⟩ := (hx x).2 T hT
  exact ⟨v, hv, ht.kept (Kept.of_below hb)⟩
structure Kst (w0 w : World) (b : Nat) (L : List (Int × Test)) (E : List (Value × Test)) : Prop where
  below : Below w0.heap.size w0 w
  bag : Bag w E
  hb : w0.heap.size ≤ b
  map : L = [] ∨ MapL w b L
theorem Kst.step {w0 w w' : World} {b : Nat} {L : List (Int × Test)} {E : List (Value × Test)} (h : Kst w0 w b L E) (hb : Below w.heap.size w w') : Kst w0 w' b L E :=
  ⟨h.below.trans (hb.mono h.below.size), fun p hp => (h.bag p hp).kept (Kept.of_below hb), h.hb, h.map.imp id fun h => h.kept hb⟩
theorem Kst.put {w0 w : World} {b : Nat} {L : List (Int × Test)} {E : List (Value × Test)} (h : Kst w0 w b L E) {v : Value} {T : Test} (ht : IsTest All2 T v w) : Kst w0 w b L ((v, T) :: E) :=
  ⟨h.below, fun p hp => by
    rcases List.mem_cons.1 hp with rfl | hp
    · exact ht
    · exact h.bag p hp, h.hb, h.map⟩
theorem MapL.kept_map {w w' : World} {b n : Nat} {g : Int → Option Value} (h : MapI w b n g) (hg : w.grownBy w' (some b)) : Kept w w' := by
  obtain ⟨D, ⟨es, ck, hb, _⟩, _⟩ := h
  exact Kept.grown hg (fun cs t fr e => by rw [hb] at e; cases e)
theorem Kst.ins {w0 w w' : World} {b n : Nat} {L : List (Int × Test)} {E : List (Value × Test)} {k : Int} {v : Value} {T : Test} {g : Int → Option Value} (h : Kst w0 w b L E) (ht : IsTest All2 T v w)
    (hm0 : MapI w b n g) (hn : n ≤ L.length) (hx : ∀ x, (Tr.look L x = none → g x = none) ∧ ∀ T, Tr.look L x = some T → ∃ v, g x = some v ∧ IsTest All2 T v w)
    (hm : MapI w' b (n + 1) (fun y => if y = k then some v else g y)) (hg : w.grownBy w' (some b)) : Kst w0 w' b ((k, T) :: L) E := by
  have hkp := MapL.kept_map hm0 hg
  refine ⟨h.below.grown hg h.below.size (fun j e => by cases e; exact h.hb), fun p hp => (h.bag p hp).kept hkp, h.hb, Or.inr ⟨_, _, hm, by simp; omega, fun x => ?_⟩⟩
  simp only [Tr.look]
  by_cases e : x = k
  · simp only [if_pos e]
    exact ⟨fun h => by (cases h), fun T' hT => ⟨v, rfl, by cases hT; exact ht.kept hkp⟩⟩
  · simp only [if_neg e]
    refine ⟨(hx x).1, fun T' hT => ?_⟩
    obtain ⟨v', hv, ht'⟩ := (hx x).2 T' hT
    exact ⟨v', hv, ht'.kept hkp⟩
/-- The map made new. -/
theorem Kst.made {w0 w : World} {b : Nat} {E : List (Value × Test)} (h : Kst w0 w b [] E) : Kst w0 (w.alloc (.map #[] 0)) w.heap.size [] E := by
  have hb := (Below.refl w.heap.size w).alloc (Nat.le_refl _) (.map #[] 0)
  exact ⟨h.below.trans (hb.mono h.below.size), fun p hp => (h.bag p hp).kept (Kept.of_below hb), h.below.size, Or.inr ⟨_, _, MapI.made w, Nat.le_refl _, fun x => ⟨fun _ => rfl, fun T hT => by simp [Tr.look] at hT⟩⟩⟩

set_option maxRecDepth 100000 in
theorem upon_ins {w0 w : World} {b n : Nat} {L : List (Int × Test)} {E : List (Value × Test)} {o : Oper} {a : Act} {X : Act → World → Prop} {Q : Exit → Act → World → Prop} {F : Unit → World → Result Next} {t e : TypeId} {k : Int} {val : Value} (EB : List (Value × Test)) (HS : Hid (Kst w0 w b L E)) (hne : Hid (L ≠ [] ∧ L.length = n)) (hn : n < 1000)
    (hsub : ∀ p ∈ EB, p ∈ E) (ht : Tryd.prog.underlying t = some (.map 3 e)) (hwf : (Lit.int .i64 k).wf = true) (T : Test) (hT : (val, T) ∈ E)
    (hK : ∀ w' L', Hid (L' = (k, T) :: L) → Hid (Kst w0 w' b L' EB) → Hid (L' ≠ [] ∧ L'.length = n + 1) → Oper.upon Tryd.prog o a X Q (F () w')) : Oper.upon Tryd.prog o a X Q ((Sem.run Tryd.prog (Instr.mapUpdate t (.map (some b)) (.int .i64 k) val) w).andThen F) := by
  obtain ⟨g, m, hm0, hm, hgx⟩ := HS.out.map.elim (fun e => absurd e hne.out.1) id
  have hn2 : m < 1000000000 := by have := hne.out.2; omega
  obtain ⟨w', hrun, r1, r2⟩ := hm0.put hn2 t e ht k hwf val
  have h1 := HS.out.ins (HS.out.bag _ hT) hm0 hm hgx r1 r2
  have h2 := hK w' _ rfl ⟨h1.below, fun p hp => h1.bag p (hsub p hp), h1.hb, h1.map⟩ ⟨by simp, by simp [hne.out.2]⟩
  rw [hrun]
  exact h2
set_option maxRecDepth 100000 in
theorem upon_ins0 {w0 w : World} {b : Nat} {E : List (Value × Test)} {o : Oper} {a : Act} {X : Act → World → Prop} {Q : Exit → Act → World → Prop} {F : Unit → World → Result Next} {t e : TypeId} {k : Int} {val : Value} (HS : Hid (Kst w0 w b [] E))
    (ht : Tryd.prog.underlying t = some (.map 3 e)) (hwf : (Lit.int .i64 k).wf = true) (T : Test) (hT : (val, T) ∈ E)
    (hK : ∀ w' L', Hid (L' = [(k, T)]) → Hid (Kst w0 w' w.heap.size L' E) → Hid (L' ≠ [] ∧ L'.length = 1) → Oper.upon Tryd.prog o a X Q (F () w')) : Oper.upon Tryd.prog o a X Q ((Sem.run Tryd.prog (Instr.mapUpdate t (.map (some w.heap.size)) (.int .i64 k) val) (w.alloc (.map #[] 0))).andThen F) := by
  obtain ⟨w', hrun, r1, r2⟩ := (MapI.made w).put (by decide) t e ht k hwf val
  have h0 := HS.out.made
  have h1 := h0.ins (L := []) (T := T) (h0.bag _ hT) (MapI.made w) (Nat.le_refl _) (fun x => ⟨fun _ => rfl, fun T hT => by simp [Tr.look] at hT⟩) r1 r2
  have h2 := hK w' _ rfl h1 ⟨by simp, rfl⟩
  rw [hrun]
  exact h2
theorem look_rev {α : Type} : ∀ (L : List (Int × α)) (M : List (Int × α)) (x : Int), (L.map (·.1)).Nodup → (∀ p ∈ L, ∀ q ∈ M, p.1 ≠ q.1) → Tr.look (L.reverse ++ M) x = match Tr.look L x with
    | some a => some a
    | none => Tr.look M x
  | [], M, x, _, _ => rfl
  | (k, a) :: L, M, x, hn, hd => by
    simp only [List.map_cons, List.nodup_cons] at hn
    rw [List.reverse_cons, List.append_assoc, List.singleton_append, look_rev L ((k, a) :: M) x hn.2 (fun p hp q hq => by
      rcases List.mem_cons.1 hq with rfl | hq
      · intro e; exact hn.1 (List.mem_map.2 ⟨p, hp, e⟩)
      · exact hd p (by simp [hp]) q hq)]
    simp only [Tr.look]
    by_cases hx : x = k
    · subst hx
      have : Tr.look L x = none := by
        have h1 := hn.1
        clear hd hn
        induction L with
        | nil => rfl
        | cons p L ih =>
          obtain ⟨y, c⟩ := p
          simp only [List.map_cons, List.mem_cons, not_or] at h1
          simp only [Tr.look, if_neg h1.1]
          exact ih h1.2
      simp [this]
    · simp [hx]
theorem Kst.rev {w0 w : World} {b : Nat} {L : List (Int × Test)} {E : List (Value × Test)} (h : Kst w0 w b L.reverse E) (hn : (L.map (·.1)).Nodup) : Kst w0 w b L E := by
  refine ⟨h.below, h.bag, h.hb, h.map.imp (fun e => by simpa using e) ?_⟩
  rintro ⟨g, n, hm, hnl, hx⟩
  refine ⟨g, n, hm, by simpa using hnl, fun x => ?_⟩
  have h1 := look_rev L [] x hn (fun p _ q hq => by cases hq)
  rw [List.append_nil] at h1
  have h2 : Tr.look L.reverse x = Tr.look L x := by
    rw [h1]
    cases Tr.look L x <;> rfl
  rw [← h2]
  exact hx x
/-- The list of operations, a stretch at a time. -/
theorem wpList_split (n : Nat) {P : Program} {ops : Array Oper} {Q : Exit → Act → World → Prop} {l : List Oper} {a : Act} {w : World} (h : ∀ rest, Hid (rest = l.drop n) → wpList P ops Q (l.take n ++ rest) a w) : wpList P ops Q l a w := by
  have := h _ rfl
  rwa [List.take_append_drop] at this
theorem wpList_gen {P : Program} {ops : Array Oper} {Q : Exit → Act → World → Prop} {l : List Oper} {a : Act} {w : World} (h : ∀ ops, wpList P ops Q l a w) : wpList P ops Q l a w := h ops
theorem Kst.gen14 {w0 w : World} {b : Nat} {L : List (Int × Test)} {p1 p2 p3 p4 p5 p6 p7 p8 p9 p10 p11 p12 p13 p14 : Value × Test} (h : Hid (Kst w0 w b L [p1, p2, p3, p4, p5, p6, p7, p8, p9, p10, p11, p12, p13, p14])) :
    ∃ EB, Hid (Kst w0 w b L EB) ∧ Hid (p1 ∈ EB) ∧ Hid (p2 ∈ EB) ∧ Hid (p3 ∈ EB) ∧ Hid (p4 ∈ EB) ∧ Hid (p5 ∈ EB) ∧ Hid (p6 ∈ EB) ∧ Hid (p7 ∈ EB) ∧ Hid (p8 ∈ EB) ∧ Hid (p9 ∈ EB) ∧ Hid (p10 ∈ EB) ∧ Hid (p11 ∈ EB) ∧ Hid (p12 ∈ EB) ∧ Hid (p13 ∈ EB) ∧ Hid (p14 ∈ EB) :=
  ⟨_, h, (show _ ∈ _ by simp), (show _ ∈ _ by simp), (show _ ∈ _ by simp), (show _ ∈ _ by simp), (show _ ∈ _ by simp), (show _ ∈ _ by simp), (show _ ∈ _ by simp), (show _ ∈ _ by simp), (show _ ∈ _ by simp), (show _ ∈ _ by simp), (show _ ∈ _ by simp), (show _ ∈ _ by simp), (show _ ∈ _ by simp), (show _ ∈ _ by simp)⟩

/-- Guards: by 'with_reducible refine' they fit that operation alone. -/
theorem at_of_ (kt n : Nat) {p : Option Addr} {c : Nat} {w : World} {R : Ending → World → Prop} (h : Calls Tryd.prog 41 #[.func (.func kt) #[] #[], .slice p n c] w R) : Calls Tryd.prog 41 #[.func (.func kt) #[] #[], .slice p n c] w R := h
theorem at_both_ (kt : Nat) {v : Value} {w : World} {R : Ending → World → Prop} (h : Calls Tryd.prog 50 #[v, .func (.func kt) #[] #[]] w R) : Calls Tryd.prog 50 #[v, .func (.func kt) #[] #[]] w R := h
set_option maxHeartbeats 2000000 in
theorem one_k {w0 w : World} {b : Nat} {L : List (Int × Test)} {E : List (Value × Test)} (HS : Hid (Kst w0 w b L E)) (k : Nat) (c : Array Value) : Calls Tryd.prog 43 #[.func (.func k) #[] c] w fun e w' => e = .returned (.agg #[.func (.func k) #[] c, .int .i64 1, .int .i64 1]) ∧ Hid (Kst w0 w' b L E) := by
  go_enter Tryd.func43, Tryd.ntmps43
  go_wp2_with fail
  refine bodyPost_ret (results_cell_row rfl _ _ w.heap.size 75 #[.func (.func k) #[] c, .int .i64 1, .int .i64 1] (0, 0) _ rfl (heap_alloc_new w _) Tryd.underlying75 rfl infoPart) rfl ?_
  exact ⟨rfl, HS.out.step ((Below.refl _ _).alloc (Nat.le_refl _) _)⟩
set_option maxHeartbeats 2000000 in
theorem perhaps_k {w0 w : World} {b : Nat} {L : List (Int × Test)} {E : List (Value × Test)} (HS : Hid (Kst w0 w b L E)) (k : Nat) (c : Array Value) : Calls Tryd.prog 55 #[.func (.func k) #[] c] w fun e w' => e = .returned (.agg #[.func (.func k) #[] c, .int .i64 0, .int .i64 1]) ∧ Hid (Kst w0 w' b L E) := by
  go_enter Tryd.func55, Tryd.ntmps55
  go_wp2_with fail
  refine bodyPost_ret (results_cell_row rfl _ _ w.heap.size 75 #[.func (.func k) #[] c, .int .i64 0, .int .i64 1] (0, 0) _ rfl (heap_alloc_new w _) Tryd.underlying75 rfl infoPart) rfl ?_
  exact ⟨rfl, HS.out.step ((Below.refl _ _).alloc (Nat.le_refl _) _)⟩
set_option maxHeartbeats 2000000 in
theorem many_k {w0 w : World} {b : Nat} {L : List (Int × Test)} {E : List (Value × Test)} (HS : Hid (Kst w0 w b L E)) (k : Nat) (c : Array Value) : Calls Tryd.prog 45 #[.func (.func k) #[] c] w fun e w' => e = .returned (.agg #[.func (.func k) #[] c, .int .i64 0, .int .i64 9223372036854775807]) ∧ Hid (Kst w0 w' b L E) := by
  go_enter Tryd.func45, Tryd.ntmps45
  go_wp2_with fail
  refine bodyPost_ret (results_cell_row rfl _ _ w.heap.size 75 #[.func (.func k) #[] c, .int .i64 0, .int .i64 9223372036854775807] (0, 0) _ rfl (heap_alloc_new w _) Tryd.underlying75 rfl infoPart) rfl ?_
  exact ⟨rfl, HS.out.step ((Below.refl _ _).alloc (Nat.le_refl _) _)⟩

/-- What a call hands back: a function value that is such a test. -/
def NewT (w0 : World) (b : Nat) (L : List (Int × Test)) (E : List (Value × Test)) (T : Test) (e : Ending) (w' : World) : Prop := ∃ k c, e = .returned (.func (.func k) #[] c) ∧ Hid (Kst w0 w' b L ((.func (.func k) #[] c, T) :: E))
theorem NewT.of {w0 w w' : World} {b : Nat} {L : List (Int × Test)} {E : List (Value × Test)} {T : Test} {e : Ending} {v : Value} (HS : Kst w0 w b L E) (he : e = .returned v) (ht : IsTest All2 T v w') (hb : Below w.heap.size w w') : NewT w0 b L E T e w' := by
  have h := ht
  obtain ⟨k, c, rfl, _⟩ := ht
  exact ⟨k, c, he, (HS.step hb).put h⟩
theorem op_k {w0 w : World} {b : Nat} {L : List (Int × Test)} {E : List (Value × Test)} (HS : Hid (Kst w0 w b L E)) (k : Int) : Calls Tryd.prog 46 #[.int .i64 k] w (NewT w0 b L E (tOp k)) :=
  (op_any k w).mono fun e w' ⟨v, he, ht, hb⟩ => NewT.of HS.out he ht hb
theorem both_k {w0 w : World} {b : Nat} {L : List (Int × Test)} {E : List (Value × Test)} (HS : Hid (Kst w0 w b L E)) {Ta Tb : Test} {va vb : Value} (ha : (va, Ta) ∈ E) (hb : IsTest (fun t x => Ta t x = true) Tb vb w) : Calls Tryd.prog 50 #[va, vb] w (NewT w0 b L E (tBoth Ta Tb)) :=
  (both_any Ta Tb va vb w (HS.out.bag _ ha) hb).mono fun e w' ⟨v, he, ht, hb⟩ => NewT.of HS.out he ht hb
theorem either_k {w0 w : World} {b : Nat} {L : List (Int × Test)} {E : List (Value × Test)} (HS : Hid (Kst w0 w b L E)) {Ta Tb : Test} {va vb : Value} (ha : (va, Ta) ∈ E) (hb : (vb, Tb) ∈ E) : Calls Tryd.prog 60 #[va, vb] w (NewT w0 b L E (tEither Ta Tb)) :=
  (either_any Ta Tb va vb w (HS.out.bag _ ha) (HS.out.bag _ hb)).mono fun e w' ⟨v, he, ht, hb⟩ => NewT.of HS.out he ht hb
theorem of_k0 {w0 w : World} {b : Nat} {L : List (Int × Test)} {E : List (Value × Test)} (HS : Hid (Kst w0 w b L E)) {f : Sp.Bs → Bool} {kt : Nat} (ht : ∀ w, IsText f (.func (.func kt) #[] #[]) w) : Calls Tryd.prog 41 #[.func (.func kt) #[] #[], .slice none 0 0] w (NewT w0 b L E (tOf f [])) :=
  (of_any f [] _ _ w (ht w) ⟨none, 0, rfl, fun i p hp => by simp at hp⟩ (by simp) (by simp)).mono fun e w' ⟨v, he, ht, hb⟩ => NewT.of HS.out he ht hb
theorem of_k {w0 w : World} {b : Nat} {L : List (Int × Test)} {E : List (Value × Test)} (HS : Hid (Kst w0 w b L E)) {f : Sp.Bs → Bool} {kt : Nat} (ht : ∀ w, IsText f (.func (.func kt) #[] #[]) w) (cs : Array Value) (ps : List PartD) (hps : ps.length ≤ 10) (hpb : ∀ p ∈ ps, p.2.1 ≤ 10 ∧ p.2.2 ≤ 9223372036854775807)
    (hcs : ∀ (i : Nat) (p : PartD), ps[i]? = some p → ∃ u, cs[i * 3]? = some u ∧ (u, p.1) ∈ E ∧ cs[i * 3 + 1]? = some (.int .i64 (p.2.1 : Int)) ∧ cs[i * 3 + 2]? = some (.int .i64 (p.2.2 : Int))) (n : Nat) (hn : n = ps.length) :
    Calls Tryd.prog 41 #[.func (.func kt) #[] #[], .slice (some ⟨w.heap.size, 0, none⟩) n n] (w.alloc (.cells cs 75)) (NewT w0 b L E (tOf f ps)) := by
  subst hn
  have hb := (Below.refl w.heap.size w).alloc (Nat.le_refl _) (.cells cs 75)
  have hc : ∀ j, (w.alloc (.cells cs 75)).cell? ⟨w.heap.size, j, none⟩ = cs[j]? := fun j => by
    exact Go.cell_of_row _ w.heap.size j cs 75 (0, 0) (heap_alloc_new w (.cells cs 75))
  refine (of_any f ps _ _ _ (ht _) ⟨some ⟨w.heap.size, 0, none⟩, ps.length, rfl, fun i p hp => ?_⟩ hps hpb).mono fun e w' ⟨v, he, ht, hb'⟩ => NewT.of (HS.out.step hb) he ht hb'
  obtain ⟨u, h0, hm, h1, h2⟩ := hcs i p hp
  exact ⟨w.heap.size, 0, u, rfl, by rw [hc]; simpa using h0, (HS.out.bag _ hm).kept (Kept.of_below hb), by rw [hc]; simpa using h1, by rw [hc]; simpa using h2⟩
theorem of_k1 {w0 w : World} {b : Nat} {L : List (Int × Test)} {E : List (Value × Test)} (HS : Hid (Kst w0 w b L E)) {f : Sp.Bs → Bool} {kt : Nat} (ht : ∀ w, IsText f (.func (.func kt) #[] #[]) w) {u : Value} {l m : Int} {T : Test} (h1 : (u, T) ∈ E) (hl : 0 ≤ l ∧ l ≤ 10 ∧ 0 ≤ m ∧ m ≤ 9223372036854775807) :
    Calls Tryd.prog 41 #[.func (.func kt) #[] #[], .slice (some ⟨w.heap.size, 0, none⟩) 1 1] (w.alloc (.cells #[u, .int .i64 l, .int .i64 m] 75)) (NewT w0 b L E (tOf f [(T, l.toNat, m.toNat)])) :=
  of_k HS ht _ [(T, l.toNat, m.toNat)] (by simp) (by intro p hp; simp at hp; subst hp; simp only; omega) (fun i p hp => by
    match i, hp with
    | 0, hp => simp at hp; subst hp; exact ⟨u, rfl, h1, by simp; omega, by simp; omega⟩
    | i + 1, hp => simp at hp) 1 rfl
theorem of_k2 {w0 w : World} {b : Nat} {L : List (Int × Test)} {E : List (Value × Test)} (HS : Hid (Kst w0 w b L E)) {f : Sp.Bs → Bool} {kt : Nat} (ht : ∀ w, IsText f (.func (.func kt) #[] #[]) w) {u u' : Value} {l m l' m' : Int} {T T' : Test} (h1 : (u, T) ∈ E) (hl : 0 ≤ l ∧ l ≤ 10 ∧ 0 ≤ m ∧ m ≤ 9223372036854775807) (h2 : (u', T') ∈ E) (hl' : 0 ≤ l' ∧ l' ≤ 10 ∧ 0 ≤ m' ∧ m' ≤ 9223372036854775807) :
    Calls Tryd.prog 41 #[.func (.func kt) #[] #[], .slice (some ⟨w.heap.size, 0, none⟩) 2 2] (w.alloc (.cells #[u, .int .i64 l, .int .i64 m, u', .int .i64 l', .int .i64 m'] 75)) (NewT w0 b L E (tOf f [(T, l.toNat, m.toNat), (T', l'.toNat, m'.toNat)])) :=
  of_k HS ht _ [(T, l.toNat, m.toNat), (T', l'.toNat, m'.toNat)] (by simp) (by intro p hp; simp at hp; rcases hp with rfl | rfl <;> simp only <;> omega) (fun i p hp => by
    match i, hp with
    | 0, hp => simp at hp; subst hp; exact ⟨u, rfl, h1, by simp; omega, by simp; omega⟩
    | 1, hp => simp at hp; subst hp; exact ⟨u', rfl, h2, by simp; omega, by simp; omega⟩
    | i + 2, hp => simp at hp) 2 rfl
theorem of_k3 {w0 w : World} {b : Nat} {L : List (Int × Test)} {E : List (Value × Test)} (HS : Hid (Kst w0 w b L E)) {f : Sp.Bs → Bool} {kt : Nat} (ht : ∀ w, IsText f (.func (.func kt) #[] #[]) w) {u u' u'' : Value} {l m l' m' l'' m'' : Int} {T T' T'' : Test} (h1 : (u, T) ∈ E) (hl : 0 ≤ l ∧ l ≤ 10 ∧ 0 ≤ m ∧ m ≤ 9223372036854775807) (h2 : (u', T') ∈ E) (hl' : 0 ≤ l' ∧ l' ≤ 10 ∧ 0 ≤ m' ∧ m' ≤ 9223372036854775807)
    (h3 : (u'', T'') ∈ E) (hl'' : 0 ≤ l'' ∧ l'' ≤ 10 ∧ 0 ≤ m'' ∧ m'' ≤ 9223372036854775807) :
    Calls Tryd.prog 41 #[.func (.func kt) #[] #[], .slice (some ⟨w.heap.size, 0, none⟩) 3 3] (w.alloc (.cells #[u, .int .i64 l, .int .i64 m, u', .int .i64 l', .int .i64 m', u'', .int .i64 l'', .int .i64 m''] 75)) (NewT w0 b L E (tOf f [(T, l.toNat, m.toNat), (T', l'.toNat, m'.toNat), (T'', l''.toNat, m''.toNat)])) :=
  of_k HS ht _ [(T, l.toNat, m.toNat), (T', l'.toNat, m'.toNat), (T'', l''.toNat, m''.toNat)] (by simp) (by intro p hp; simp at hp; rcases hp with rfl | rfl | rfl <;> simp only <;> omega) (fun i p hp => by
    match i, hp with
    | 0, hp => simp at hp; subst hp; exact ⟨u, rfl, h1, by simp; omega, by simp; omega⟩
    | 1, hp => simp at hp; subst hp; exact ⟨u', rfl, h2, by simp; omega, by simp; omega⟩
    | 2, hp => simp at hp; subst hp; exact ⟨u'', rfl, h3, by simp; omega, by simp; omega⟩
    | i + 3, hp => simp at hp) 3 rfl
theorem fits_one {t : List NodeD} {T : Test} : ∀ (ps : List PartD) (r : List Int), fits t (ps ++ [pOne T]) r = true → 1 ≤ r.length
  | [], r, h => by
    cases r with
    | nil => simp [fits, pOne, greedy] at h
    | cons => simp
  | p :: ps, r, h => by
    simp only [List.cons_append, fits] at h
    split at h
    · cases h
    · have := fits_one ps _ h
      simp at this
      omega
end Go.Proofs.YtkmmcphiijolkaaDoor
