/-
  Rows of pairs that are appended to rows of the call's own; the reference's Del, Clone, at this program.
-/
import Derived.Test.YtaghkidelbepnaaDiE
set_option linter.unusedVariables false
set_option linter.unusedSimpArgs false
namespace Go.Proofs.Ytaghkidelbepnaa
open Go.RowKit
open Di

theorem add_lit6 (g o j : Nat) : (⟨g, o, none⟩ : Addr).add j = ⟨g, o + j, none⟩ := by unfold Addr.add; split <;> simp_all
/-- What append takes: pairs behind each other. -/
def SrcP (sv : Value) (l : List Pr) (w : World) : Prop := (sv = .slice none 0 0 ∧ l = []) ∨ ∃ ad c, sv = .slice (some ad) l.length c ∧ ∀ j u, (l.flatMap cP)[j]? = some u → w.cell? (ad.add j) = some u
theorem SrcP.below {sv : Value} {l : List Pr} {w w' : World} (h : SrcP sv l w) (hlt : ∀ ad n c, sv = .slice (some ad) n c → ad.block < w.heap.size) (hb : Below w.heap.size w w') : SrcP sv l w' := by
  rcases h with h | ⟨ad, c, rfl, hc⟩
  · exact .inl h
  · refine .inr ⟨ad, c, rfl, fun j u hu => ?_⟩
    have h1 := hlt _ _ _ rfl
    rw [← hc j u hu]
    have e : (ad.add j).block = ad.block := by unfold Addr.add; split <;> rfl
    exact hb.cell (by rw [e]; exact h1)
theorem cP_one (l : List Pr) : ∀ u ∈ l.flatMap cP, u.oneCell' = true := by
  intro u hu
  obtain ⟨p, _, hp⟩ := List.mem_flatMap.1 hu
  simp only [List.mem_cons, List.not_mem_nil, or_false] at hp
  rcases hp with rfl | rfl | rfl | rfl | rfl | rfl <;> rfl
theorem run_papp (w : World) (base g0 c0 : Nat) (l : List Pr) (n : Nat) (hn : l.length = n) (hown : w.ownsRow base 60 6 (.slice (some ⟨g0, 0, none⟩) n c0) n (l.flatMap cP)) (hbase : base ≤ w.heap.size) (sv : Value) (l2 : List Pr) (hsrc : SrcP sv l2 w) (N : Nat) (hN : n + l2.length = N) (hlen : N ≤ 1000000) (ty : TypeId) :
    ∃ g c w', (Builtin.append_ #[27, 27] ty #[.slice (some ⟨g0, 0, none⟩) n c0, sv]).run Try.prog w = .ok (.slice (some ⟨g, 0, none⟩) N c) w' ∧ w'.ownsRow base 60 6 (.slice (some ⟨g, 0, none⟩) N c) N ((l ++ l2).flatMap cP) ∧ w.grownBy w' (some g0) ∧ (g = g0 ∨ w.heap.size ≤ g) := by
  subst hN
  obtain ⟨i0, hi, hz0, hz1, hz2⟩ := info_parts infoPair
  rw [List.flatMap_append]
  rcases hsrc with ⟨rfl, rfl⟩ | ⟨ad, c, rfl, hc⟩
  · refine ⟨g0, c0, w, run_append_owned_none w base 27 ty 60 i0 6 Try.underlying27 hi _ n _ hown, ?_, ⟨rfl, rfl, rfl, Nat.le_refl _, fun _ _ _ => rfl⟩, Or.inl rfl⟩
    rw [List.flatMap_nil, List.append_nil]
    exact hown
  · obtain ⟨v', w', hr, h2, h3, h4, h5⟩ := run_append_own_at (P := Try.prog) w base 27 ty 60 i0 _ 6 64 Try.underlying27 hi hz0 hz1 hz2 rfl (by decide) _ n _ hown ad l2.length c _ (by rw [fl_len cP_len]) hc (cP_one l2) (by unfold maxLen; omega) (by omega) hbase
    rcases h2.2 with ⟨rfl, _⟩ | ⟨g, cap, cur, rfl, _⟩
    · exact absurd (h4.1 rfl).1 (by simp)
    · refine ⟨g, cap, w', hr, h2, h3, ?_⟩
      simp only [Value.ownBlock, Option.some.injEq] at h5
      omega
theorem step_papps {ops : Array Oper} {o : Oper} {a : Act} {K : Act → World → Prop} {Q : Exit → Act → World → Prop} {E : Prop} (hgd : o.guard = none) (s x : Operand) (ho : o.op = .call { callee := .builtin .append, args := #[s, x], argTypes := #[27, 27] })
    (w : World) (base g0 c0 : Nat) (l : List Pr) (n : Nat) (hn : l.length = n) (hown : w.ownsRow base 60 6 (.slice (some ⟨g0, 0, none⟩) n c0) n (l.flatMap cP)) (hbase : base ≤ w.heap.size) (sv : Value) (l2 : List Pr) (hsrc : SrcP sv l2 w) (N : Nat) (hN : n + l2.length = N) (hlen : N ≤ 1000000)
    (hs : a.eval s = .slice (some ⟨g0, 0, none⟩) n c0) (hx : a.eval x = sv)
    (h : ∀ g c w', Hid (w'.ownsRow base 60 6 (.slice (some ⟨g, 0, none⟩) N c) N ((l ++ l2).flatMap cP)) → Hid (w.grownBy w' (some g0)) → Hid (g = g0 ∨ w.heap.size ≤ g) → K (a.put o.dst (.slice (some ⟨g, 0, none⟩) N c)) w') :
    if Region.wanted o (yielded ops a.tmps) = true then Oper.wp Try.prog o a w K Q else E := by
  have hw : Region.wanted o (yielded ops a.tmps) = true := by simp [Region.wanted, hgd]
  rw [if_pos hw]
  obtain ⟨g, c, w', hr, h2, h3, h4⟩ := run_papp w base g0 c0 l n hn hown hbase sv l2 hsrc N hN hlen o.type
  unfold Oper.wp execOp
  simp only [ho, resolve, invoke, builtin, Sem.run_bind, Sem.run_pure, Result.andThen_ok, List.map_toArray, List.map_cons, List.map_nil, hs, hx, hr]
  exact h g c w' h2 h3 h4
theorem wpList_papps {ops : Array Oper} {rest : List Oper} {o : Oper} {a : Act} {Q : Exit → Act → World → Prop} (hgd : o.guard = none) (s x : Operand) (ho : o.op = .call { callee := .builtin .append, args := #[s, x], argTypes := #[27, 27] })
    (w : World) (base g0 c0 : Nat) (l : List Pr) (n : Nat) (hn : l.length = n) (hown : w.ownsRow base 60 6 (.slice (some ⟨g0, 0, none⟩) n c0) n (l.flatMap cP)) (hbase : base ≤ w.heap.size) (sv : Value) (l2 : List Pr) (hsrc : SrcP sv l2 w) (N : Nat) (hN : n + l2.length = N) (hlen : N ≤ 1000000)
    (hs : a.eval s = .slice (some ⟨g0, 0, none⟩) n c0) (hx : a.eval x = sv)
    (h : ∀ g c w', Hid (w'.ownsRow base 60 6 (.slice (some ⟨g, 0, none⟩) N c) N ((l ++ l2).flatMap cP)) → Hid (w.grownBy w' (some g0)) → Hid (g = g0 ∨ w.heap.size ≤ g) → wpList Try.prog ops Q rest (a.put o.dst (.slice (some ⟨g, 0, none⟩) N c)) w') : wpList Try.prog ops Q (o :: rest) a w := by
  refine wpList_plain hgd fun _ hK => ?_
  obtain ⟨g, c, w', hr, h2, h3, h4⟩ := run_papp w base g0 c0 l n hn hown hbase sv l2 hsrc N hN hlen o.type
  unfold Oper.wp execOp
  simp only [ho, resolve, invoke, builtin, Sem.run_bind, Sem.run_pure, Result.andThen_ok, List.map_toArray, List.map_cons, List.map_nil, hs, hx, hr]
  exact hK _ _ (h g c w' h2 h3 h4)
theorem own_src {B : Nat} {v : Value} {l : List Pr} {w : World} (h : w.ownsRow B 60 6 v l.length (l.flatMap cP)) : SrcP v l w := by
  have hc := fun g hg j u hj => World.ownsRow.cells h (g := g) hg j u hj
  rcases h.2 with ⟨rfl, hn⟩ | ⟨g, cap, cur, rfl, hbg, hg, _⟩
  · exact .inl ⟨rfl, List.eq_nil_of_length_eq_zero hn⟩
  · exact .inr ⟨_, cap, rfl, fun j u hu => hc g rfl j u hu⟩
/-- The beginning, and the rest, of a row. -/
theorem own_front {B g n cap i : Nat} {l : List Pr} {w : World} (h : w.ownsRow B 60 6 (.slice (some ⟨g, 0, none⟩) n cap) n (l.flatMap cP)) (hn : l.length = n) (hi : i ≤ n) : SrcP (.slice (some ⟨g, 0, none⟩) i cap) (l.take i) w := by
  have hc := fun j u hj => World.ownsRow.cells h (g := g) rfl j u hj
  refine .inr ⟨_, cap, by rw [List.length_take, hn, Nat.min_eq_left hi], fun j u hu => hc j u ?_⟩
  rw [← fl_take cP_len, List.getElem?_take] at hu
  split at hu
  · exact hu
  · cases hu
def restV (g i n cap : Nat) : Value := .slice (some (if cap = i then ⟨g, 0, none⟩ else ⟨g, i * 6, none⟩)) (n - i) (cap - i)
theorem own_rest {B g n cap i : Nat} {l : List Pr} {w : World} (h : w.ownsRow B 60 6 (.slice (some ⟨g, 0, none⟩) n cap) n (l.flatMap cP)) (hn : l.length = n) (hi : i ≤ n) : SrcP (restV g i n cap) (l.drop i) w := by
  have hc := fun j u hj => World.ownsRow.cells h (g := g) rfl j u hj
  have hcap : n ≤ cap := by
    rcases h.2 with ⟨hv, _⟩ | ⟨g', cap', cur, hv, _, _, hnc, _⟩
    · simp at hv
    · simp only [Value.slice.injEq, Option.some.injEq, Addr.mk.injEq, and_true, true_and] at hv
      omega
  refine .inr ⟨_, cap - i, by rw [List.length_drop, hn]; rfl, fun j u hu => ?_⟩
  have hj := (List.getElem?_eq_some_iff.1 hu).1
  rw [fl_len cP_len, List.length_drop, hn] at hj
  rw [if_neg (by omega), add_lit6]
  rw [← fl_drop cP_len, List.getElem?_drop] at hu
  have := hc (i * 6 + j) u hu
  rw [add_lit6, Nat.zero_add] at this
  exact this
theorem run_rest (g n cap i : Nat) (hi : i ≤ n) (w : World) : (Instr.slice 27 (.slice (some ⟨g, 0, none⟩) n cap) (some (.int .i64 (i : Int))) none none).run Try.prog w = .ok (restV g i n cap) w := by
  have ht : Try.prog.underlying 27 = some (.slice (Try.prog.elem 27)) := by kernel_rfl
  have he : Try.prog.elem 27 = 60 := by kernel_rfl
  have hs : (sizeOf 60).run Try.prog w = .ok 6 w := by kernel_rfl
  rw [run_slice_l w 27 (some ⟨g, 0, none⟩) n cap ht .i64 (i : Int) (by omega) (by omega), he, hs]
  simp only [Result.andThen, Int.toNat_natCast, sliced, restV]
  congr 2
  by_cases e : cap = i
  · simp [e]
  · simp [e, add_lit6]
end Go.Proofs.Ytaghkidelbepnaa
