/-
  Rows of values that are appended to rows of the call's own, at this program.
-/
import Derived.Test.YtaghkidelbepnaaDiH
set_option linter.unusedVariables false
set_option linter.unusedSimpArgs false
namespace Go.Proofs.Ytaghkidelbepnaa
open Go.RowKit
open Di

theorem infoVal : (Try.prog.info? 32).map (fun i => (i.zero, i.size, i.bytes)) = some (some (.agg #[.int .i64 0, .int .i64 0, .string ⟨#[]⟩]), 3, 32) := by kernel_rfl
/-- What append takes: values behind each other. -/
def SrcV (sv : Value) (l : List V) (w : World) : Prop := (sv = .slice none 0 0 ∧ l = []) ∨ ∃ ad c, sv = .slice (some ad) l.length c ∧ ∀ j u, (l.flatMap cV)[j]? = some u → w.cell? (ad.add j) = some u
theorem SrcV.below {sv : Value} {l : List V} {w w' : World} (h : SrcV sv l w) (hlt : ∀ ad n c, sv = .slice (some ad) n c → ad.block < w.heap.size) (hb : Below w.heap.size w w') : SrcV sv l w' := by
  rcases h with h | ⟨ad, c, rfl, hc⟩
  · exact .inl h
  · refine .inr ⟨ad, c, rfl, fun j u hu => ?_⟩
    have h1 := hlt _ _ _ rfl
    rw [← hc j u hu]
    have e : (ad.add j).block = ad.block := by unfold Addr.add; split <;> rfl
    exact hb.cell (by rw [e]; exact h1)
theorem cV_one (l : List V) : ∀ u ∈ l.flatMap cV, u.oneCell' = true := by
  intro u hu
  obtain ⟨p, _, hp⟩ := List.mem_flatMap.1 hu
  simp only [List.mem_cons, List.not_mem_nil, or_false] at hp
  rcases hp with rfl | rfl | rfl <;> rfl
theorem run_vapp (w : World) (base g0 c0 : Nat) (l : List V) (n : Nat) (hn : l.length = n) (hown : w.ownsRow base 32 3 (.slice (some ⟨g0, 0, none⟩) n c0) n (l.flatMap cV)) (hbase : base ≤ w.heap.size) (sv : Value) (l2 : List V) (hsrc : SrcV sv l2 w) (N : Nat) (hN : n + l2.length = N) (hlen : N ≤ 1000000) (ty : TypeId) :
    ∃ g c w', (Builtin.append_ #[49, 49] ty #[.slice (some ⟨g0, 0, none⟩) n c0, sv]).run Try.prog w = .ok (.slice (some ⟨g, 0, none⟩) N c) w' ∧ w'.ownsRow base 32 3 (.slice (some ⟨g, 0, none⟩) N c) N ((l ++ l2).flatMap cV) ∧ w.grownBy w' (some g0) ∧ (g = g0 ∨ w.heap.size ≤ g) := by
  subst hN
  obtain ⟨i0, hi, hz0, hz1, hz2⟩ := info_parts infoVal
  rw [List.flatMap_append]
  rcases hsrc with ⟨rfl, rfl⟩ | ⟨ad, c, rfl, hc⟩
  · refine ⟨g0, c0, w, run_append_owned_none w base 49 ty 32 i0 3 Try.underlying49 hi _ n _ hown, ?_, ⟨rfl, rfl, rfl, Nat.le_refl _, fun _ _ _ => rfl⟩, Or.inl rfl⟩
    rw [List.flatMap_nil, List.append_nil]
    exact hown
  · obtain ⟨v', w', hr, h2, h3, h4, h5⟩ := run_append_own_at (P := Try.prog) w base 49 ty 32 i0 _ 3 32 Try.underlying49 hi hz0 hz1 hz2 rfl (by decide) _ n _ hown ad l2.length c _ (by rw [fl_len cV_len]) hc (cV_one l2) (by unfold maxLen; omega) (by omega) hbase
    rcases h2.2 with ⟨rfl, _⟩ | ⟨g, cap, cur, rfl, _⟩
    · exact absurd (h4.1 rfl).1 (by simp)
    · refine ⟨g, cap, w', hr, h2, h3, ?_⟩
      simp only [Value.ownBlock, Option.some.injEq] at h5
      omega
theorem step_vapps {ops : Array Oper} {o : Oper} {a : Act} {K : Act → World → Prop} {Q : Exit → Act → World → Prop} {E : Prop} (hgd : o.guard = none) (s x : Operand) (ho : o.op = .call { callee := .builtin .append, args := #[s, x], argTypes := #[49, 49] })
    (w : World) (base g0 c0 : Nat) (l : List V) (n : Nat) (hn : l.length = n) (hown : w.ownsRow base 32 3 (.slice (some ⟨g0, 0, none⟩) n c0) n (l.flatMap cV)) (hbase : base ≤ w.heap.size) (sv : Value) (l2 : List V) (hsrc : SrcV sv l2 w) (N : Nat) (hN : n + l2.length = N) (hlen : N ≤ 1000000)
    (hs : a.eval s = .slice (some ⟨g0, 0, none⟩) n c0) (hx : a.eval x = sv)
    (h : ∀ g c w', Hid (w'.ownsRow base 32 3 (.slice (some ⟨g, 0, none⟩) N c) N ((l ++ l2).flatMap cV)) → Hid (w.grownBy w' (some g0)) → Hid (g = g0 ∨ w.heap.size ≤ g) → K (a.put o.dst (.slice (some ⟨g, 0, none⟩) N c)) w') :
    if Region.wanted o (yielded ops a.tmps) = true then Oper.wp Try.prog o a w K Q else E := by
  have hw : Region.wanted o (yielded ops a.tmps) = true := by simp [Region.wanted, hgd]
  rw [if_pos hw]
  obtain ⟨g, c, w', hr, h2, h3, h4⟩ := run_vapp w base g0 c0 l n hn hown hbase sv l2 hsrc N hN hlen o.type
  unfold Oper.wp execOp
  simp only [ho, resolve, invoke, builtin, Sem.run_bind, Sem.run_pure, Result.andThen_ok, List.map_toArray, List.map_cons, List.map_nil, hs, hx, hr]
  exact h g c w' h2 h3 h4
theorem step_vappsg {ops : Array Oper} {o : Oper} {a : Act} {K : Act → World → Prop} {Q : Exit → Act → World → Prop} {E : Prop} (hw : Region.wanted o (yielded ops a.tmps) = true) (s x : Operand) (ho : o.op = .call { callee := .builtin .append, args := #[s, x], argTypes := #[49, 49] })
    (w : World) (base g0 c0 : Nat) (l : List V) (n : Nat) (hn : l.length = n) (hown : w.ownsRow base 32 3 (.slice (some ⟨g0, 0, none⟩) n c0) n (l.flatMap cV)) (hbase : base ≤ w.heap.size) (sv : Value) (l2 : List V) (hsrc : SrcV sv l2 w) (N : Nat) (hN : n + l2.length = N) (hlen : N ≤ 1000000)
    (hs : a.eval s = .slice (some ⟨g0, 0, none⟩) n c0) (hx : a.eval x = sv)
    (h : ∀ g c w', Hid (w'.ownsRow base 32 3 (.slice (some ⟨g, 0, none⟩) N c) N ((l ++ l2).flatMap cV)) → Hid (w.grownBy w' (some g0)) → Hid (g = g0 ∨ w.heap.size ≤ g) → K (a.put o.dst (.slice (some ⟨g, 0, none⟩) N c)) w') :
    if Region.wanted o (yielded ops a.tmps) = true then Oper.wp Try.prog o a w K Q else E := by
  rw [if_pos hw]
  obtain ⟨g, c, w', hr, h2, h3, h4⟩ := run_vapp w base g0 c0 l n hn hown hbase sv l2 hsrc N hN hlen o.type
  unfold Oper.wp execOp
  simp only [ho, resolve, invoke, builtin, Sem.run_bind, Sem.run_pure, Result.andThen_ok, List.map_toArray, List.map_cons, List.map_nil, hs, hx, hr]
  exact h g c w' h2 h3 h4
theorem wpList_vapps {ops : Array Oper} {rest : List Oper} {o : Oper} {a : Act} {Q : Exit → Act → World → Prop} (hgd : o.guard = none) (s x : Operand) (ho : o.op = .call { callee := .builtin .append, args := #[s, x], argTypes := #[49, 49] })
    (w : World) (base g0 c0 : Nat) (l : List V) (n : Nat) (hn : l.length = n) (hown : w.ownsRow base 32 3 (.slice (some ⟨g0, 0, none⟩) n c0) n (l.flatMap cV)) (hbase : base ≤ w.heap.size) (sv : Value) (l2 : List V) (hsrc : SrcV sv l2 w) (N : Nat) (hN : n + l2.length = N) (hlen : N ≤ 1000000)
    (hs : a.eval s = .slice (some ⟨g0, 0, none⟩) n c0) (hx : a.eval x = sv)
    (h : ∀ g c w', Hid (w'.ownsRow base 32 3 (.slice (some ⟨g, 0, none⟩) N c) N ((l ++ l2).flatMap cV)) → Hid (w.grownBy w' (some g0)) → Hid (g = g0 ∨ w.heap.size ≤ g) → wpList Try.prog ops Q rest (a.put o.dst (.slice (some ⟨g, 0, none⟩) N c)) w') : wpList Try.prog ops Q (o :: rest) a w := by
  refine wpList_plain hgd fun _ hK => ?_
  obtain ⟨g, c, w', hr, h2, h3, h4⟩ := run_vapp w base g0 c0 l n hn hown hbase sv l2 hsrc N hN hlen o.type
  unfold Oper.wp execOp
  simp only [ho, resolve, invoke, builtin, Sem.run_bind, Sem.run_pure, Result.andThen_ok, List.map_toArray, List.map_cons, List.map_nil, hs, hx, hr]
  exact hK _ _ (h g c w' h2 h3 h4)
theorem own_srcV {B : Nat} {v : Value} {l : List V} {w : World} (h : w.ownsRow B 32 3 v l.length (l.flatMap cV)) : SrcV v l w := by
  have hc := fun g hg j u hj => World.ownsRow.cells h (g := g) hg j u hj
  rcases h.2 with ⟨rfl, hn⟩ | ⟨g, cap, cur, rfl, hbg, hg, _⟩
  · exact .inl ⟨rfl, List.eq_nil_of_length_eq_zero hn⟩
  · exact .inr ⟨_, cap, rfl, fun j u hu => hc g rfl j u hu⟩
/-- The beginning, and the rest, of a row. -/
theorem own_frontV {B g n cap i : Nat} {l : List V} {w : World} (h : w.ownsRow B 32 3 (.slice (some ⟨g, 0, none⟩) n cap) n (l.flatMap cV)) (hn : l.length = n) (hi : i ≤ n) : SrcV (.slice (some ⟨g, 0, none⟩) i cap) (l.take i) w := by
  have hc := fun j u hj => World.ownsRow.cells h (g := g) rfl j u hj
  refine .inr ⟨_, cap, by rw [List.length_take, hn, Nat.min_eq_left hi], fun j u hu => hc j u ?_⟩
  rw [← fl_take cV_len, List.getElem?_take] at hu
  split at hu
  · exact hu
  · cases hu
def restVV (g i n cap : Nat) : Value := .slice (some (if cap = i then ⟨g, 0, none⟩ else ⟨g, i * 3, none⟩)) (n - i) (cap - i)
theorem own_restV {B g n cap i : Nat} {l : List V} {w : World} (h : w.ownsRow B 32 3 (.slice (some ⟨g, 0, none⟩) n cap) n (l.flatMap cV)) (hn : l.length = n) (hi : i ≤ n) : SrcV (restVV g i n cap) (l.drop i) w := by
  have hc := fun j u hj => World.ownsRow.cells h (g := g) rfl j u hj
  have hcap : n ≤ cap := by
    rcases h.2 with ⟨hv, _⟩ | ⟨g', cap', cur, hv, _, _, hnc, _⟩
    · simp at hv
    · simp only [Value.slice.injEq, Option.some.injEq, Addr.mk.injEq, and_true, true_and] at hv
      omega
  refine .inr ⟨_, cap - i, by rw [List.length_drop, hn]; rfl, fun j u hu => ?_⟩
  have hj := (List.getElem?_eq_some_iff.1 hu).1
  rw [fl_len cV_len, List.length_drop, hn] at hj
  rw [if_neg (by omega), add_lit6]
  rw [← fl_drop cV_len, List.getElem?_drop] at hu
  have := hc (i * 3 + j) u hu
  rw [add_lit6, Nat.zero_add] at this
  exact this
theorem run_restV (g n cap i : Nat) (hi : i ≤ n) (w : World) : (Instr.slice 49 (.slice (some ⟨g, 0, none⟩) n cap) (some (.int .i64 (i : Int))) none none).run Try.prog w = .ok (restVV g i n cap) w := by
  have ht : Try.prog.underlying 49 = some (.slice (Try.prog.elem 49)) := by kernel_rfl
  have he : Try.prog.elem 49 = 32 := by kernel_rfl
  have hs : (sizeOf 32).run Try.prog w = .ok 3 w := by kernel_rfl
  rw [run_slice_l w 49 (some ⟨g, 0, none⟩) n cap ht .i64 (i : Int) (by omega) (by omega), he, hs]
  simp only [Result.andThen, Int.toNat_natCast, sliced, restVV]
  congr 2
  by_cases e : cap = i
  · simp [e]
  · simp [e, add_lit6]
theorem rest_blockV {g i n cap : Nat} {ad : Addr} {m c : Nat} (h : restVV g i n cap = .slice (some ad) m c) : ad.block = g := by
  unfold restVV at h
  simp only [Value.slice.injEq, Option.some.injEq] at h
  rw [← h.1]
  split <;> rfl
theorem src_box {w : World} {b : Nat} {x : V} (h : BoxV w b x) : SrcV (.slice (some ⟨b, 0, none⟩) 1 1) [x] w := by
  obtain ⟨c0, c1, c2⟩ := V_cells h
  refine .inr ⟨_, 1, rfl, fun j u hu => ?_⟩
  rw [add_lit6, Nat.zero_add]
  rw [List.flatMap_singleton] at hu
  match j, hu with
  | 0, hu => simp at hu; subst hu; exact c0
  | 1, hu => simp at hu; subst hu; exact c1
  | 2, hu => simp at hu; subst hu; exact c2
theorem VRow.lower {B C : Nat} {v : Value} {l : List V} {w : World} (h : VRow B v l w) (hc : C ≤ B) : VRow C v l w := by
  refine ⟨h.1, ?_⟩
  rcases h.2 with h2 | ⟨g, cap, cur, e, hg, r⟩
  · exact Or.inl h2
  · exact Or.inr ⟨g, cap, cur, e, Nat.le_trans hc hg, r⟩
end Go.Proofs.Ytaghkidelbepnaa
