/-
  Rows of calls that are appended to rows of the call's own, at this program.
-/
import Derived.Test.YtaghkidelbepnaaDiL
set_option linter.unusedVariables false
set_option linter.unusedSimpArgs false
namespace Go.Proofs.Ytaghkidelbepnaa
open Go.RowKit
open Di

theorem infoCall : (Try.prog.info? 34).map (fun i => (i.zero, i.size, i.bytes)) = some (some (.agg #[.int .i64 0, .int .i64 0, .int .i64 0, .string ⟨#[]⟩, .int .i64 0, .int .i64 0, .string ⟨#[]⟩, .bool false]), 8, 80) := by kernel_rfl
theorem cC_len (c : Cl) : (cC c).length = 8 := rfl
/-- What append takes: calls behind each other. -/
def SrcC (sv : Value) (l : List Cl) (w : World) : Prop := (sv = .slice none 0 0 ∧ l = []) ∨ ∃ ad c, sv = .slice (some ad) l.length c ∧ ∀ j u, (l.flatMap cC)[j]? = some u → w.cell? (ad.add j) = some u
theorem SrcC.below {sv : Value} {l : List Cl} {w w' : World} (h : SrcC sv l w) (hlt : ∀ ad n c, sv = .slice (some ad) n c → ad.block < w.heap.size) (hb : Below w.heap.size w w') : SrcC sv l w' := by
  rcases h with h | ⟨ad, c, rfl, hc⟩
  · exact .inl h
  · refine .inr ⟨ad, c, rfl, fun j u hu => ?_⟩
    have h1 := hlt _ _ _ rfl
    rw [← hc j u hu]
    have e : (ad.add j).block = ad.block := by unfold Addr.add; split <;> rfl
    exact hb.cell (by rw [e]; exact h1)
theorem cC_one (l : List Cl) : ∀ u ∈ l.flatMap cC, u.oneCell' = true := by
  intro u hu
  obtain ⟨p, _, hp⟩ := List.mem_flatMap.1 hu
  simp only [List.mem_cons, List.not_mem_nil, or_false] at hp
  rcases hp with rfl | rfl | rfl | rfl | rfl | rfl | rfl | rfl <;> rfl
theorem run_capp (w : World) (base g0 c0 : Nat) (l : List Cl) (n : Nat) (hn : l.length = n) (hown : w.ownsRow base 34 8 (.slice (some ⟨g0, 0, none⟩) n c0) n (l.flatMap cC)) (hbase : base ≤ w.heap.size) (sv : Value) (l2 : List Cl) (hsrc : SrcC sv l2 w) (N : Nat) (hN : n + l2.length = N) (hlen : N ≤ 1000000) (ty : TypeId) :
    ∃ g c w', (Builtin.append_ #[22, 22] ty #[.slice (some ⟨g0, 0, none⟩) n c0, sv]).run Try.prog w = .ok (.slice (some ⟨g, 0, none⟩) N c) w' ∧ w'.ownsRow base 34 8 (.slice (some ⟨g, 0, none⟩) N c) N ((l ++ l2).flatMap cC) ∧ w.grownBy w' (some g0) ∧ (g = g0 ∨ w.heap.size ≤ g) := by
  subst hN
  obtain ⟨i0, hi, hz0, hz1, hz2⟩ := info_parts infoCall
  rw [List.flatMap_append]
  rcases hsrc with ⟨rfl, rfl⟩ | ⟨ad, c, rfl, hc⟩
  · refine ⟨g0, c0, w, run_append_owned_none w base 22 ty 34 i0 8 Try.underlying22 hi _ n _ hown, ?_, ⟨rfl, rfl, rfl, Nat.le_refl _, fun _ _ _ => rfl⟩, Or.inl rfl⟩
    rw [List.flatMap_nil, List.append_nil]
    exact hown
  · obtain ⟨v', w', hr, h2, h3, h4, h5⟩ := run_append_own_at (P := Try.prog) w base 22 ty 34 i0 _ 8 80 Try.underlying22 hi hz0 hz1 hz2 rfl (by decide) _ n _ hown ad l2.length c _ (by rw [fl_len cC_len]) hc (cC_one l2) (by unfold maxLen; omega) (by omega) hbase
    rcases h2.2 with ⟨rfl, _⟩ | ⟨g, cap, cur, rfl, _⟩
    · exact absurd (h4.1 rfl).1 (by simp)
    · refine ⟨g, cap, w', hr, h2, h3, ?_⟩
      simp only [Value.ownBlock, Option.some.injEq] at h5
      omega
theorem step_capps {ops : Array Oper} {o : Oper} {a : Act} {K : Act → World → Prop} {Q : Exit → Act → World → Prop} {E : Prop} (hgd : o.guard = none) (s x : Operand) (ho : o.op = .call { callee := .builtin .append, args := #[s, x], argTypes := #[22, 22] })
    (w : World) (base g0 c0 : Nat) (l : List Cl) (n : Nat) (hn : l.length = n) (hown : w.ownsRow base 34 8 (.slice (some ⟨g0, 0, none⟩) n c0) n (l.flatMap cC)) (hbase : base ≤ w.heap.size) (sv : Value) (l2 : List Cl) (hsrc : SrcC sv l2 w) (N : Nat) (hN : n + l2.length = N) (hlen : N ≤ 1000000)
    (hs : a.eval s = .slice (some ⟨g0, 0, none⟩) n c0) (hx : a.eval x = sv)
    (h : ∀ g c w', Hid (w'.ownsRow base 34 8 (.slice (some ⟨g, 0, none⟩) N c) N ((l ++ l2).flatMap cC)) → Hid (w.grownBy w' (some g0)) → Hid (g = g0 ∨ w.heap.size ≤ g) → K (a.put o.dst (.slice (some ⟨g, 0, none⟩) N c)) w') :
    if Region.wanted o (yielded ops a.tmps) = true then Oper.wp Try.prog o a w K Q else E := by
  have hw : Region.wanted o (yielded ops a.tmps) = true := by simp [Region.wanted, hgd]
  rw [if_pos hw]
  obtain ⟨g, c, w', hr, h2, h3, h4⟩ := run_capp w base g0 c0 l n hn hown hbase sv l2 hsrc N hN hlen o.type
  unfold Oper.wp execOp
  simp only [ho, resolve, invoke, builtin, Sem.run_bind, Sem.run_pure, Result.andThen_ok, List.map_toArray, List.map_cons, List.map_nil, hs, hx, hr]
  exact h g c w' h2 h3 h4
theorem wpList_capps {ops : Array Oper} {rest : List Oper} {o : Oper} {a : Act} {Q : Exit → Act → World → Prop} (hgd : o.guard = none) (s x : Operand) (ho : o.op = .call { callee := .builtin .append, args := #[s, x], argTypes := #[22, 22] })
    (w : World) (base g0 c0 : Nat) (l : List Cl) (n : Nat) (hn : l.length = n) (hown : w.ownsRow base 34 8 (.slice (some ⟨g0, 0, none⟩) n c0) n (l.flatMap cC)) (hbase : base ≤ w.heap.size) (sv : Value) (l2 : List Cl) (hsrc : SrcC sv l2 w) (N : Nat) (hN : n + l2.length = N) (hlen : N ≤ 1000000)
    (hs : a.eval s = .slice (some ⟨g0, 0, none⟩) n c0) (hx : a.eval x = sv)
    (h : ∀ g c w', Hid (w'.ownsRow base 34 8 (.slice (some ⟨g, 0, none⟩) N c) N ((l ++ l2).flatMap cC)) → Hid (w.grownBy w' (some g0)) → Hid (g = g0 ∨ w.heap.size ≤ g) → wpList Try.prog ops Q rest (a.put o.dst (.slice (some ⟨g, 0, none⟩) N c)) w') : wpList Try.prog ops Q (o :: rest) a w := by
  refine wpList_plain hgd fun _ hK => ?_
  obtain ⟨g, c, w', hr, h2, h3, h4⟩ := run_capp w base g0 c0 l n hn hown hbase sv l2 hsrc N hN hlen o.type
  unfold Oper.wp execOp
  simp only [ho, resolve, invoke, builtin, Sem.run_bind, Sem.run_pure, Result.andThen_ok, List.map_toArray, List.map_cons, List.map_nil, hs, hx, hr]
  exact hK _ _ (h g c w' h2 h3 h4)
theorem src_call {w : World} {b : Nat} {c : Cl} (h : w.heap[b]? = some (.cells #[.int .i64 c.1, .int .i64 c.2.1.1, .int .i64 c.2.1.2.1, .string c.2.1.2.2, .int .i64 c.2.2.1.1, .int .i64 c.2.2.1.2.1, .string c.2.2.1.2.2, .bool c.2.2.2] 34)) : SrcC (.slice (some ⟨b, 0, none⟩) 1 1) [c] w := by
  obtain ⟨c0, c1, c2, c3, c4, c5, c6, c7⟩ := C_cells h
  refine .inr ⟨_, 1, rfl, fun j u hu => ?_⟩
  rw [add_lit6, Nat.zero_add]
  rw [List.flatMap_singleton] at hu
  match j, hu with
  | 0, hu => simp at hu; subst hu; exact c0
  | 1, hu => simp at hu; subst hu; exact c1
  | 2, hu => simp at hu; subst hu; exact c2
  | 3, hu => simp at hu; subst hu; exact c3
  | 4, hu => simp at hu; subst hu; exact c4
  | 5, hu => simp at hu; subst hu; exact c5
  | 6, hu => simp at hu; subst hu; exact c6
  | 7, hu => simp at hu; subst hu; exact c7
theorem own_blkC {T : TypeId} {B n sz : Nat} {v : Value} {xs : List Value} {w w' : World} (h : w.ownsRow B T sz v n xs) (hb : ∀ k, v.ownBlock = some k → w'.heap[k]? = w.heap[k]?) : w'.ownsRow B T sz v n xs := by
  refine ⟨h.1, ?_⟩
  rcases h.2 with h2 | ⟨g, cap, cur, rfl, hg, hgb, r⟩
  · exact Or.inl h2
  · exact Or.inr ⟨g, cap, cur, rfl, hg, (hb g rfl).trans hgb, r⟩
theorem own_crow {B : Nat} {v : Value} {l : List Cl} {w : World} (h : w.ownsRow B 34 8 v l.length (l.flatMap cC)) : CRow v l w := by
  obtain ⟨pa, cap, rfl, hc⟩ := own_form cC_len h
  cases l with
  | nil => exact .inl ⟨pa, cap, rfl, rfl⟩
  | cons c l =>
    obtain ⟨g, rfl, hg, _, _⟩ := hc 0 c rfl
    refine .inr ⟨g, 0, cap, rfl, hg, fun i x hx j u hu => ?_⟩
    obtain ⟨g', h1, _, _, h2⟩ := hc i x hx
    simp only [Option.some.injEq, Addr.mk.injEq, and_true] at h1
    subst h1
    rw [Nat.zero_add]
    exact h2 j u hu
end Go.Proofs.Ytaghkidelbepnaa
