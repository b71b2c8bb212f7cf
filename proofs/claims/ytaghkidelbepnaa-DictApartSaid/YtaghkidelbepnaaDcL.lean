/-
  The program's dict: a copy of its row; All, at this program.
-/
import Derived.Test.YtaghkidelbepnaaDcC
set_option linter.unusedVariables false
set_option linter.unusedSimpArgs false
namespace Go.Proofs.Ytaghkidelbepnaa
open Go.RowKit Go.Shelf
open Di
attribute [local go_sem] Oper.semAt_some

/-- What append takes: pairs behind each other. -/
def SrcE (sv : Value) (l : List Ent) (w : World) : Prop := (sv = .slice none 0 0 ∧ l = []) ∨ ∃ ad c, sv = .slice (some ad) l.length c ∧ ∀ j u, (l.flatMap cE)[j]? = some u → w.cell? (ad.add j) = some u
theorem SrcE.below {sv : Value} {l : List Ent} {w w' : World} (h : SrcE sv l w) (hlt : ∀ ad n c, sv = .slice (some ad) n c → ad.block < w.heap.size) (hb : Below w.heap.size w w') : SrcE sv l w' := by
  rcases h with h | ⟨ad, c, rfl, hc⟩
  · exact .inl h
  · refine .inr ⟨ad, c, rfl, fun j u hu => ?_⟩
    have h1 := hlt _ _ _ rfl
    rw [← hc j u hu]
    have e : (ad.add j).block = ad.block := by unfold Addr.add; split <;> rfl
    exact hb.cell (by rw [e]; exact h1)
theorem cE_one (l : List Ent) : ∀ u ∈ l.flatMap cE, u.oneCell' = true := by
  intro u hu
  obtain ⟨p, _, hp⟩ := List.mem_flatMap.1 hu
  simp only [List.mem_cons, List.not_mem_nil, or_false] at hp
  rcases hp with rfl | rfl | rfl | rfl | rfl | rfl | rfl <;> rfl
theorem run_eapps (w : World) (base g0 c0 : Nat) (l : List Ent) (n : Nat) (hn : l.length = n) (hown : w.ownsRow base 75 7 (.slice (some ⟨g0, 0, none⟩) n c0) n (l.flatMap cE)) (hbase : base ≤ w.heap.size) (sv : Value) (l2 : List Ent) (hsrc : SrcE sv l2 w) (N : Nat) (hN : n + l2.length = N) (hlen : N ≤ 1000000) (ty : TypeId) :
    ∃ g c w', (Builtin.append_ #[70, 70] ty #[.slice (some ⟨g0, 0, none⟩) n c0, sv]).run Try.prog w = .ok (.slice (some ⟨g, 0, none⟩) N c) w' ∧ w'.ownsRow base 75 7 (.slice (some ⟨g, 0, none⟩) N c) N ((l ++ l2).flatMap cE) ∧ w.grownBy w' (some g0) ∧ (g = g0 ∨ w.heap.size ≤ g) := by
  subst hN
  obtain ⟨i0, hi, hz0, hz1, hz2⟩ := info_parts infoEnt
  rw [List.flatMap_append]
  rcases hsrc with ⟨rfl, rfl⟩ | ⟨ad, c, rfl, hc⟩
  · refine ⟨g0, c0, w, run_append_owned_none w base 70 ty 75 i0 7 Try.underlying70 hi _ n _ hown, ?_, ⟨rfl, rfl, rfl, Nat.le_refl _, fun _ _ _ => rfl⟩, Or.inl rfl⟩
    rw [List.flatMap_nil, List.append_nil]
    exact hown
  · obtain ⟨v', w', hr, h2, h3, h4, h5⟩ := run_append_own_at (P := Try.prog) w base 70 ty 75 i0 _ 7 72 Try.underlying70 hi hz0 hz1 hz2 rfl (by decide) _ n _ hown ad l2.length c _ (by rw [fl_len cE_len]) hc (cE_one l2) (by unfold maxLen; omega) (by omega) hbase
    rcases h2.2 with ⟨rfl, _⟩ | ⟨g, cap, cur, rfl, _⟩
    · exact absurd (h4.1 rfl).1 (by simp)
    · refine ⟨g, cap, w', hr, h2, h3, ?_⟩
      simp only [Value.ownBlock, Option.some.injEq] at h5
      omega
theorem step_eapps {ops : Array Oper} {o : Oper} {a : Act} {K : Act → World → Prop} {Q : Exit → Act → World → Prop} {E : Prop} (hgd : o.guard = none) (s x : Operand) (ho : o.op = .call { callee := .builtin .append, args := #[s, x], argTypes := #[70, 70] })
    (w : World) (base g0 c0 : Nat) (l : List Ent) (n : Nat) (hn : l.length = n) (hown : w.ownsRow base 75 7 (.slice (some ⟨g0, 0, none⟩) n c0) n (l.flatMap cE)) (hbase : base ≤ w.heap.size) (sv : Value) (l2 : List Ent) (hsrc : SrcE sv l2 w) (N : Nat) (hN : n + l2.length = N) (hlen : N ≤ 1000000)
    (hs : a.eval s = .slice (some ⟨g0, 0, none⟩) n c0) (hx : a.eval x = sv)
    (h : ∀ g c w', Hid (w'.ownsRow base 75 7 (.slice (some ⟨g, 0, none⟩) N c) N ((l ++ l2).flatMap cE)) → Hid (w.grownBy w' (some g0)) → Hid (g = g0 ∨ w.heap.size ≤ g) → K (a.put o.dst (.slice (some ⟨g, 0, none⟩) N c)) w') :
    if Region.wanted o (yielded ops a.tmps) = true then Oper.wp Try.prog o a w K Q else E := by
  have hw : Region.wanted o (yielded ops a.tmps) = true := by simp [Region.wanted, hgd]
  rw [if_pos hw]
  obtain ⟨g, c, w', hr, h2, h3, h4⟩ := run_eapps w base g0 c0 l n hn hown hbase sv l2 hsrc N hN hlen o.type
  unfold Oper.wp execOp
  simp only [ho, resolve, invoke, builtin, Sem.run_bind, Sem.run_pure, Result.andThen_ok, List.map_toArray, List.map_cons, List.map_nil, hs, hx, hr]
  exact h g c w' h2 h3 h4
theorem wpList_eapps {ops : Array Oper} {rest : List Oper} {o : Oper} {a : Act} {Q : Exit → Act → World → Prop} (hgd : o.guard = none) (s x : Operand) (ho : o.op = .call { callee := .builtin .append, args := #[s, x], argTypes := #[70, 70] })
    (w : World) (base g0 c0 : Nat) (l : List Ent) (n : Nat) (hn : l.length = n) (hown : w.ownsRow base 75 7 (.slice (some ⟨g0, 0, none⟩) n c0) n (l.flatMap cE)) (hbase : base ≤ w.heap.size) (sv : Value) (l2 : List Ent) (hsrc : SrcE sv l2 w) (N : Nat) (hN : n + l2.length = N) (hlen : N ≤ 1000000)
    (hs : a.eval s = .slice (some ⟨g0, 0, none⟩) n c0) (hx : a.eval x = sv)
    (h : ∀ g c w', Hid (w'.ownsRow base 75 7 (.slice (some ⟨g, 0, none⟩) N c) N ((l ++ l2).flatMap cE)) → Hid (w.grownBy w' (some g0)) → Hid (g = g0 ∨ w.heap.size ≤ g) → wpList Try.prog ops Q rest (a.put o.dst (.slice (some ⟨g, 0, none⟩) N c)) w') : wpList Try.prog ops Q (o :: rest) a w := by
  refine wpList_plain hgd fun _ hK => ?_
  obtain ⟨g, c, w', hr, h2, h3, h4⟩ := run_eapps w base g0 c0 l n hn hown hbase sv l2 hsrc N hN hlen o.type
  unfold Oper.wp execOp
  simp only [ho, resolve, invoke, builtin, Sem.run_bind, Sem.run_pure, Result.andThen_ok, List.map_toArray, List.map_cons, List.map_nil, hs, hx, hr]
  exact hK _ _ (h g c w' h2 h3 h4)
theorem own_srcE {B : Nat} {v : Value} {l : List Ent} {w : World} (h : w.ownsRow B 75 7 v l.length (l.flatMap cE)) : SrcE v l w := by
  have hc := fun g hg j u hj => World.ownsRow.cells h (g := g) hg j u hj
  rcases h.2 with ⟨rfl, hn⟩ | ⟨g, cap, cur, rfl, hbg, hg, _⟩
  · exact .inl ⟨rfl, List.eq_nil_of_length_eq_zero hn⟩
  · exact .inr ⟨_, cap, rfl, fun j u hu => hc g rfl j u hu⟩
theorem row_nil (pa : Option Addr) (n cap : Nat) (b : Bool) (hb : pa.isNone = b) (w : World) : (binOp .eql 70 (.slice pa n cap) (.slice none 0 0)).run Try.prog w = .ok (.bool b) w := by
  have e : Op.equal 70 (.slice pa n cap) (.slice none 0 0) = Op.equalIn (9999 + 1) 70 (.slice pa n cap) (.slice none 0 0) := rfl
  show (do pure (.bool (← Op.equal 70 (.slice pa n cap) (.slice none 0 0))) : Sem Value).run Try.prog w = _
  rw [e, Sem.run_bind]
  unfold Op.equalIn
  subst hb
  cases pa <;> simp [run_underlying, Try.underlying70, go_sem]
set_option maxHeartbeats 4000000 in
theorem dcopy_is {w : World} {v : Value} {es : List Ent} (HR : Hid (w.ownsRow 0 75 7 v es.length (es.flatMap cE))) (hl : es.length ≤ 50000) :
    Calls Try.prog 41 #[v] w fun e w' => ∃ v', e = .returned v' ∧ Hid (w'.ownsRow w.heap.size 75 7 v' es.length (es.flatMap cE)) ∧ Hid (Below w.heap.size w w') := by
  rcases HR.out.2 with ⟨rfl, hn⟩ | ⟨g, cap, cur, hv, hbg, hg, rest⟩
  · obtain rfl : es = [] := List.eq_nil_of_length_eq_zero hn
    have hnil := row_nil none 0 0 true rfl
    go_enter Try.func41, Try.ntmps41
    go_wp2_with fail
    go_ret
    exact ⟨.slice none 0 0, rfl, World.ownsRow_nil _ _ _ _, Below.refl _ _⟩
  · subst hv
    obtain ⟨n, hn⟩ : ∃ n, es.length = n := ⟨_, rfl⟩
    have HN := Lib.hid hn
    have hsrc := Lib.hid (SrcE.below (own_srcE HR.out) (fun ad n c e => by simp only [Value.slice.injEq, Option.some.injEq] at e; rw [← e.1]; exact (Array.getElem?_eq_some_iff.1 hg).1) (below_new w (.cells #[] 75)))
    have H0 := Lib.hid (World.ownsRow_lit (e := 75) (size := 7) (base := w.heap.size) w #[] 0 (Nat.le_refl _) (Nat.zero_le _) rfl)
    rw [hn] at hl hsrc ⊢
    clear hn rest hg hbg HR
    have hnil := row_nil (some ⟨g, 0, none⟩) n cap false rfl
    go_enter Try.func41, Try.ntmps41
    go_wp2_with (at_builtin; refine wpList_eapps (by rfl) _ _ (by rfl) _ w.heap.size w.heap.size 0 [] 0 rfl (by exact H0.out) (by exact (below_new w _).size) (.slice (some ⟨g, 0, none⟩) n cap) es hsrc.out n (by rw [HN.out]; simp) (by omega) (by rfl) (by rfl) ?_; intro g5 c5 w5 HO5 HG5 HS5; have HB5 := Lib.hid (grow_below (below_new w _) HG5.out (Nat.le_refl _)))
    go_ret
    have hO : w5.ownsRow w.heap.size 75 7 (.slice (some ⟨g5, 0, none⟩) n c5) n (es.flatMap cE) := by have := HO5.out; rw [List.nil_append] at this; exact this
    exact ⟨.slice (some ⟨g5, 0, none⟩) n c5, rfl, hO, HB5.out⟩
/-- Where no depth is asked, a round of any depth is one of each. -/
theorem yield_deep {F : Fence} (hd : F.depth = none) {m : Nat} (m' : Nat) {P : Program} {l : Nat} {args : Array Value} {W : World} {R : Ending → World → Prop} (h : YieldAt F m P l args W R) : YieldAt F m' P l args W R := by
  obtain ⟨fn, tmps, assign, body, hy, h1, h2⟩ := h
  exact ⟨fn, tmps, assign, body, hy, h1, fun c cs _ => h2 c cs (fun d e => by rw [hd] at e; cases e)⟩
set_option maxHeartbeats 8000000 in
set_option maxRecDepth 100000 in
theorem all_gives (n : Nat) {a b0 mb m : Nat} {v : Value} {es : List Ent} {f : V → Option Nat} (hl : es.length ≤ 50000) (R : World → Nat → Prop) (w : World) (hD : Dyn R w.heap.size) (H : DS w a v mb es f m) (hb0 : w.heap[b0]? = some (.cells #[ptrV a] 24)) (hnb : ¬ R w b0) :
    GivesR Fence.wide n Try.prog 40 #[.pointer (some ⟨b0, 0, none⟩)] encP (fun q => q <+: live es) (fun q => q = live es) R w := by
  intro l J Jx W hl0 hlW hW hnl hr1 hJ hJx hY hJ0
  have hWs := hW.size
  have hbl := (Array.getElem?_eq_some_iff.1 hb0).1
  have c0 : W.cell? ⟨b0, 0, none⟩ = some (ptrV a) := by
    have := (hW.block b0 hbl).trans hb0
    simp [World.cell?, this]
  have hDW := H.below hW
  have hDR := hD.mono hWs
  obtain ⟨pa, cap, hv⟩ := slice_form hDW.row
  have a0 := hDW.cell0
  have HC := Lib.hid (dcopy_is (Lib.hid hDW.row) hl)
  rw [hv] at a0 HC
  have HJ := Lib.hid hJ
  have HJx := Lib.hid hJx
  have HY := Lib.hid hY
  have HR1 := Lib.hid hr1
  have HJ0 := Lib.hid hJ0
  have HDR := Lib.hid hDR
  clear hJ hJx hY hr1 hJ0 hb0 H hDW hv hDR
  refine callsIn_of_wp Try.func40 rfl trivial ?_ rfl
  simp only [Try.ntmps40, List.size_toArray, List.length_cons, List.length_nil, Nat.reduceAdd, Nat.reduceSub, Array.replicate_succ, Array.replicate_zero, List.push_toArray, List.append_toArray, List.nil_append, List.cons_append]
  gi_wp2_with fail
  refine ⟨trivial, fun h => by simp [Fence.wide] at h, (callsIn_wide.2 HC.out).mono ?_⟩
  clear HC
  rintro e W1 ⟨v', rfl, HO, HB⟩
  have hb := HB.out
  have hs := hb.size
  have HCH : Hid (Chg (fun A k => R A k ∨ k = l) W W1) := (show Chg _ _ _ from (Chg.refl _ W).of_below (HDR.out.or _) hb (Nat.le_refl _) (Nat.le_refl _))
  have HEC := Lib.hid (fun k => each_core k v' es hl l J Jx R W1 (by
      refine ⟨HO.out.1, ?_⟩
      rcases HO.out.2 with h | ⟨g, cap, cur, h1, h2, h3⟩
      · exact .inl h
      · exact .inr ⟨g, cap, cur, h1, Nat.zero_le _, h3⟩) (fun g hg => by
      have h1 := (HO.out.lt g hg).1
      refine ⟨fun e => ?_, by omega⟩
      have := HR1.out [] W HJ0.out (Nat.le_refl _) g (HDR.out _ _ hb _ e)
      omega) (HDR.out.mono hs) (by omega) (fun pre A B h1 h2 h3 => HJ.out pre A B h1 (h2.less hs (fun _ e => e)) (by omega)) (fun pre A B h1 h2 h3 => HJx.out pre A B h1 (h2.mono hs) (by omega))
      (fun pre x A h1 h2 h3 => yield_deep rfl (k - 1) (HY.out pre x A h1 (by omega) h3)) (HJ.out [] W W1 HJ0.out (Stp.all hb (Nat.le_refl _)) (Nat.le_refl _)))
  clear hb HJ HJx HY HR1 HJ0 HDR
  gi_wp2_with fail
  refine ⟨trivial, fun h => by simp [Fence.wide] at h, (HEC.out _).mono ?_⟩
  clear HEC
  rintro e W2 ⟨⟨rv, rfl⟩, hc, hor⟩
  have HC2 := Lib.hid (HCH.out.trans hc)
  have HOR := Lib.hid hor
  clear hc hor
  gi_wp2_with fail
  go_end0
  exact ⟨⟨_, rfl⟩, HC2.out, HOR.out⟩
theorem dAll_is {w : World} {a : Nat} : Calls Try.prog 31 #[ptrV a] w fun e w' => e = .returned (.func (.func 40) #[] #[.pointer (some ⟨w.heap.size, 0, none⟩)]) ∧ w' = w.alloc (.cells #[ptrV a] 24) := by
  have hmf : ∀ (fn : Fn) (first cap : Array Value) (w : World), (Instr.makeFunc fn first cap).run Try.prog w = .ok (.func fn first cap) w := fun _ _ _ _ => rfl
  go_enter Try.func31, Try.ntmps31
  go_wp2
  go_ret
  exact ⟨rfl, rfl⟩
end Go.Proofs.Ytaghkidelbepnaa
