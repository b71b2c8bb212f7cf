/-
  Rows of texts; the reference's Join, at this program.
-/
import Derived.Test.YtcpjogjkjbillaaTxD
set_option linter.unusedVariables false
set_option linter.unusedSimpArgs false
namespace Go.Proofs.Ytcpjogjkjbillaa
open Go.RowKit

theorem Tx.joinW_snoc (sep x : Tx.Bs) : ∀ l : List Tx.Bs, Tx.joinW sep (l ++ [x]) = Tx.joinW sep l ++ (if l = [] then [] else sep) ++ x
  | [] => by simp [Tx.joinW]
  | [a] => by simp [Tx.joinW]
  | a :: b :: r => by
    have h := Tx.joinW_snoc sep x (b :: r)
    have e1 : Tx.joinW sep (a :: (b :: r ++ [x])) = a ++ sep ++ Tx.joinW sep (b :: r ++ [x]) := Tx.joinW_cons _ _ (by simp)
    have e2 : Tx.joinW sep (a :: b :: r) = a ++ sep ++ Tx.joinW sep (b :: r) := rfl
    rw [List.cons_append, e1, h, e2, if_neg (by simp), if_neg (by simp)]
    simp only [List.append_assoc]
theorem Tx.joinW_more (sep : Tx.Bs) (a : List Tx.Bs) : ∀ b : List Tx.Bs, (Tx.joinW sep a).length ≤ (Tx.joinW sep (a ++ b)).length := by
  intro b
  induction b generalizing a with
  | nil => simp
  | cons x b ih =>
    have h1 := ih (a ++ [x])
    rw [List.append_assoc, List.singleton_append] at h1
    have h2 := congrArg List.length (Tx.joinW_snoc sep x a)
    rw [List.length_append, List.length_append] at h2
    omega
theorem Tx.joinW_take {sep : Tx.Bs} {l : List Tx.Bs} {k : Nat} (h : k < l.length) : Tx.joinW sep (l.take (k + 1)) = Tx.joinW sep (l.take k) ++ (if k = 0 then [] else sep) ++ l[k] := by
  rw [List.take_succ_eq_append_getElem h, Tx.joinW_snoc]
  by_cases h0 : k = 0
  · subst h0; simp
  · rw [if_neg h0, if_neg]
    intro e
    have := congrArg List.length e
    rw [List.length_take, List.length_nil] at this
    omega
theorem Tx.joinW_le {sep : Tx.Bs} (l : List Tx.Bs) (k : Nat) : (Tx.joinW sep (l.take k)).length ≤ (Tx.joinW sep l).length := by
  have := Tx.joinW_more sep (l.take k) (l.drop k)
  rwa [List.take_append_drop] at this
/-- A row of texts. -/
def SRow (v : Value) (l : List Tx.Bs) (w : World) : Prop := ((∃ pa, v = .slice pa 0 0) ∧ l = []) ∨ ∃ g o cap, v = .slice (some ⟨g, o, none⟩) l.length cap ∧ l.length ≤ cap ∧ g < w.heap.size ∧ ∀ k c, l[k]? = some c → w.cell? ⟨g, o + k, none⟩ = some (.string ⟨c.toArray⟩)
theorem SRow.below {v : Value} {l : List Tx.Bs} {w w' : World} (h : SRow v l w) (hb : Below w.heap.size w w') : SRow v l w' := by
  rcases h with h | ⟨g, o, cap, e, hn, hg, hc⟩
  · exact Or.inl h
  · exact Or.inr ⟨g, o, cap, e, hn, Nat.lt_of_lt_of_le hg hb.size, fun k c hk => (hb.cell (p := ⟨g, _, none⟩) hg).trans (hc k c hk)⟩
theorem SRow.form {v : Value} {l : List Tx.Bs} {w : World} (h : SRow v l w) : ∃ pa cap, v = .slice pa l.length cap := by
  rcases h with ⟨⟨pa, rfl⟩, rfl⟩ | ⟨g, o, cap, rfl, _⟩
  · exact ⟨pa, 0, rfl⟩
  · exact ⟨_, cap, rfl⟩
theorem SRow.cell {pa : Option Addr} {n cap : Nat} {l : List Tx.Bs} {w : World} (h : SRow (.slice pa n cap) l w) {k : Nat} {c : Tx.Bs} (hk : l[k]? = some c) : ∃ g o, pa = some ⟨g, o, none⟩ ∧ w.cell? ⟨g, o + k, none⟩ = some (.string ⟨c.toArray⟩) := by
  rcases h with ⟨⟨_, e⟩, rfl⟩ | ⟨g, o, cap', e, hn, hg, hc⟩
  · simp at hk
  · injection e with e1 e2 e3
    exact ⟨g, o, e1, hc k c hk⟩
/-- A text is appended, the new row by variables. -/
theorem wpList_sapp2 {ops : Array Oper} {rest : List Oper} {o : Oper} {a : Act} {Q' : Exit → Act → World → Prop} (hgd : o.guard = none) (sl x : Operand)
    (ho : o.op = .call { callee := .builtin .append, args := #[sl, x], argTypes := #[45, 9] }) (base : Nat) (v : Value) (l : Tx.Bs) (W w : World) (hr : BRow base v l w) (hb : Below base W w) (hbase : base = W.heap.size) (s : ByteArray) (l2 : Tx.Bs) (m : Nat) (h2 : Hid (l ++ s.data.toList = l2)) (hm : Hid (l2.length = m))
    (hs : a.eval sl = v) (hx : a.eval x = .string s) (hlen : m ≤ 4000000)
    (h : ∀ g c w', Hid (BRow base (.slice (some ⟨g, 0, none⟩) m c) l2 w') → Hid (Below base W w') → wpList Try.prog ops Q' rest (a.put o.dst (.slice (some ⟨g, 0, none⟩) m c)) w') :
    wpList Try.prog ops Q' (o :: rest) a w := by
  refine wpList_sapp hgd sl x ho base v l W w hr hb hbase s hs hx (by have e := congrArg List.length h2.out; rw [List.length_append, size_list, hm.out] at e; omega) fun v' w' HR HB => ?_
  rw [h2.out] at HR
  obtain ⟨g, cap, rfl, _⟩ := HR.out.form
  rw [hm.out] at HR ⊢
  exact h g cap w' HR HB
set_option maxHeartbeats 8000000 in
set_option maxRecDepth 20000 in
theorem rJoin_is {sep : ByteArray} {l : List Tx.Bs} {v : Value} {r e : Tx.Bs} (h : Hid (Tx.join sep.data.toList l = (r, e))) (hsep : sep.size ≤ 1048576) (hl : l.length ≤ 1000000) (hls : ∀ x ∈ l, x.length ≤ 1048576) (w : World) (hv : SRow v l w) :
    Calls Try.prog 25 #[.string sep, v] w fun e' w' => e' = .returned (.tuple #[.string ⟨r.toArray⟩, .string ⟨e.toArray⟩]) ∧ Below w.heap.size w w' := by
  obtain ⟨pa, cap, rfl⟩ := hv.form
  have HV := Lib.hid hv
  have HLS := Lib.hid hls
  obtain ⟨n, hn⟩ : ∃ n, n = l.length := ⟨_, rfl⟩
  rw [← hn] at HV hl ⊢
  have HN := Lib.hid hn
  clear hv hls hn
  go_enter Try.func25, Try.ntmps25
  go_wp2_with fail
  go_loopw [6, 7] (fun v6 v7 wr => ∃ (k m g c : Nat) (o : Tx.Bs), v7 = .int .i64 (k : Int) ∧ k ≤ n ∧ v6 = .slice (some ⟨g, 0, none⟩) m c ∧ m ≤ 65536 ∧ Hid (o.length = m) ∧ Hid (o = Tx.joinW sep.data.toList (l.take k)) ∧ Hid (BRow w.heap.size v6 o wr) ∧ Hid (Below w.heap.size w wr)) (fun _ v7 _ => n - (intOf v7).toNat)
  case atStart => exact ⟨0, 0, _, 0, [], rfl, Nat.zero_le _, rfl, Nat.zero_le _, rfl, rfl, (show BRow _ _ _ _ from BRow.start w _ (Nat.le_refl _)), (show Below _ _ _ from (Below.refl _ _).alloc (Nat.le_refl _) _)⟩
  case round =>
    obtain ⟨k, m, g, c, o, rfl, hk, rfl, hm, HM, HO, HR, HB⟩ := hrel
    by_cases hlt : k < n
    · obtain ⟨x, hx⟩ : ∃ x, l[k]? = some x := ⟨_, List.getElem?_eq_getElem (by have := HN.out; omega)⟩
      have hxl : x.length ≤ 1048576 := HLS.out x (List.mem_of_getElem? hx)
      obtain ⟨ga, oa, rfl, a0⟩ := (HV.out.below HB.out).cell hx
      have A : Hid (∀ w4, Below w.heap.size w w4 → World.cell? w4 ⟨ga, oa + k, none⟩ = some (.string ⟨x.toArray⟩)) := (show ∀ _, _ from fun w4 hb4 => by
        obtain ⟨ga', oa', e', a'⟩ := (HV.out.below hb4).cell hx
        injection e' with e'
        injection e' with e1 e2
        rw [e1, e2]
        exact a')
      obtain ⟨o2, HO2⟩ : ∃ o2, Hid (o2 = Tx.joinW sep.data.toList (l.take (k + 1))) := ⟨_, (show _ = _ from rfl)⟩
      obtain ⟨m2, hm2e⟩ : ∃ m2, o2.length = m2 := ⟨_, rfl⟩
      have HM2 := Lib.hid hm2e
      have hxk : l[k]'(by have := HN.out; omega) = x := by have := List.getElem?_eq_getElem (l := l) (i := k) (by have := HN.out; omega); rw [hx] at this; injection this with this; exact this.symm
      have hst := Tx.joinW_take (sep := sep.data.toList) (l := l) (k := k) (by have := HN.out; omega)
      rw [hxk, ← HO.out, ← HO2.out] at hst
      have hm2 : m2 ≤ 4000000 := by
        have := congrArg List.length hst
        rw [List.length_append, List.length_append, hm2e, HM.out] at this
        have h2 : (if k = 0 then [] else sep.data.toList).length ≤ sep.size := by split; simp; rw [size_list]; exact Nat.le_refl _
        omega
      have HBIG : Hid (65536 < m2 → r = [] ∧ e = Tx.tMem) := (show _ → _ from fun g => by
        have h1 := h.out
        unfold Tx.join at h1
        have h2 := Tx.joinW_le (sep := sep.data.toList) l (k + 1)
        rw [← HO2.out, hm2e] at h2
        rw [if_pos (by omega)] at h1
        injection h1 with h1 h2
        exact ⟨h1.symm, h2.symm⟩)
      by_cases h0 : k = 0
      · have g0 : ¬ (0 : Int) < (k : Int) := by omega
        rw [if_pos h0, List.append_nil] at hst
        have H2 : Hid (o ++ (⟨x.toArray⟩ : ByteArray).data.toList = o2) := (show _ = _ from hst.symm)
        by_cases gb : 65536 < m2
        · obtain ⟨rfl, rfl⟩ := HBIG.out gb
          have gb' : (65536 : Int) < (m2 : Int) := by omega
          clear HBIG hst hx hxk hm2e h h0 gb
          go_wp2_with (first
                    | (at_builtin; refine wpList_sapp2 rfl _ _ rfl w.heap.size _ o w _ HR.out HB.out rfl ⟨x.toArray⟩ o2 m2 H2 HM2 rfl rfl hm2 ?_; intro g5 c5 w5 HR5 HB5))
          refine bodyPost_ret (results_tmp2 rfl _ _ _) rfl ?_
          exact ⟨rfl, HB5.out⟩
        · have gb' : ¬ (65536 : Int) < (m2 : Int) := by omega
          have gm : m2 ≤ 65536 := by omega
          clear HBIG hst hx hxk hm2e h h0 gb
          go_wp2_with (first
                    | (at_builtin; refine wpList_sapp2 rfl _ _ rfl w.heap.size _ o w _ HR.out HB.out rfl ⟨x.toArray⟩ o2 m2 H2 HM2 rfl rfl hm2 ?_; intro g5 c5 w5 HR5 HB5))
          go_roundw
          case rel => exact ⟨k + 1, m2, g5, c5, o2, by go_num, by omega, rfl, gm, HM2, HO2, HR5, HB5⟩
          case measure => simp [intOf]; omega
      · have g0 : (0 : Int) < (k : Int) := by omega
        rw [if_neg h0] at hst
        obtain ⟨o1, ho1⟩ : ∃ o1, o ++ sep.data.toList = o1 := ⟨_, rfl⟩
        rw [ho1] at hst
        obtain ⟨m1, hm1e⟩ : ∃ m1, o1.length = m1 := ⟨_, rfl⟩
        have HM1 := Lib.hid hm1e
        have H1 := Lib.hid ho1
        have hm1 : m1 ≤ 4000000 := by rw [← hm1e, ← ho1, List.length_append, size_list, HM.out]; omega
        have H2 : Hid (o1 ++ (⟨x.toArray⟩ : ByteArray).data.toList = o2) := (show _ = _ from hst.symm)
        by_cases gb : 65536 < m2
        · obtain ⟨rfl, rfl⟩ := HBIG.out gb
          have gb' : (65536 : Int) < (m2 : Int) := by omega
          clear HBIG hst hx hxk hm2e h h0 gb ho1 hm1e
          go_wp2_with (first
                    | (at_builtin; refine wpList_sapp2 rfl _ _ rfl w.heap.size _ o1 w _ HR4.out HB4.out rfl ⟨x.toArray⟩ o2 m2 H2 HM2 rfl rfl hm2 ?_; intro g5 c5 w5 HR5 HB5)
                    | (at_builtin; refine wpList_sapp2 rfl _ _ rfl w.heap.size _ o w _ HR.out HB.out rfl sep o1 m1 H1 HM1 rfl rfl hm1 ?_; intro g4 c4 w4 HR4 HB4; have a1 := (show World.cell? w4 _ = some _ from A.out _ HB4.out)))
          refine bodyPost_ret (results_tmp2 rfl _ _ _) rfl ?_
          exact ⟨rfl, HB5.out⟩
        · have gb' : ¬ (65536 : Int) < (m2 : Int) := by omega
          have gm : m2 ≤ 65536 := by omega
          clear HBIG hst hx hxk hm2e h h0 gb ho1 hm1e
          go_wp2_with (first
                    | (at_builtin; refine wpList_sapp2 rfl _ _ rfl w.heap.size _ o1 w _ HR4.out HB4.out rfl ⟨x.toArray⟩ o2 m2 H2 HM2 rfl rfl hm2 ?_; intro g5 c5 w5 HR5 HB5)
                    | (at_builtin; refine wpList_sapp2 rfl _ _ rfl w.heap.size _ o w _ HR.out HB.out rfl sep o1 m1 H1 HM1 rfl rfl hm1 ?_; intro g4 c4 w4 HR4 HB4; have a1 := (show World.cell? w4 _ = some _ from A.out _ HB4.out)))
          go_roundw
          case rel => exact ⟨k + 1, m2, g5, c5, o2, by go_num, by omega, rfl, gm, HM2, HO2, HR5, HB5⟩
          case measure => simp [intOf]; omega
    · obtain rfl : k = n := by omega
      have hr : r = o ∧ e = [] := by
        have h1 := h.out
        have ho := HO.out
        rw [List.take_of_length_le (by have := HN.out; omega)] at ho
        unfold Tx.join at h1
        rw [← ho, HM.out, if_neg (by omega)] at h1
        injection h1 with h1 h2
        exact ⟨h1.symm, h2.symm⟩
      obtain ⟨rfl, rfl⟩ := hr
      have hcv := HR.out.conv
      clear h HO HM
      go_wp2_with fail
      refine bodyPost_ret (results_tmp2 rfl _ _ _) rfl ?_
      exact ⟨rfl, HB.out⟩
end Go.Proofs.Ytcpjogjkjbillaa
