/-
  Rows of texts of the call's own; the reference's Split, at this program.
-/
import Derived.Test.YtcpjogjkjbillaaTxE
import Derived.Maps.AppendAt
import Derived.Laws.AppendOwn
set_option linter.unusedVariables false
set_option linter.unusedSimpArgs false
namespace Go.Proofs.Ytcpjogjkjbillaa
open Go.RowKit

theorem infoStr : (Try.prog.info? 9).map (fun i => (i.zero, i.size, i.bytes)) = some (some (.string ⟨#[]⟩), 1, 16) := by kernel_rfl
abbrev scells (l : List Tx.Bs) : List Value := l.map fun c => Value.string ⟨c.toArray⟩
/-- A row of texts of the call's own that is there. -/
structure KRow (base : Nat) (v : Value) (l : List Tx.Bs) (w : World) : Prop where
  own : w.ownsRow base 9 1 v l.length (scells l)
  nn : v ≠ .slice none 0 0
theorem KRow.form {base : Nat} {v : Value} {l : List Tx.Bs} {w : World} (h : KRow base v l w) : ∃ g cap, v = .slice (some ⟨g, 0, none⟩) l.length cap ∧ base ≤ g ∧ g < w.heap.size := by
  rcases h.own.2 with ⟨e, hn⟩ | ⟨g, cap, cur, rfl, hbg, hg, hcap, _⟩
  · exact absurd e h.nn
  · exact ⟨g, cap, rfl, hbg, (Array.getElem?_eq_some_iff.1 hg).1⟩
theorem KRow.room {base : Nat} {v : Value} {l : List Tx.Bs} {w : World} (h : KRow base v l w) : ∃ g cap, v = .slice (some ⟨g, 0, none⟩) l.length cap ∧ l.length ≤ cap ∧ base ≤ g ∧ g < w.heap.size := by
  rcases h.own.2 with ⟨e, hn⟩ | ⟨g, cap, cur, rfl, hbg, hg, hcap, _⟩
  · exact absurd e h.nn
  · exact ⟨g, cap, rfl, hcap, hbg, (Array.getElem?_eq_some_iff.1 hg).1⟩
theorem KRow.srow {base : Nat} {v : Value} {l : List Tx.Bs} {w : World} (h : KRow base v l w) : SRow v l w := by
  have hc := fun g hg j u hj => World.ownsRow.cells h.own (g := g) hg j u hj
  obtain ⟨g, cap, rfl, hn, _, hg⟩ := h.room
  refine Or.inr ⟨g, 0, cap, rfl, hn, hg, fun k c hk => ?_⟩
  have := hc g rfl k (.string ⟨c.toArray⟩) (by rw [List.getElem?_map, hk]; rfl)
  rw [Addr.add_lit] at this
  exact this
theorem KRow.start (W : World) (base : Nat) (hb : base ≤ W.heap.size) : KRow base (.slice (some ⟨W.heap.size, 0, none⟩) 0 0) [] (W.alloc (.cells #[] 9)) :=
  ⟨World.ownsRow_lit W #[] 0 hb (Nat.zero_le _) rfl, by simp⟩
/-- A text is appended to a row of the call's own. -/
theorem wpList_tapp {ops : Array Oper} {rest : List Oper} {o : Oper} {a : Act} {Q' : Exit → Act → World → Prop} (hgd : o.guard = none) (sl x : Operand)
    (ho : o.op = .call { callee := .builtin .append, args := #[sl, x], argTypes := #[31, 31] }) (base n : Nat) (v : Value) (l : List Tx.Bs) (W w : World) (hr : KRow base v l w) (hb : Below base W w) (hbase : base = W.heap.size) (hn : Hid (l.length = n)) (s : ByteArray) (p : Tx.Bs) (hp : Hid (s.data.toList = p))
    (hs : a.eval sl = v) (hx : a.eval x = .slice (some ⟨w.heap.size, 0, none⟩) 1 1) (hlen : n + 1 ≤ 4000000)
    (h : ∀ g c w', Hid (KRow base (.slice (some ⟨g, 0, none⟩) (n + 1) c) (l ++ [p]) w') → Hid (Below base W w') → wpList Try.prog ops Q' rest (a.put o.dst (.slice (some ⟨g, 0, none⟩) (n + 1) c)) w') :
    wpList Try.prog ops Q' (o :: rest) a (w.alloc (.cells #[.string s] 9)) := by
  obtain ⟨i0, hi, hz0, hz1, hz2⟩ := info_parts infoStr
  have hb2 : Below w.heap.size w (w.alloc (.cells #[.string s] 9)) := (Below.refl _ _).alloc (Nat.le_refl _) _
  have hnl := hn.out
  have hlen2 : l.length + 1 ≤ 4000000 := by omega
  have hsz := hb.size
  obtain ⟨g0, cap0, rfl, hg1, hg2⟩ := hr.form
  refine wpList_append_own_at _ hgd sl x 31 ho base 9 i0 _ 1 16 Try.underlying31 hi hz0 hz1 hz2 rfl (by decide) _ l.length _ hs (hr.own.alloc _) ⟨w.heap.size, 0, none⟩ 1 1 [.string s] hx rfl ?_ ?_ (by unfold maxLen; omega) (by omega) (by simp; omega) ?_
  · intro j u hu
    cases j with
    | zero =>
      simp at hu
      subst hu
      simp [Addr.add]
    | succ j => simp at hu
  · intro u hu
    simp at hu
    subst hu
    rfl
  · intro v' w' hown' hgrow hz hloc
    have hown2 := hown'
    rcases hown'.2 with ⟨e, hn'⟩ | ⟨g, cap, cur, rfl, hg, _⟩
    · omega
    · rw [hnl]
      refine h g cap w' (show KRow _ _ _ _ from ⟨?_, by simp⟩) (show Below _ _ _ from ⟨hgrow.os.trans hb.os, hgrow.tape.trans hb.tape, hgrow.output.trans hb.output, Nat.le_trans hb.size (Nat.le_trans hb2.size hgrow.size), fun k hk => ?_⟩)
      · rw [hnl] at hown2
        have e1 : scells (l ++ [p]) = scells l ++ [.string s] := by rw [scells, List.map_append]; rw [str_of hp.out]; rfl
        rw [List.length_append, hnl, e1]
        exact hown2
      · exact ((hgrow.block k (by have := hb2.size; omega) (fun e => by simp [Value.ownBlock] at e; omega)).trans (hb2.block k (by omega))).trans (hb.block k hk)
set_option maxHeartbeats 8000000 in
set_option maxRecDepth 20000 in
theorem rSplit_is {s t : ByteArray} {r : List Tx.Bs} {e : Tx.Bs} (h : Hid (Tx.split s.data.toList t.data.toList = (r, e))) (hs : s.size ≤ 1000000) (ht : t.size ≤ 1000000) (w : World) :
    Calls Try.prog 27 #[.string s, .string t] w fun e' w' => ∃ v', e' = .returned (.tuple #[v', .string ⟨e.toArray⟩]) ∧ Hid (SRow v' r w') ∧ Hid (Below w.heap.size w w') := by
  by_cases h0 : t.data.toList = []
  · have hr : r = [] ∧ e = Tx.tVal := by
      have h1 := h.out
      unfold Tx.split at h1
      rw [if_pos h0] at h1
      injection h1 with h1 h2
      exact ⟨h1.symm, h2.symm⟩
    obtain ⟨rfl, rfl⟩ := hr
    have g0 : (t.toList == []) = true := by rw [ByteArray.toList_eq, h0]; rfl
    clear h h0
    go_enter Try.func27, Try.ntmps27
    go_wp2_with fail
    refine bodyPost_ret (results_tmp2 rfl _ _ _) rfl ?_
    exact ⟨_, rfl, (show SRow _ _ _ from Or.inl ⟨⟨_, rfl⟩, rfl⟩), (show Below _ _ _ from Below.refl _ _)⟩
  · have g0 : (t.toList == []) = false := by rw [ByteArray.toList_eq]; simpa using h0
    have ht0 : 0 < t.size := by rw [← size_list]; exact List.length_pos_iff.2 h0
    have HT := Lib.hid h0
    clear h0
    go_enter Try.func27, Try.ntmps27
    go_wp2_with fail
    go_loopw [6, 7, 8] (fun v6 v7 v8 wr => ∃ (i f g c n : Nat) (o : List Tx.Bs), v8 = .int .i64 (i : Int) ∧ v7 = .int .i64 (f : Int) ∧ v6 = .slice (some ⟨g, 0, none⟩) n c ∧ f ≤ i ∧ i ≤ s.size ∧ n ≤ i ∧ Hid (o.length = n) ∧ Hid (Tx.pcs t.data.toList [] s.data.toList = o ++ Tx.pcs t.data.toList ((s.data.toList.drop f).take (i - f)) (s.data.toList.drop i)) ∧ Hid (KRow w.heap.size v6 o wr) ∧ Hid (Below w.heap.size w wr)) (fun _ _ v8 _ => s.size - (intOf v8).toNat)
    case atStart => exact ⟨0, 0, _, 0, 0, [], rfl, rfl, rfl, Nat.le_refl _, Nat.zero_le _, Nat.le_refl _, rfl, (show _ = _ from rfl), (show KRow _ _ _ _ from KRow.start w _ (Nat.le_refl _)), (show Below _ _ _ from (Below.refl _ _).alloc (Nat.le_refl _) _)⟩
    case round =>
      obtain ⟨i, f, g, c, n, o, rfl, rfl, rfl, hf, hi, hni, HN, HP, HR, HB⟩ := hrel
      by_cases hlt : i < s.size
      · obtain ⟨v, hv⟩ : ∃ v, Tx.pre t.data.toList (s.data.toList.drop i) = v := ⟨_, rfl⟩
        have HV := Lib.hid hv
        have hc := Lib.hid (rat_is HV (up9 hs) (up9 ht) hi wr)
        clear hv
        cases v with
        | true =>
          have hfit : i + t.size ≤ s.size := by
            have := Tx.pre_length HV.out
            rw [List.length_drop, size_list, size_list] at this
            omega
          have HP2 : Hid (Tx.pcs t.data.toList [] s.data.toList = (o ++ [(s.data.toList.drop f).take (i - f)]) ++ Tx.pcs t.data.toList ((s.data.toList.drop (i + t.size)).take (i + t.size - (i + t.size))) (s.data.toList.drop (i + t.size))) := (show _ = _ by
            rw [HP.out, Tx.pcs_at HT.out _ HV.out, List.drop_drop, size_list, Nat.sub_self, List.take_zero]
            simp)
          have HX : Hid ((s.extract f i).data.toList = (s.data.toList.drop f).take (i - f)) := (show _ = _ from data_extract s f i)
          have HN2 : Hid ((o ++ [(s.data.toList.drop f).take (i - f)]).length = n + 1) := (show _ = _ by rw [List.length_append, HN.out]; rfl)
          clear HP HV
          go_wp2_with (first
            | (at_builtin; refine wpList_tapp rfl _ _ rfl w.heap.size n _ o w _ HR.out HB.out rfl HN _ _ HX rfl rfl (by omega) ?_; intro g5 c5 w5 HR5 HB5)
            | (go_at_call 39; refine hc.out.mono ?_; clear hc; rintro e w' ⟨rfl, rfl⟩))
          go_roundw
          case rel => exact ⟨i + t.size, i + t.size, g5, c5, n + 1, _, by go_num, by go_num, rfl, Nat.le_refl _, hfit, by omega, HN2, HP2, HR5, HB5⟩
          case measure => simp [intOf]; omega
        | false =>
          have hd := List.drop_eq_getElem_cons (l := s.data.toList) (i := i) (by rw [size_list]; exact hlt)
          have HP2 : Hid (Tx.pcs t.data.toList [] s.data.toList = o ++ Tx.pcs t.data.toList ((s.data.toList.drop f).take (i + 1 - f)) (s.data.toList.drop (i + 1))) := (show _ = _ by
            have hv := HV.out
            rw [hd] at hv
            rw [HP.out, hd, Tx.pcs_not _ hv]
            congr 2
            have e1 : i + 1 - f = (i - f) + 1 := by omega
            rw [e1, List.take_succ_eq_append_getElem (by rw [List.length_drop, size_list]; omega)]
            congr 2
            rw [List.getElem_drop]
            congr 1
            omega)
          clear HP HV hd
          go_wp2_with (go_at_call 39; refine hc.out.mono ?_; clear hc; rintro e w' ⟨rfl, rfl⟩)
          go_roundw
          case rel => exact ⟨i + 1, f, g, c, n, o, by go_num, rfl, rfl, by omega, by omega, by omega, HN, HP2, HR, HB⟩
          case measure => simp [intOf]; omega
      · obtain rfl : i = s.size := by omega
        obtain ⟨p, hp⟩ : ∃ p, (s.data.toList.drop f).take (s.size - f) = p := ⟨_, rfl⟩
        have HX : Hid ((s.extract f s.size).data.toList = p) := (show _ = _ from (data_extract s f s.size).trans hp)
        have hpc : Tx.pcs t.data.toList [] s.data.toList = o ++ [p] := by
          rw [HP.out, hp, List.drop_eq_nil_of_le (by rw [size_list]; exact Nat.le_refl _), Tx.pcs_nil]
        have hl : (o ++ [p]).length = n + 1 := by rw [List.length_append, HN.out]; rfl
        have h1 := h.out
        unfold Tx.split at h1
        have h2 : Tx.pieces t.data.toList s.data.toList.length [] s.data.toList = o ++ [p] := hpc
        rw [if_neg HT.out, h2, hl] at h1
        clear h HP hp hpc h2
        by_cases hbig : 4096 < n + 1
        · rw [if_pos hbig] at h1
          injection h1 with e1 e2
          subst e1
          subst e2
          have gb : (4096 : Int) < (n : Int) + 1 := by omega
          clear hbig hl
          go_wp2_with (at_builtin; refine wpList_tapp rfl _ _ rfl w.heap.size n _ o w _ HR.out HB.out rfl HN _ _ HX rfl rfl (by omega) ?_; intro g5 c5 w5 HR5 HB5)
          refine bodyPost_ret (results_tmp2 rfl _ _ _) rfl ?_
          exact ⟨_, rfl, (show SRow _ _ _ from Or.inl ⟨⟨_, rfl⟩, rfl⟩), HB5⟩
        · rw [if_neg hbig] at h1
          injection h1 with e1 e2
          subst e1
          subst e2
          have gb : ¬ (4096 : Int) < (n : Int) + 1 := by omega
          clear hbig hl
          go_wp2_with (at_builtin; refine wpList_tapp rfl _ _ rfl w.heap.size n _ o w _ HR.out HB.out rfl HN _ _ HX rfl rfl (by omega) ?_; intro g5 c5 w5 HR5 HB5)
          refine bodyPost_ret (results_tmp2 rfl _ _ _) rfl ?_
          exact ⟨_, rfl, (show SRow _ _ _ from HR5.out.srow), HB5⟩
end Go.Proofs.Ytcpjogjkjbillaa
