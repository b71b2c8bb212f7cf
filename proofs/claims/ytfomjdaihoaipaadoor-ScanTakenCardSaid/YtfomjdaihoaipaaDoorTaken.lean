/-
  What is unquoted, quoted, is unquoted to the same: the walk of the statement ScanTaken.
-/
import Derived.Test.YtfomjdaihoaipaaDoorQuotes
import Derived.Deep.DeepCutAuto
import Derived.Deep.QuietTactic
import Derived.BigQuiet
import Derived.IntWalk
set_option linter.unusedVariables false
set_option linter.unusedSimpArgs false
namespace Go.Proofs.YtfomjdaihoaipaaDoor
open Go.RowKit Go.Shelf

namespace Sp
theorem strAt_last (q : UInt8) : ∀ (f : Nat) (l t : Bs) (n : Nat), l.length ≤ f → strAt q l = some (t, n) → (l.take n).getLast? = some q := by
  intro f
  induction f with
  | zero =>
    intro l t n hl h
    have : l = [] := by cases l with | nil => rfl | cons => simp at hl
    subst this
    simp [strAt_nil] at h
  | succ f ih =>
    intro l t n hl h
    cases l with
    | nil => simp [strAt_nil] at h
    | cons c r =>
      simp only [List.length_cons] at hl
      have step : ∀ (p : Bs) (u : Bs) (t' : Bs) (n' : Nat), u.length ≤ f → strAt q u = some (t', n') → ((p ++ u).take (p.length + n')).getLast? = some q := by
        intro p u t' n' hu hs
        have h1 := ih u t' n' hu hs
        rw [List.take_append, List.take_of_length_le (by omega), Nat.add_sub_cancel_left, List.getLast?_append, h1]
        rfl
      rw [strAt_cons] at h
      split at h
      · rename_i hc
        cases h
        simp [hc]
      · split at h
        · simp at h
        · split at h
          · split at h
            · simp at h
            · rename_i b k he
              have hk := esc_len he
              rw [Option.map_eq_some_iff] at h
              obtain ⟨⟨t', n'⟩, h1, h2⟩ := h
              cases h2
              have := step (c :: r.take k) (r.drop k) t' n' (by simp; omega) h1
              simp only [List.cons_append, List.take_append_drop, List.length_cons, List.length_take] at this
              rw [Nat.min_eq_left hk.2.1] at this
              rw [show n' + k + 1 = k + 1 + n' by omega]
              exact this
          · rw [Option.map_eq_some_iff] at h
            obtain ⟨⟨t', n'⟩, h1, h2⟩ := h
            cases h2
            have := step [c] r t' n' (by omega) h1
            rw [show n' + 1 = 1 + n' by omega]
            exact this
/-- What is unquoted stands as the one token of that line, its last byte its first. -/
theorem unq_some {l t : Bs} (h : unq l = some t) : ∃ q r, l = q :: r ∧ (q.toNat = 39 ∨ q.toNat = 34) ∧ lex l = .ok [(0, ⟨3, t, 0, l.length⟩)] ∧ l.getLast? = some q ∧ t.length ≤ l.length := by
  cases l with
  | nil => cases h
  | cons q r =>
    unfold unq at h
    simp only [] at h
    split at h
    · rename_i hq
      cases ht : tokStr q r with
      | error e => rw [ht] at h; cases h
      | ok k =>
        rw [ht] at h
        simp only [] at h
        split at h
        · rename_i hk
          cases h
          have ht1 : tok1 (q :: r) = .ok k := by rw [tok1, if_pos hq]; exact ht
          have h1 : ¬ q.toNat = 32 := by omega
          have h2 : ¬ q.toNat = 35 := by omega
          unfold tokStr at ht
          cases hs : strAt q r with
          | none => rw [hs] at ht; cases ht
          | some x =>
            obtain ⟨t, n⟩ := x
            rw [hs] at ht
            simp only [] at ht
            split at ht
            · cases ht
              simp only at hk ht1 ⊢
              have hn : n = r.length := by simpa using hk
              have hlen := strAt_len q r.length r t n (Nat.le_refl _) hs
              refine ⟨q, r, rfl, hq, ?_, ?_, by simp; omega⟩
              · unfold lex
                rw [lexAt_tok 0 q r h1 h2 _ ht1]
                simp only
                rw [hn, show r.length + 1 = (q :: r).length from rfl, List.drop_length, lexAt_nil]
                rfl
              · have := strAt_last q r.length r t n (Nat.le_refl _) hs
                rw [hn, List.take_length] at this
                rw [List.getLast?_cons, this]
                rfl
            · cases ht
        · cases h
    · cases h
end Sp

theorem sz3 (x : UInt8) (f : ByteArray) : ((⟨#[x]⟩ : ByteArray) ++ f ++ (⟨#[x]⟩ : ByteArray)).size = f.size + 2 := by
  rw [← size_list]
  simp
theorem index_last (ww : ByteArray) (h : 0 < ww.size) (w : World) : (Instr.index 9 (.string ww) (.int .i64 ((ww.size : Int) - 1))).run Tryd.prog w = .ok (.int .u8 ((ww[ww.size - 1]'(by omega)).toNat : Int)) w := by
  rw [run_index_string w 9 ww .i64 _ Tryd.underlying9, dif_pos ⟨by omega, by omega⟩]
  have e : ((ww.size : Int) - 1).toNat = ww.size - 1 := by omega
  simp only [e]
namespace lawTaken
set_option maxHeartbeats 8000000 in
set_option maxRecDepth 100000 in
theorem walk (s : ByteArray) (hs : s.size ≤ maxLen) (w : World) (hE : Env w) : Calls Tryd.prog 6 #[.string s] w fun e w' => e = .returned (.bool true) ∧ Below w.heap.size w w' := by
  obtain ⟨f, HF⟩ := hid_ex (s.extract 0 (min s.size 100))
  have hf : f.size ≤ 100 := by rw [← HF.out]; simp [ByteArray.size_extract]; omega
  have HFEW : Hid (∀ w, Calls Tryd.prog 17 #[.string s] w fun e w' => e = .returned (.string f) ∧ w = w') := by
    intro w
    rw [← HF.out]
    exact few_any s w hs
  go_enter Tryd.func6, Tryd.ntmps6
  go_wp2_with fail
  refine (shown_any w hE).mono ?_
  rintro e w1 ⟨rfl, hb1⟩
  go_wp2_with fail
  refine (HFEW.out w1).mono ?_
  rintro e w1' ⟨rfl, rfl⟩
  go_wp2_with fail
  go_loopw [4, 5] (fun v4 i wr => ∃ (k : Nat) (ww : ByteArray), v4 = .string ww ∧ i = .int .i64 k ∧ k ≤ 3 ∧ ww.size ≤ 102 ∧ Below w.heap.size w wr) (fun _ i wr => 3 - (intOf i).toNat)
  case atStart => exact ⟨0, f, rfl, rfl, by omega, by omega, hb1⟩
  case round =>
    clear hb1
    obtain ⟨k, ww, rfl, rfl, hk, hww, hbr⟩ := hrel
    have hEr := hE.below hbr hE.size
    by_cases hlt : k < 3
    · obtain ⟨x, HX⟩ := hid_ex (Sp.unq ww.data.toList)
      obtain ⟨kx, HK⟩ := hid_ex (kindOf (Sp.lex ww.data.toList))
      have hw6 : ww.size ≤ 60000 := by omega
      have fin : ∀ (xb : ByteArray), xb.size ≤ 102 → Hid (∀ w, Env w → ∃ q : ByteArray, q.size ≤ 1000 ∧ (Calls Tryd.prog 26 #[.string xb] w fun e w' => e = .returned (.string q) ∧ Below w.heap.size w w') ∧ ∀ w, Env w → Calls Tryd.prog 19 #[.string q] w fun e w' => e = .returned (.tuple #[.string xb, .bool true]) ∧ Below w.heap.size w w') := by
        intro xb hxb w hEw
        have hbq := Sp.quote_bounds xb.data.toList
        rw [size_list] at hbq
        refine ⟨⟨(Sp.quote xb.data.toList).toArray⟩, by rw [mk_size]; omega, quote_is rfl (by omega) w, fun w hEw => unquote_some ?_ (by rw [mk_size]; omega) w hEw⟩
        show _ = _
        rw [mk_list]
        exact Sp.unq_quote _ (by rw [size_list]; omega)
      cases x with
      | none =>
        have FIN := fin ⟨#[]⟩ (by decide)
        clear fin
        go_wp2_with fail
        refine (unquote_none HX hw6 wr hEr).mono ?_
        rintro e w2 ⟨rfl, hb2⟩
        have hbel2 := hbr.trans (hb2.mono hbr.size)
        have hE2 := hE.below hbel2 hE.size
        clear hb2 hbr hEr
        go_wp2_with fail
        refine (line_kind HK hw6 7 w2 hE2).mono ?_
        rintro e w3 ⟨hK0, hb3⟩
        obtain ⟨v8, v9, v10, rfl, hK⟩ := kind_tuple hK0
        have hbel3 := hbel2.trans (hb3.mono hbel2.size)
        clear hK0 hb3 hbel2 hE2
        go_upto_region 8 with (fail)
        go_cut [11] (fun v11 wx => ∃ (b : Bool) (n : Nat), v11 = .bool b ∧ wx = w3.drewN n)
        case first =>
          match kx, hK, HK with
          | .error (p, er), hK, HK =>
            obtain ⟨rfl, rfl, rfl⟩ := ret3 hK
            have her := (lex_err (kind_err HK.out)).1
            have ger : ((er : Int) == 0) = false := by rcases her with rfl | rfl | rfl <;> decide
            clear her hK HK
            go_quiet (fail)
            go_wp2_with fail
            go_meet
            exact ⟨_, _, rfl, rfl⟩
          | .ok (.inl n), ⟨pa, cap, hK⟩, HK =>
            obtain ⟨rfl, rfl, rfl⟩ := ret3 hK
            have hn := (kind_many HK.out).1
            have gn : ((n : Int) == 1) = false := by simp; omega
            clear hn hK HK
            go_quiet (fail)
            go_wp2_with fail
            go_meet
            exact ⟨_, _, rfl, rfl⟩
          | .ok (.inr y), ⟨g, cap, hg, _, hK, a0, a1, a2, a3⟩, HK =>
            obtain ⟨rfl, rfl, rfl⟩ := ret3 hK
            generalize wrap64 (7 + (y.1 : Int)) = z at a1
            generalize (⟨y.2.text.toArray⟩ : ByteArray) = tb at a2
            obtain ⟨yk, hyk⟩ : ∃ yk, yk = y.2.kind := ⟨_, rfl⟩
            rw [← hyk] at a0
            clear hK HK hyk
            cases b1 : ((yk : Int) == 3) with
            | false =>
              go_quiet (fail)
              go_wp2_with fail
              go_meet
              exact ⟨_, _, rfl, rfl⟩
            | true =>
              cases b2 : ((z : Int) == 7) with
              | false =>
                go_quiet (fail)
                go_wp2_with fail
                go_meet
                exact ⟨_, _, rfl, rfl⟩
              | true =>
                by_cases h0 : ww.size = 0
                · have he := isEmpty_of0 ww h0
                  clear h0
                  go_quiet (fail)
                  go_wp2_with fail
                  go_meet
                  exact ⟨_, _, rfl, rfl⟩
                · have h0' : 0 < ww.size := by omega
                  have he := isEmpty_of ww h0'
                  clear h0
                  cases b4 : ((ww[0].toNat : Int) != 32) with
                  | false =>
                    go_quiet (fail)
                    go_wp2_with fail
                    go_meet
                    exact ⟨_, _, rfl, rfl⟩
                  | true =>
                    have hw1 : IntKind.i64.wrap ((ww.size : Int) - 1) = (ww.size : Int) - 1 := IntWalk.i64_in _ (by omega)
                    have hw2 : 0 ≤ (ww.size : Int) - 1 := by omega
                    have hw3 : 1 ≤ ww.size := h0'
                    have hw4 : ((ww.size : Int) - 1).toNat = ww.size - 1 := by omega
                    have hw5 : ww.size - 1 < ww.size := by omega
                    have hidx := index_last ww h0'
                    cases b5 : ((ww[ww.size - 1].toNat : Int) == (ww[0].toNat : Int)) with
                    | false =>
                      go_quiet (fail)
                      go_wp2_with fail
                      go_meet
                      exact ⟨_, _, rfl, rfl⟩
                    | true =>
                      go_quiet (fail)
                      go_wp2_with fail
                      go_meet
                      exact ⟨_, _, rfl, rfl⟩
        case rest =>
          obtain ⟨b, n, rfl, hw⟩ := hcut
          have hbel4 : Below w.heap.size w wc := by rw [hw]; exact below_drewN hbel3 n
          have hE4 := hE.below hbel4 hE.size
          clear hw hbel3 hK HX HK
          obtain ⟨q, hq, hq1, hq2⟩ := FIN.out wc hE4
          have Q1 := Lib.hid hq1
          have Q2 := Lib.hid hq2
          clear hq1 hq2 FIN
          go_wp2_with fail
          refine Q1.out.mono ?_
          rintro e w5 ⟨rfl, hb5⟩
          have hbel5 := hbel4.trans (hb5.mono hbel4.size)
          have hE5 := hE.below hbel5 hE.size
          clear hb5 hbel4 hE4 Q1
          go_wp2_with fail
          refine (Q2.out w5 hE5).mono ?_
          rintro e w6 ⟨rfl, hb6⟩
          have hbel6 := hbel5.trans (hb6.mono hbel5.size)
          clear hb6 hbel5 hE5 Q2
          go_wp2_with (go_at_call 17; refine (HFEW.out _).mono ?_; rintro e w' ⟨rfl, rfl⟩)
          all_goals exact ⟨⟨k + 1, _, rfl, by go_num, by omega, by rw [sz3]; omega, hbel6⟩, by simp [intOf]; omega⟩
      | some t =>
        obtain ⟨qq, rr, hl1, hl2, hl3, hl4, hl5⟩ := Sp.unq_some HX.out
        obtain ⟨xb, hxb⟩ : ∃ xb : ByteArray, xb.data.toList = t := ⟨⟨t.toArray⟩, mk_list t⟩
        have hxs : xb.size ≤ 102 := by rw [← size_list, hxb]; rw [size_list] at hl5; omega
        have FIN := fin xb hxs
        have HX' : Hid (Sp.unq ww.data.toList = some xb.data.toList) := by rw [hxb]; exact HX
        have hkx : kx = .ok (.inr (0, ⟨3, t, 0, ww.size⟩)) := by
          rw [← HK.out, hl3, size_list]
          rfl
        have htb : (⟨t.toArray⟩ : ByteArray) = xb := by rw [← hxb, toArray_data]
        have h0' : 0 < ww.size := by rw [← size_list, hl1]; simp
        have he := isEmpty_of ww h0'
        have hd := get_drop ww 0 h0'
        simp only [List.drop_zero] at hd
        have h00 : ww[0] = qq := by rw [hl1] at hd; exact (List.cons.inj hd).1.symm
        have hlast : ww[ww.size - 1] = qq := by
          have h1 : ww.data.toList.getLast? = some (ww.data.toList[ww.data.toList.length - 1]'(by rw [size_list]; omega)) := by
            rw [List.getLast?_eq_getElem?, List.getElem?_eq_getElem]
          rw [hl4] at h1
          have h2 := (Option.some.inj h1).symm
          have h3 : ww[ww.size - 1] = ww.data.toList[ww.size - 1]'(by rw [size_list]; omega) := rfl
          rw [h3, ← h2]
          simp [size_list]
        have b4 : ((ww[0].toNat : Int) != 32) = true := by rw [h00]; simp; omega
        have b5 : ((ww[ww.size - 1].toNat : Int) == (ww[0].toNat : Int)) = true := by rw [h00, hlast]; simp
        have hw1 : IntKind.i64.wrap ((ww.size : Int) - 1) = (ww.size : Int) - 1 := IntWalk.i64_in _ (by omega)
        have hw2 : 0 ≤ (ww.size : Int) - 1 := by omega
        have hw3 : 1 ≤ ww.size := h0'
        have hw4 : ((ww.size : Int) - 1).toNat = ww.size - 1 := by omega
        have hw5 : ww.size - 1 < ww.size := by omega
        have B4 := Lib.hid b4
        have B5 := Lib.hid b5
        have W1 := Lib.hid hw1
        have W4 := Lib.hid hw4
        have HE' := Lib.hid he
        have HTB := Lib.hid htb
        rw [hkx] at HK
        clear fin hl1 hl2 hl3 hl4 hl5 hxb hkx htb he hd h00 hlast b4 b5 hw1 hw4 HX
        go_wp2_with fail
        refine (unquote_some HX' hw6 wr hEr).mono ?_
        rintro e w2 ⟨rfl, hb2⟩
        have hbel2 := hbr.trans (hb2.mono hbr.size)
        have hE2 := hE.below hbel2 hE.size
        clear hb2 hbr hEr
        go_wp2_with fail
        refine (line_kind HK hw6 7 w2 hE2).mono ?_
        rintro e w3 ⟨⟨g, cap, hg, hg2, rfl, a0, a1, a2, a3⟩, hb3⟩
        have hbel3 := hbel2.trans (hb3.mono hbel2.size)
        clear hb3 hbel2 hE2 HX' HK
        simp only at a0 a1 a2 a3
        rw [HTB.out] at a2
        have a1' : w3.cell? ⟨g, 1, none⟩ = some (.int .i64 7) := by rw [a1]; simp [wrap64]
        clear a1 HTB
        go_upto_region 8 with (fail)
        go_cut [11] (fun v11 wx => v11 = .bool true ∧ ∃ (n : Nat), wx = w3.drewN n)
        case first =>
          have b4 := B4.out
          have b5 := B5.out
          have hw1 := W1.out
          have hw4 := W4.out
          have he := HE'.out
          have hidx := index_last ww h0'
          clear B4 B5 W1 W4 HE'
          go_quiet (fail)
          go_wp2_with fail
          go_meet
          exact ⟨rfl, _, rfl⟩
        case rest =>
          obtain ⟨rfl, n, hw⟩ := hcut
          have hbel4 : Below w.heap.size w wc := by rw [hw]; exact below_drewN hbel3 n
          have hE4 := hE.below hbel4 hE.size
          have c2 : wc.cell? ⟨g, 2, none⟩ = some (.string xb) := by rw [hw]; exact a2
          clear hw hbel3 B4 B5 W1 W4 HE' a0 a1' a2 a3
          obtain ⟨q, hq, hq1, hq2⟩ := FIN.out wc hE4
          have Q1 := Lib.hid hq1
          have Q2 := Lib.hid hq2
          clear hq1 hq2 FIN
          go_wp2_with fail
          refine Q1.out.mono ?_
          rintro e w5 ⟨rfl, hb5⟩
          have hbel5 := hbel4.trans (hb5.mono hbel4.size)
          have hE5 := hE.below hbel5 hE.size
          clear hb5 hbel4 hE4 Q1 c2
          go_wp2_with fail
          refine (Q2.out w5 hE5).mono ?_
          rintro e w6 ⟨rfl, hb6⟩
          have hbel6 := hbel5.trans (hb6.mono hbel5.size)
          clear hb6 hbel5 hE5 Q2
          go_wp2_with (go_at_call 17; refine (HFEW.out _).mono ?_; rintro e w' ⟨rfl, rfl⟩)
          all_goals exact ⟨⟨k + 1, _, rfl, by go_num, by omega, by rw [sz3]; omega, hbel6⟩, by simp [intOf]; omega⟩
    · clear HF HFEW
      go_wp2_with fail
      go_ret
      exact ⟨rfl, hbr⟩
end lawTaken
end Go.Proofs.YtfomjdaihoaipaaDoor
