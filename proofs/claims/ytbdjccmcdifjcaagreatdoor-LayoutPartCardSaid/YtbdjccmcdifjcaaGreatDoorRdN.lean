/-
  A line of a source, at this program.
-/
import Derived.Test.YtbdjccmcdifjcaaGreatDoorRdL
import Derived.Laws.AppendOwnNone
set_option linter.unusedVariables false
set_option linter.unusedSimpArgs false
namespace Go.Proofs.YtbdjccmcdifjcaaGreatDoor
open Go.RowKit Go.Shelf

theorem Sp.trim_blanks : ∀ l : Sp.Bs, Lib.trimLeftB l 32 = l.drop (Sp.blanksOf l)
  | [] => rfl
  | c :: r => by
    unfold Sp.blanksOf
    by_cases h : c.toNat = 32
    · have hc : c = 32 := UInt8.toNat_inj.1 h
      rw [if_pos h, List.drop_succ_cons, ← Sp.trim_blanks r]
      unfold Lib.trimLeftB
      rw [List.dropWhile_cons_of_pos (by simp [hc])]
    · have hc : ¬ c = 32 := fun e => h (by rw [e]; rfl)
      rw [if_neg h]
      unfold Lib.trimLeftB
      rw [List.dropWhile_cons_of_neg (by simp [hc])]
      rfl

theorem Sp.indentB_len {bs bs' : List Nat} {n : Nat} {q : Int} {m : List T4} (h : Sp.indentB bs n q = .ok (m, bs')) : m.length ≤ bs.length + 1 ∧ bs'.length ≤ bs.length + 1 := by
  have hp : ∀ l : List Nat, (Sp.pops n l).2 ≤ l.length ∧ (Sp.pops n l).1.length ≤ l.length := by
    intro l
    induction l with
    | nil => exact ⟨Nat.le_refl _, Nat.le_refl _⟩
    | cons x l ih =>
      rw [Sp.pops]
      split
      · simp; omega
      · simp
  have := hp bs
  unfold Sp.indentB at h
  split at h
  · cases h; simp
  · split at h
    · cases h; simp; omega
    · cases h

/-- What a line leaves. -/
def RLineEnd (n B b : Nat) (x : Except (Int × Int) Sp.LS) (w : World) (e : Ending) (w' : World) : Prop :=
  Kp n b B w w' ∧ match x with
    | .ok st => e = .returned (.tuple #[]) ∧ ∃ v5 v6 v7 bs, st.blk = bs ++ [0] ∧ Rd B b v5 v6 v7 st.out st.opn bs w'
    | .error p => e = .panicked (wrongP p)

set_option maxHeartbeats 16000000 in
set_option maxRecDepth 100000 in
theorem rdline_any (n B b at_ : Nat) (lb : ByteArray) (v5 v6 v7 : Value) (out opn : List T4) (bs : List Nat) (w : World) (h : Rd B b v5 v6 v7 out opn bs w) (hE : Env w) (hEn : 6 ≤ n) (hn : n ≤ B) (hnb : n ≤ b) (hB : B ≤ w.heap.size)
    (hlb : lb.size ≤ 60000) (hat : at_ ≤ 60000) (hl : out.length ≤ 40000000) (hbl : bs.length ≤ 40000000) (hol : opn.length ≤ 40000000) (ho : Sp.Opens opn) :
    Calls Tryz.prog 24 #[.pointer (some ⟨b, 0, none⟩), .string lb, .int .i64 (at_ : Int)] w fun e w' => RLineEnd n B b (Sp.lineStep ⟨out, opn, bs ++ [0]⟩ (at_, lb.data.toList)) w e w' := by
  obtain ⟨i0, hi, hz0, hz1, hz2⟩ := info_parts infoTok
  obtain ⟨st, HST⟩ := hid_ex (Sp.lineStep ⟨out, opn, bs ++ [0]⟩ (at_, lb.data.toList))
  rw [HST.out]
  obtain ⟨nb, HNB⟩ := hid_ex (Sp.blanksOf lb.data.toList)
  have hnb1 : nb ≤ lb.size := by rw [← HNB.out, ← size_list]; exact Sp.blanksOf_le _
  obtain ⟨rb, HRB⟩ := hid_ex (⟨(Lib.trimLeftB lb.data.toList 32).toArray⟩ : ByteArray)
  have HRL : Hid (rb.data.toList = lb.data.toList.drop nb) := by show _ = _; rw [← HRB.out, ← HNB.out, ← Sp.trim_blanks]
  have hrz : rb.size = lb.size - nb := by rw [← size_list, HRL.out, List.length_drop, size_list]
  have HTR : Hid (∀ w : World, Calls Tryz.prog 36 #[.string lb, .string ⟨#[32]⟩] w fun e w' => e = .returned (.string rb) ∧ w' = w) := by
    rw [← HRB.out]
    exact fun w => Tryz.strings_TrimLeft_one lb 32 (by decide) w
  have hsub : (lb.size : Int) - (rb.size : Int) = (nb : Int) := by omega
  have HRZ := Lib.hid hrz
  clear hrz
  obtain ⟨q, hq⟩ : ∃ q : Nat, q = at_ + nb := ⟨_, rfl⟩
  have hqa : (at_ : Int) + (nb : Int) = (q : Int) := by omega
  have hqle : q ≤ 120000 := by omega
  have HQ := Lib.hid hq
  clear hq
  obtain ⟨u0, c1, u1, u2, u3, u4⟩ := h.cells
  clear u0 u1 u2 u3 u4
  have HEM := Lib.hid (emptyB_any B v6 opn w h.opn)
  obtain ⟨em, HEB⟩ := hid_ex (decide (opn = []))
  rw [HEB.out] at HEM
  have HR := Lib.hid h
  have HO := Lib.hid ho
  have HE := Lib.hid hE
  clear h ho hE
  go_enter Tryz.func24, Tryz.ntmps24
  go_wp2_with fail
  refine (HTR.out w).mono ?_
  rintro e w1 ⟨rfl, rfl⟩
  clear HTR
  go_wp2_with fail
  refine HEM.out.mono ?_
  rintro e w2 ⟨rfl, rfl⟩
  clear HEM
  go_upto_if 24 with (fail)
  go_cut [6] (fun v6x wc => v6x = .string rb ∧ ∃ (m : List T4) (bk : List Nat) (v5' v7' : Value), Hid (Rd B b v5' v6 v7' (out ++ m) opn bk wc) ∧ Hid (Kp n b B w2 wc) ∧ m.length ≤ bs.length + 1 ∧ bk.length ≤ bs.length + 1 ∧ Hid (st = Sp.lineRest ⟨out, opn, bs ++ [0]⟩ m (bk ++ [0]) (at_, lb.data.toList)))
  case first =>
    by_cases hop : opn = []
    · subst hop
      have hem : em = true := by rw [← HEB.out]; simp
      subst hem
      have HL : Hid (st = match lb.data.toList.drop nb with
          | [] => .ok ⟨out, [], bs ++ [0]⟩
          | c :: _ => if c.toNat = 35 then .ok ⟨out, [], bs ++ [0]⟩ else match Sp.indentB bs nb (q : Int) with
            | .error e => .error e
            | .ok (m, b) => Sp.lineRest ⟨out, [], bs ++ [0]⟩ m (b ++ [0]) (at_, lb.data.toList)) := by
        show _ = _
        rw [← HST.out]
        unfold Sp.lineStep
        rw [if_pos rfl, HNB.out, HQ.out]
        simp only [Sp.indent_zero]
        cases lb.data.toList.drop nb with
        | nil => rfl
        | cons c r =>
          simp only
          split
          · rfl
          · cases Sp.indentB bs nb ((at_ + nb : Nat) : Int) with
            | error e => rfl
            | ok x => rfl
      have hdone : st = .ok ⟨out, [], bs ++ [0]⟩ → RLineEnd n B b st w2 (.returned (.tuple #[])) w2 := by
        intro e
        refine ⟨Kp.refl _ _, ?_⟩
        rw [e]
        exact ⟨rfl, _, _, _, bs, rfl, HR.out⟩
      have HD := Lib.hid hdone
      clear hdone
      by_cases hz : rb.size = 0
      · have hnil : rb.data.toList = [] := List.eq_nil_of_length_eq_zero (by rw [size_list]; exact hz)
        have HN : Hid (st = .ok ⟨out, [], bs ++ [0]⟩) := by
          show _ = _
          rw [HL.out, ← HRL.out, hnil]
        obtain rfl : rb = ⟨#[]⟩ := Sp.bytes_ext hnil
        clear hnil hz HL HNB HRB HRL hsub HRZ hnb1
        go_wp2_with fail
        refine bodyPost_ret (results_none rfl _ _ _) rfl ?_
        exact HD.out HN.out
      · have hlt : 0 < rb.size := by omega
        have hd := get_drop rb 0 hlt
        rw [List.drop_zero] at hd
        have gne : (rb.toList == []) = false := by rw [Sp.toList_data, hd]; rfl
        by_cases h35 : rb[0].toNat = 35
        · have HN : Hid (st = .ok ⟨out, [], bs ++ [0]⟩) := by
            show _ = _
            rw [HL.out, ← HRL.out, hd]
            simp only
            rw [if_pos h35]
          have g35 : ((rb[0].toNat : Int) == 35) = true := by simp; omega
          clear hd h35 hz HL HNB HRB HRL HRZ hnb1
          go_wp2_with fail
          refine bodyPost_ret (results_none rfl _ _ _) rfl ?_
          exact HD.out HN.out
        · have g35 : ((rb[0].toNat : Int) == 35) = false := by simp; omega
          have HL2 : Hid (st = match Sp.indentB bs nb (q : Int) with
            | .error e => .error e
            | .ok (m, b) => Sp.lineRest ⟨out, [], bs ++ [0]⟩ m (b ++ [0]) (at_, lb.data.toList)) := by
            show _ = _
            rw [HL.out, ← HRL.out, hd]
            simp only
            rw [if_neg h35]
          have HIN := Lib.hid (indent_any n B b nb v5 v6 v7 out [] bs (q : Int) w2 HR.out hn hnb hB (by omega) (by omega))
          clear hd h35 hz HL HNB HRB HRL HRZ hnb1 HD
          go_wp2_with fail
          refine HIN.out.mono ?_
          clear HIN
          cases hx : Sp.indentB bs nb (q : Int) with
          | error p =>
            have HN : Hid (st = .error p) := by show _ = _; rw [HL2.out, hx]
            rintro e w3 ⟨hK, rfl⟩
            refine ⟨rfl, hK, ?_⟩
            rw [HN.out]
          | ok x =>
            obtain ⟨m, bk⟩ := x
            have HN : Hid (st = Sp.lineRest ⟨out, [], bs ++ [0]⟩ m (bk ++ [0]) (at_, lb.data.toList)) := by show _ = _; rw [HL2.out, hx]
            obtain ⟨hm1, hm2⟩ := Sp.indentB_len hx
            rintro e w3 ⟨hK, rfl, v5', v7', hR3⟩
            have HK3 := Lib.hid hK
            have HR3 := Lib.hid hR3
            clear hK hR3 hx
            go_wp2_with fail
            go_meet
            exact ⟨rfl, m, bk, v5', v7', HR3, HK3, hm1, hm2, HN⟩
    · have hem : em = false := by rw [← HEB.out]; simp [hop]
      subst hem
      have HN : Hid (st = Sp.lineRest ⟨out, opn, bs ++ [0]⟩ [] (bs ++ [0]) (at_, lb.data.toList)) := by
        show _ = _
        rw [← HST.out]
        unfold Sp.lineStep
        rw [if_neg hop]
      clear hop
      go_wp2_with fail
      go_meet
      exact ⟨rfl, [], bs, v5, v7, by simpa using HR, Kp.refl _ _, by simp, by simp, HN⟩
  case rest =>
    clear HR c1
    obtain ⟨rfl, m, bk, v5', v7', HR, HK, hml, hbkl, HN⟩ := hcut
    obtain ⟨O, HOM⟩ := hid_ex (out ++ m)
    have hOl : O.length ≤ 90000000 := by rw [← HOM.out, List.length_append]; omega
    rw [HOM.out] at HR
    have hrbs : rb.size ≤ 60000 := by have := HRZ.out; omega
    have hEc : Env wc := HE.out.below HK.out.1 hEn
    have HLN := Lib.hid (line_any rb hrbs (q : Int) wc hEc)
    have hBc := Nat.le_trans hB HK.out.1.size
    obtain ⟨lx, HLX⟩ := hid_ex (Sp.lex rb.data.toList)
    rw [HLX.out] at HLN
    have HN2 : Hid (st = match (motive := Except (Nat × Int) (List (Nat × Sp.Tk)) → Except (Int × Int) Sp.LS) lx with
      | .error (p, e) => .error (wrap64 ((q : Int) + (p : Int)), e)
      | .ok ts => match Sp.brk opn (ts.map (abs4 (q : Int))) with
        | .error p => .error (p, 21)
        | .ok o => .ok ⟨O ++ ts.map (abs4 (q : Int)) ++ (if o = [] then [Sp.mark 5 ((at_ + lb.size : Nat) : Int)] else []), o, bk ++ [0]⟩) := by
      show _ = _
      rw [HN.out]
      unfold Sp.lineRest
      simp only [HNB.out, ← HRL.out, HLX.out, ← HQ.out, size_list, HOM.out]
      cases lx <;> rfl
    have hq1 : (at_ : Int) + (lb.size : Int) = ((at_ + lb.size : Nat) : Int) := by omega
    obtain ⟨q1, hq1'⟩ : ∃ q1 : Nat, q1 = at_ + lb.size := ⟨_, rfl⟩
    rw [← hq1'] at hq1 HN2
    have hq1le : q1 ≤ 120000 := by omega
    clear hEc HN hq1' HRL HRZ HNB HRB
    go_wp2_with fail
    refine HLN.out.mono ?_
    clear HLN
    rintro e w3 ⟨he, hb3⟩
    have HK3 : Hid (Kp n b B w2 w3) := HK.out.trans (Kp.of_below hb3 hBc)
    have HR3 := Lib.hid (HR.out.below hb3)
    clear HK HR hb3
    cases lx with
    | error pe =>
      obtain ⟨p, er⟩ := pe
      obtain rfl : e = _ := he
      have her := (lex_err HLX.out).1
      have ger : ((er : Int) != 0) = true := by rcases her with rfl | rfl | rfl <;> decide
      clear her HLX
      go_wp2_with fail
      refine ⟨rfl, HK3.out, ?_⟩
      rw [HN2.out]
      rfl
    | ok ts =>
      obtain ⟨v8, rfl, hT⟩ := he
      have hts : ts.length ≤ 60000 := by have := Sp.lex_count HLX.out; rw [size_list] at this; omega
      have hrow := hT.row4
      obtain ⟨L, HLL⟩ := hid_ex (ts.map (abs4 (q : Int)))
      have hLl : L.length ≤ 60000 := by rw [← HLL.out, List.length_map]; exact hts
      simp only at HN2
      rw [HLL.out] at hrow HN2
      obtain ⟨pa, ca, rfl, _⟩ := hrow.form
      have HROW := Lib.hid hrow
      clear hrow hT hts HLX HLL
      go_wp2_with fail
      go_loopw [55] (fun v55 wr => ∃ (i : Nat) (op : List T4) (v6' : Value), v55 = .int .i64 (i : Int) ∧ i ≤ L.length ∧ Hid (Rd B b v5' v6' v7' O op bk wr) ∧ Hid (Kp n b B w2 wr) ∧ Hid (Row4 wc.heap.size (.slice pa L.length ca) L wr) ∧ Hid (Sp.Opens op) ∧ op.length ≤ opn.length + i ∧ Hid (Sp.brk opn L = Sp.brk op (L.drop i))) (fun v55 wr => L.length - (intOf v55).toNat)
      case atStart => exact ⟨0, opn, v6, rfl, Nat.zero_le _, HR3, HK3, HROW, HO, by omega, rfl⟩
      case round =>
        clear HR3 HK3 HROW HO
        obtain ⟨i, op, v6', rfl, hil, HR, HK, HROW, HO, hopl, HB⟩ := hrel
        have hBr := Nat.le_trans hB HK.out.1.size
        by_cases hlt : i < L.length
        · obtain ⟨x, hx⟩ : ∃ x, L[i]? = some x := ⟨_, List.getElem?_eq_getElem hlt⟩
          have hd : L.drop i = x :: L.drop (i + 1) := by
            have e := List.drop_eq_getElem_cons hlt
            rw [e]
            congr 1
            rw [List.getElem?_eq_getElem hlt] at hx
            exact Option.some.inj hx
          rw [hd, Sp.brk_one] at HB
          obtain ⟨pa2, ca2, he2, fa2⟩ := HROW.out.form
          obtain ⟨rfl, _, rfl⟩ : pa = pa2 ∧ True ∧ ca = ca2 := by cases he2; exact ⟨rfl, trivial, rfl⟩
          obtain ⟨g, rfl, hg, _, a0, a1, a2, a3⟩ := fa2 i x hx
          obtain ⟨sb, hsb⟩ : ∃ sb : ByteArray, sb = ⟨x.2.2.1.toArray⟩ := ⟨_, rfl⟩
          rw [← hsb] at a2
          have hxe : Hid (x = (x.1, x.2.1, sb.data.toList, x.2.2.2)) := by show _ = _; rw [hsb]
          obtain ⟨x1, x2, x3, x4⟩ := x
          simp only at a0 a1 a2 a3 hxe hsb
          have HWR := Lib.hid (HROW.out.below ((Below.refl wr.heap.size wr).alloc (Nat.le_refl _) (.cells #[.int .i64 x1, .int .i64 x2, .string sb, .int .i64 x4] 37)))
          have HBR := Lib.hid (bracket_any n B b v5' v6' v7' O op bk x1 x2 x4 sb (wr.alloc (.cells #[.int .i64 x1, .int .i64 x2, .string sb, .int .i64 x4] 37)) (HR.out.below ((Below.refl wr.heap.size wr).alloc (Nat.le_refl _) _)) hn hnb (by simp; omega) (by omega) HO.out)
          have HKA := Lib.hid (HK.out.alloc (by omega) (.cells #[.int .i64 x1, .int .i64 x2, .string sb, .int .i64 x4] 37))
          rw [← hxe.out] at HBR
          obtain ⟨bx, HBX⟩ := hid_ex (Sp.brk1 op (x1, x2, x3, x4))
          rw [HBX.out] at HBR HB
          clear hd hx fa2 he2 hsb hxe hg HROW HR HK
          go_wp2_with fail
          refine HBR.out.mono ?_
          clear HBR
          rintro e w4 ⟨hK4, hT4, he⟩
          have HK4 := Lib.hid (HKA.out.trans hK4)
          have HW4 := Lib.hid (HWR.out.kt hT4)
          clear hK4 hT4 HKA HWR
          cases bx with
          | error p =>
            obtain rfl : e = _ := he
            have HN3 : Hid (st = .error (p, 21)) := by show _ = _; rw [HN2.out, HB.out]
            refine ⟨rfl, HK4.out, ?_⟩
            rw [HN3.out]
          | ok op' =>
            obtain ⟨rfl, v6'', hR4⟩ := he
            have HR4 := Lib.hid hR4
            have HO4 := Lib.hid (HO.out.one HBX.out)
            have hol4 := Sp.brk1_len HBX.out
            clear hR4 HO HBX
            go_wp2_with fail
            go_roundw
            case rel => exact ⟨i + 1, op', v6'', by go_num, by omega, HR4, HK4, HW4, HO4, by omega, HB⟩
            case measure => simp [intOf]; omega
        · have HB2 : Hid (Sp.brk opn L = .ok op) := by
            show _ = _
            rw [HB.out, List.drop_of_length_le (by omega), Sp.brk]
          have HN3 : Hid (st = .ok ⟨O ++ L ++ (if op = [] then [Sp.mark 5 (q1 : Int)] else []), op, bk ++ [0]⟩) := by
            show _ = _
            rw [HN2.out, HB2.out]
          clear HB HB2 HN2
          obtain ⟨u0, u1, u2, f0, u3, u4⟩ := HR.out.cells
          clear u2 u3 u4
          obtain ⟨p5, k5, rfl, _⟩ := HR.out.out.form
          -- what follows the appending, once
          have TAIL : Hid (∀ (v5'' : Value) (w5 : World), Rd B b v5'' v6' v7' (O ++ L) op bk w5 → Kp n b B w2 w5 → (Calls Tryz.prog 37 #[v6'] w5 fun e w' => e = .returned (.bool (decide (op = []))) ∧ w' = w5) ∧ w5.cell? ⟨b, 1, none⟩ = some v6' ∧
              (Calls Tryz.prog 41 #[.pointer (some ⟨b, 0, none⟩), .int .i64 5, .int .i64 (q1 : Int)] w5 fun e w' => e = .returned (.tuple #[]) ∧ ∃ v', Rd B b v' v6' v7' (O ++ L ++ [Sp.mark 5 (q1 : Int)]) op bk w' ∧ Kp n b B w5 w')) := by
            intro v5'' w5 hR5 hK5
            refine ⟨emptyB_any B v6' op w5 hR5.opn, hR5.cells.2.1, tell_any n B b v5'' v6' v7' _ op bk 5 (q1 : Int) w5 hR5 hn hnb (Nat.le_trans hB hK5.1.size) (by rw [List.length_append]; omega)⟩
          have FIN : Hid (∀ (v5'' : Value) (w5 : World), Rd B b v5'' v6' v7' (O ++ L ++ (if op = [] then [Sp.mark 5 (q1 : Int)] else [])) op bk w5 → Kp n b B w2 w5 → RLineEnd n B b st w2 (.returned (.tuple #[])) w5) := by
            intro v5'' w5 hR5 hK5
            refine ⟨hK5, ?_⟩
            rw [HN3.out]
            exact ⟨rfl, _, _, _, bk, rfl, hR5⟩
          rcases HROW.out.2 with ⟨hv, hz⟩ | ⟨g, cap, cur, hv, _, hgh, _⟩
          · have hLn : L = [] := List.eq_nil_of_length_eq_zero hz
            subst hLn
            obtain ⟨rfl, rfl⟩ : pa = none ∧ ca = 0 := by simp at hv; exact hv
            have hown : wr.ownsRow B 37 4 (.slice p5 O.length k5) O.length (O.flatMap c4) := HR.out.out
            have HR5 := Lib.hid (HR.out.set5 (out' := O ++ []) (by rw [List.append_nil]; exact HR.out.out) (grown_refl wr _))
            have HK5 := Lib.hid (HK.out.setCell ⟨b, 0, none⟩ hnb (.slice p5 O.length k5))
            clear HR HK HROW hv hz
            go_wp2_with (at_builtin; refine wpList_append_own_none rfl _ _ 25 rfl B 37 i0 4 Tryz.underlying25 hi _ _ _ rfl hown rfl ?_)
            obtain ⟨he1, he2, he3⟩ := TAIL.out _ _ HR5.out HK5.out
            clear TAIL he2
            by_cases hop : op = []
            · rw [show decide (op = []) = true by simp [hop]] at he1
              have HT1 := Lib.hid he1
              have HT3 := Lib.hid he3
              have HF := Lib.hid (fun v' w7 (hR7 : Rd B b v' v6' v7' (O ++ [] ++ [Sp.mark 5 (q1 : Int)]) op bk w7) hK7 => FIN.out v' w7 (by rw [if_pos hop]; exact hR7) (HK5.out.trans hK7))
              clear he1 he3 FIN hop HR5 HK5
              go_wp2_with fail
              refine HT1.out.mono ?_
              rintro e w6 ⟨rfl, rfl⟩
              clear HT1
              go_wp2_with fail
              refine HT3.out.mono ?_
              rintro e w7 ⟨rfl, v', hR7, hK7⟩
              have HZ := Lib.hid (HF.out v' w7 hR7 hK7)
              clear hR7 hK7 HF HT3
              go_wp2_with fail
              go_end0
              exact HZ.out
            · rw [show decide (op = []) = false by simp [hop]] at he1
              have HT1 := Lib.hid he1
              have HZ := Lib.hid (FIN.out _ _ (by rw [if_neg hop, List.append_nil]; exact HR5.out) HK5.out)
              clear he1 he3 FIN hop HR5 HK5
              go_wp2_with fail
              refine HT1.out.mono ?_
              rintro e w6 ⟨rfl, rfl⟩
              clear HT1
              go_wp2_with fail
              go_end0
              exact HZ.out
          · obtain ⟨rfl, rfl⟩ : pa = some ⟨g, 0, none⟩ ∧ ca = cap := by simp at hv; exact hv
            have hown : wr.ownsRow B 37 4 (.slice p5 O.length k5) O.length (O.flatMap c4) := HR.out.out
            obtain ⟨g2, cap2, he2, _, _, _, hnews⟩ := HROW.out.laid2 (by simp)
            obtain ⟨rfl, rfl⟩ : g = g2 ∧ ca = cap2 := by simp at he2; exact he2
            have HNW := Lib.hid hnews
            clear hv hgh he2 hnews
            go_wp2_with (at_builtin; refine wpList_append_own _ rfl _ _ 25 rfl B 37 i0 (.agg #[.int .i64 0, .int .i64 0, .string ⟨#[]⟩, .int .i64 0]) 4 40 Tryz.underlying25 hi hz0 hz1 hz2 rfl (by decide) _ _ _ rfl hown ⟨g, 0, none⟩ L.length ca (L.flatMap c4) rfl ?c0 ?c1 ?c2 ?c3 ?c4 ?c5 ?_)
            case c0 => rw [c4_len2]
            case c1 => exact HNW.out
            case c2 => exact c4_one2 _
            case c3 => unfold maxLen; omega
            case c4 => omega
            case c5 => exact hBr
            intro v' w5 hown' hgrow hnil
            clear hnil
            have hR' : Row4 B v' (O ++ L) w5 := by unfold Row4; rw [List.length_append, List.flatMap_append]; exact hown'
            obtain ⟨pa', ca', rfl, _⟩ := hR'.form
            obtain ⟨N, HNN⟩ := hid_ex (O ++ L).length
            rw [HNN.out] at hR' ⊢
            have hb3 : w5.heap[b]? = wr.heap[b]? := hgrow.block b HR.out.lt (fun e => apart_reader HR.out.out HR.out.heap (by decide) e.symm)
            have d0 := (World.cell?_of_block (a := ⟨b, 0, none⟩) hb3).trans u0
            have d1 := (World.cell?_of_block (a := ⟨b, 1, none⟩) hb3).trans u1
            have g0 := (World.frozen?_of_block (a := ⟨b, 0, none⟩) hb3).trans f0
            have HR5 := Lib.hid (HR.out.set5 hR' hgrow)
            have HK5 := Lib.hid ((HK.out.grown hown hn hBr hgrow).setCell ⟨b, 0, none⟩ hnb (.slice pa' N ca'))
            clear HR HK HROW hown hown' hgrow hR' hb3 u0 u1 f0 HNW HNN
            obtain ⟨he1, he2, he3⟩ := TAIL.out _ _ HR5.out HK5.out
            clear TAIL he2
            by_cases hop : op = []
            · rw [show decide (op = []) = true by simp [hop]] at he1
              have HT1 := Lib.hid he1
              have HT3 := Lib.hid he3
              have HF := Lib.hid (fun v' w7 (hR7 : Rd B b v' v6' v7' (O ++ L ++ [Sp.mark 5 (q1 : Int)]) op bk w7) hK7 => FIN.out v' w7 (by rw [if_pos hop]; exact hR7) (HK5.out.trans hK7))
              clear he1 he3 FIN hop HR5 HK5
              go_wp2_with fail
              refine HT1.out.mono ?_
              rintro e w6 ⟨rfl, rfl⟩
              clear HT1
              go_wp2_with fail
              refine HT3.out.mono ?_
              rintro e w7 ⟨rfl, v', hR7, hK7⟩
              have HZ := Lib.hid (HF.out v' w7 hR7 hK7)
              clear hR7 hK7 HF HT3
              go_wp2_with fail
              go_end0
              exact HZ.out
            · rw [show decide (op = []) = false by simp [hop]] at he1
              have HT1 := Lib.hid he1
              have HZ := Lib.hid (FIN.out _ _ (by rw [if_neg hop, List.append_nil]; exact HR5.out) HK5.out)
              clear he1 he3 FIN hop HR5 HK5
              go_wp2_with fail
              refine HT1.out.mono ?_
              rintro e w6 ⟨rfl, rfl⟩
              clear HT1
              go_wp2_with fail
              go_end0
              exact HZ.out
end Go.Proofs.YtbdjccmcdifjcaaGreatDoor
