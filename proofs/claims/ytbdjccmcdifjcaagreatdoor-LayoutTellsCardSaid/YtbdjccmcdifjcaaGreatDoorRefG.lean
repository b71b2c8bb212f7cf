/-
  The reference's answers for one token and for a line, at this program.
-/
import Derived.Test.YtbdjccmcdifjcaaGreatDoorRefF
set_option linter.unusedVariables false
set_option linter.unusedSimpArgs false
namespace Go.Proofs.YtbdjccmcdifjcaaGreatDoor
open Go.RowKit Go.Shelf

theorem tokEnd_ok (k n : Int) (sz : Nat) (tb : ByteArray) : TokEnd (.ok ⟨k, tb.data.toList, n, sz⟩) (.returned (.tuple #[.agg #[.int .i64 k, .int .i64 0, .string tb, .int .i64 n], .int .i64 sz, .int .i64 0])) := by
  show Ending.returned _ = Ending.returned (.tuple #[.agg #[.int .i64 k, .int .i64 0, .string ⟨tb.data.toList.toArray⟩, .int .i64 n], .int .i64 sz, .int .i64 0])
  rw [toArray_data]
theorem tokEnd_err (er : Int) : TokEnd (.error er) (.returned (.tuple #[.agg #[.int .i64 0, .int .i64 0, .string ⟨#[]⟩, .int .i64 0], .int .i64 0, .int .i64 er])) := rfl
theorem Sp.tokInt_form {l : Sp.Bs} {t : Sp.Tk} (h : Sp.tokInt l = .ok t) : t = ⟨2, [], t.num, l.length⟩ := by
  unfold Sp.tokInt at h
  split at h
  · cases h
  · split at h
    · cases h; rfl
    · cases h
theorem Sp.tokInt_err {l : Sp.Bs} {er : Int} (h : Sp.tokInt l = .error er) : er = 11 := by
  unfold Sp.tokInt at h
  split at h
  · cases h; rfl
  · split at h
    · cases h
    · cases h; rfl

set_option maxHeartbeats 8000000 in
set_option maxRecDepth 100000 in
theorem one_any (s : ByteArray) (hs : s.size ≤ 60000) (h0 : 0 < s.size) (w : World) :
    Calls Tryz.prog 29 #[.string s] w fun e w' => TokEnd (Sp.tok1 s.data.toList) e ∧ Below w.heap.size w w' := by
  have hs6 : s.size ≤ 1000000 := by omega
  have hbel0 : Below w.heap.size w (w.alloc (Obj.cells #[.int .i64 0, .int .i64 0, .string ⟨#[]⟩, .int .i64 0] 37)) := (Below.refl _ w).alloc (Nat.le_refl _) _
  have hc0 := s[0].toNat_lt
  have hwl := Sp.wordLen_le s.data.toList
  rw [size_list] at hwl
  have ht := tok1_cons s h0
  obtain ⟨m, HM⟩ := hid_ex (Sp.wordLen s.data.toList)
  rw [HM.out] at hwl ht
  obtain ⟨xb, HXB⟩ := hid_ex (s.extract 0 m)
  have hxs : xb.size = m := by rw [← HXB.out]; simp [ByteArray.size_extract]; omega
  have hxl : s.extract 0 m = xb := HXB.out
  rw [hxl] at ht
  have hs1 : (s.extract 1 s.size).data.toList = s.data.toList.drop 1 := Lib.extract_to_end s 1
  rw [hs1] at ht
  clear hs1
  cases hbl : Sp.isLet s[0] with
  | true =>
    have HL : Hid (Sp.isLet s[0] = true) := hbl
    obtain ⟨_, _, f3, f4, f5⟩ := Sp.isLet_facts hbl
    rw [if_neg f3, f4, if_neg (by simp), f5, if_pos rfl] at ht
    have HT : Hid (Sp.tok1 s.data.toList = .ok ⟨1, xb.data.toList, 0, m⟩) := by
      show _ = _
      rw [ht]; unfold Sp.tokName; rw [size_list, hxs]
    clear ht hbl f3 f4 f5 HXB
    go_enter Tryz.func29, Tryz.ntmps29
    go_wp2_with (first | (go_at_call 44; refine (rletter_is HL _).mono ?_; rintro e w' ⟨rfl, rfl⟩) | (go_at_call 45; refine (rwords_is HM hs6 _).mono ?_; rintro e w' ⟨rfl, rfl⟩))
    refine bodyPost_ret (v := .tuple #[.agg #[.int .i64 1, .int .i64 0, .string xb, .int .i64 0], .int .i64 m, .int .i64 0]) (by simp [results, Tryz.results29, go_sem]) rfl ⟨?_, ?_⟩
    · rw [HT.out]; exact tokEnd_ok 1 0 m xb
    · exact (Below.refl _ w).alloc (Nat.le_refl _) _
  | false =>
    have HL : Hid (Sp.isLet s[0] = false) := hbl
    cases hbd : Sp.isDig s[0] with
    | true =>
      have HD : Hid (Sp.isDig s[0] = true) := hbd
      have hdd : 48 ≤ s[0].toNat ∧ s[0].toNat ≤ 57 := by simpa [Sp.isDig] using hbd
      rw [if_neg (by omega), hbd, if_pos rfl] at ht
      have hm0 : 0 < m := by
        have hd := get_drop s 0 h0
        simp only [List.drop_zero] at hd
        have : Sp.isWd s[0] = true := by simp [Sp.isWd, hbd]
        rw [← HM.out, hd, Sp.wordLen, if_pos this]
        omega
      have hx0 : 0 < xb.size := by omega
      have hxd : Sp.isDig xb[0] = true := by
        have : xb[0] = s[0] := by
          have e1 := get_drop xb 0 hx0
          have e2 := get_drop s 0 h0
          simp only [List.drop_zero] at e1 e2
          have e3 : xb.data.toList = s.data.toList.take m := by rw [← HXB.out, extract_list]; simp
          rw [e1, e2] at e3
          obtain ⟨j, rfl⟩ : ∃ j, m = j + 1 := ⟨m - 1, by omega⟩
          rw [List.take_succ_cons] at e3
          exact (List.cons.inj e3).1
        rw [this]; exact hbd
      cases hx : Sp.tokInt xb.data.toList with
      | error er =>
        obtain rfl := Sp.tokInt_err hx
        have HN : Hid (Sp.tokInt xb.data.toList = .error 11) := hx
        have HT : Hid (Sp.tok1 s.data.toList = .error 11) := by show _ = _; rw [ht, hx]
        have HXD := Lib.hid hxd
        clear ht hbl hbd hdd hx HXB hxd
        go_enter Tryz.func29, Tryz.ntmps29
        go_wp2_with (first | (go_at_call 44; refine (rletter_is HL _).mono ?_; rintro e w' ⟨rfl, rfl⟩) | (go_at_call 46; refine (rdigit_is HD _).mono ?_; rintro e w' ⟨rfl, rfl⟩) | (go_at_call 45; refine (rwords_is HM hs6 _).mono ?_; rintro e w' ⟨rfl, rfl⟩))
        refine (rnumber_err HN (by omega) hx0 HXD.out _).mono ?_
        rintro e w1 ⟨⟨v, rfl⟩, q, hw1⟩
        have hb1 : Below (w.alloc (Obj.cells #[.int .i64 0, .int .i64 0, .string ⟨#[]⟩, .int .i64 0] 37)).heap.size (w.alloc (Obj.cells #[.int .i64 0, .int .i64 0, .string ⟨#[]⟩, .int .i64 0] 37)) w1 := by rw [hw1]; exact below_drewN (Below.refl _ _) q
        have hT1 := (TokBlk.fresh w (.int .i64 0) (.int .i64 0) (.string ⟨#[]⟩) (.int .i64 0)).below hb1 (by simp)
        obtain ⟨c0, c1, c2, c3, f0, f1, f2, f3, z0, z1, z2, z3, hlt⟩ := hT1.facts
        have hbel1 := hbel0.trans (hb1.mono (by simp))
        clear hb1 hbel0 hw1
        go_wp2
        refine bodyPost_ret (v := .tuple #[.agg (tokVal 0 0 [] 0), .int .i64 0, .int .i64 11]) (by simp [results, Tryz.results29, go_sem, f0, f1, f2, f3, tokVal]) rfl ⟨?_, below4 hbel1⟩
        rw [HT.out]; exact tokEnd_err 11
      | ok t =>
        have htf := Sp.tokInt_form hx
        obtain ⟨n, Hn⟩ := hid_ex t.num
        rw [size_list, hxs, Hn.out] at htf
        have HN : Hid (Sp.tokInt xb.data.toList = .ok ⟨2, [], n, m⟩) := by show _ = _; rw [hx, htf]
        have HT : Hid (Sp.tok1 s.data.toList = .ok ⟨2, [], n, m⟩) := by show _ = _; rw [ht, hx, htf]
        have HXD := Lib.hid hxd
        clear ht hbl hbd hdd hx HXB hxd htf Hn
        go_enter Tryz.func29, Tryz.ntmps29
        go_wp2_with (first | (go_at_call 44; refine (rletter_is HL _).mono ?_; rintro e w' ⟨rfl, rfl⟩) | (go_at_call 46; refine (rdigit_is HD _).mono ?_; rintro e w' ⟨rfl, rfl⟩) | (go_at_call 45; refine (rwords_is HM hs6 _).mono ?_; rintro e w' ⟨rfl, rfl⟩))
        refine (rnumber_ok HN (by omega) hx0 HXD.out _).mono ?_
        rintro e w1 ⟨rfl, q, hw1⟩
        have hb1 : Below (w.alloc (Obj.cells #[.int .i64 0, .int .i64 0, .string ⟨#[]⟩, .int .i64 0] 37)).heap.size (w.alloc (Obj.cells #[.int .i64 0, .int .i64 0, .string ⟨#[]⟩, .int .i64 0] 37)) w1 := by rw [hw1]; exact below_drewN (Below.refl _ _) q
        have hT1 := (TokBlk.fresh w (.int .i64 0) (.int .i64 0) (.string ⟨#[]⟩) (.int .i64 0)).below hb1 (by simp)
        obtain ⟨c0, c1, c2, c3, f0, f1, f2, f3, z0, z1, z2, z3, hlt⟩ := hT1.facts
        have hbel1 := hbel0.trans (hb1.mono (by simp))
        clear hb1 hbel0 hw1
        go_wp2
        refine bodyPost_ret (v := .tuple #[.agg #[.int .i64 2, .int .i64 0, .string ⟨#[]⟩, .int .i64 n], .int .i64 m, .int .i64 0]) (by simp [results, Tryz.results29, go_sem, f0, f1, f2, f3]) rfl ⟨?_, below4 hbel1⟩
        rw [HT.out]; exact tokEnd_ok 2 n m ⟨#[]⟩
    | false =>
      have HD : Hid (Sp.isDig s[0] = false) := hbd
      by_cases hq : s[0].toNat = 39 ∨ s[0].toNat = 34
      · rw [if_pos hq] at ht
        have g : ((s[0].toNat : Int) == 39) = true ∨ (((s[0].toNat : Int) == 39) = false ∧ ((s[0].toNat : Int) == 34) = true) := by
          rcases hq with h | h
          · left; simp [h]
          · right; simp [h]
        cases hst : Sp.strAt s[0] (s.data.toList.drop 1) with
        | none =>
          have HS : Hid (Sp.strAt s[0] (s.data.toList.drop 1) = none) := hst
          have HT : Hid (Sp.tok1 s.data.toList = .error 12) := by
            show _ = _
            rw [ht]; unfold Sp.tokStr; rw [hst]
          clear ht hbl hbd hst hq HXB HM
          rcases g with g1 | ⟨g1, g2⟩
          all_goals
            go_enter Tryz.func29, Tryz.ntmps29
            go_wp2_with (first | (go_at_call 44; refine (rletter_is HL _).mono ?_; rintro e w' ⟨rfl, rfl⟩) | (go_at_call 46; refine (rdigit_is HD _).mono ?_; rintro e w' ⟨rfl, rfl⟩))
            refine (rstr_none h0 HS hs _).mono ?_
            rintro e w1 ⟨rfl, hb1⟩
            have hT1 := (TokBlk.fresh w (.int .i64 0) (.int .i64 0) (.string ⟨#[]⟩) (.int .i64 0)).below hb1 (by simp)
            obtain ⟨c0, c1, c2, c3, f0, f1, f2, f3, z0, z1, z2, z3, hlt⟩ := hT1.facts
            have hbel1 := hbel0.trans (hb1.mono (by simp))
            clear hb1 hbel0
            go_wp2
            refine bodyPost_ret (v := .tuple #[.agg (tokVal 0 0 [] 0), .int .i64 0, .int .i64 12]) (by simp [results, Tryz.results29, go_sem, f0, f1, f2, f3, tokVal]) rfl ⟨?_, below4 hbel1⟩
            rw [HT.out]; exact tokEnd_err 12
        | some x =>
          obtain ⟨t, n⟩ := x
          obtain ⟨tb, htb⟩ : ∃ tb : ByteArray, tb.data.toList = t := ⟨⟨t.toArray⟩, mk_list t⟩
          have hn := Sp.strAt_len s[0] (s.data.toList.drop 1).length (s.data.toList.drop 1) t n (Nat.le_refl _) hst
          rw [List.length_drop, size_list] at hn
          obtain ⟨_, hn2, hn3⟩ := hn
          have HS : Hid (Sp.strAt s[0] (s.data.toList.drop 1) = some (tb.data.toList, n)) := by show _ = _; rw [htb]; exact hst
          have HT : Hid (Sp.tok1 s.data.toList = .ok ⟨3, tb.data.toList, 0, n + 1⟩) := by
            show _ = _
            rw [ht]; unfold Sp.tokStr; rw [hst]
            simp only []
            rw [if_pos (by omega), htb]
          clear ht hbl hbd hst hq HXB HM htb
          rcases g with g1 | ⟨g1, g2⟩
          all_goals
            go_enter Tryz.func29, Tryz.ntmps29
            go_wp2_with (first | (go_at_call 44; refine (rletter_is HL _).mono ?_; rintro e w' ⟨rfl, rfl⟩) | (go_at_call 46; refine (rdigit_is HD _).mono ?_; rintro e w' ⟨rfl, rfl⟩))
            refine (rstr_some h0 HS hs _).mono ?_
            rintro e w1 ⟨rfl, hb1⟩
            have hT1 := (TokBlk.fresh w (.int .i64 0) (.int .i64 0) (.string ⟨#[]⟩) (.int .i64 0)).below hb1 (by simp)
            obtain ⟨c0, c1, c2, c3, f0, f1, f2, f3, z0, z1, z2, z3, hlt⟩ := hT1.facts
            have hbel1 := hbel0.trans (hb1.mono (by simp))
            clear hb1 hbel0
            go_wp2
            refine bodyPost_ret (v := .tuple #[.agg #[.int .i64 3, .int .i64 0, .string tb, .int .i64 0], .int .i64 ((n : Int) + 1), .int .i64 0]) (by simp [results, Tryz.results29, go_sem, f0, f1, f2, f3]) rfl ⟨?_, below4 hbel1⟩
            rw [HT.out]; exact tokEnd_ok 3 0 (n + 1) tb
      · have hnw : Sp.isWd s[0] = false := by unfold Sp.isWd; rw [hbl, hbd]; rfl
        rw [if_neg hq, hbd, if_neg (by simp), hnw, if_neg (by simp), Sp.tokOp_opV] at ht
        have g39 : ((s[0].toNat : Int) == 39) = false := by simp; omega
        have g34 : ((s[0].toNat : Int) == 34) = false := by simp; omega
        obtain ⟨b, hbb⟩ : ∃ b : ByteArray, b.data.toList = Sp.opV s.data.toList := ⟨⟨(Sp.opV s.data.toList).toArray⟩, mk_list _⟩
        have HB : Hid ((⟨(Sp.opV s.data.toList).toArray⟩ : ByteArray) = b) := by show _ = _; rw [← hbb, toArray_data]
        rw [← hbb] at ht
        cases hbe : b.toList.isEmpty with
        | true =>
          have HT : Hid (Sp.tok1 s.data.toList = .error 10) := by
            show _ = _
            rw [ht, if_pos (by rw [← Sp.toList_data]; simpa using hbe)]
          clear ht hbl hbd hq hbb HXB HM hnw
          go_enter Tryz.func29, Tryz.ntmps29
          go_wp2_with (first | (go_at_call 44; refine (rletter_is HL _).mono ?_; rintro e w' ⟨rfl, rfl⟩) | (go_at_call 46; refine (rdigit_is HD _).mono ?_; rintro e w' ⟨rfl, rfl⟩))
          refine (rop_is HB hs6 _).mono ?_
          rintro e w1 ⟨rfl, hb1⟩
          have hT1 := (TokBlk.fresh w (.int .i64 0) (.int .i64 0) (.string ⟨#[]⟩) (.int .i64 0)).below hb1 (by simp)
          obtain ⟨c0, c1, c2, c3, f0, f1, f2, f3, z0, z1, z2, z3, hlt⟩ := hT1.facts
          have hbel1 := hbel0.trans (hb1.mono (by simp))
          clear hb1 hbel0
          go_wp2
          refine bodyPost_ret (v := .tuple #[.agg (tokVal 0 0 [] 0), .int .i64 0, .int .i64 10]) (by simp [results, Tryz.results29, go_sem, f0, f1, f2, f3, tokVal]) rfl ⟨?_, below4 hbel1⟩
          rw [HT.out]; exact tokEnd_err 10
        | false =>
          have HT : Hid (Sp.tok1 s.data.toList = .ok ⟨4, b.data.toList, 0, b.size⟩) := by
            show _ = _
            rw [ht, if_neg (by rw [← Sp.toList_data]; intro e; rw [e] at hbe; simp at hbe), size_list]
          clear ht hbl hbd hq hbb HXB HM hnw
          go_enter Tryz.func29, Tryz.ntmps29
          go_wp2_with (first | (go_at_call 44; refine (rletter_is HL _).mono ?_; rintro e w' ⟨rfl, rfl⟩) | (go_at_call 46; refine (rdigit_is HD _).mono ?_; rintro e w' ⟨rfl, rfl⟩))
          refine (rop_is HB hs6 _).mono ?_
          rintro e w1 ⟨rfl, hb1⟩
          have hT1 := (TokBlk.fresh w (.int .i64 0) (.int .i64 0) (.string ⟨#[]⟩) (.int .i64 0)).below hb1 (by simp)
          obtain ⟨c0, c1, c2, c3, f0, f1, f2, f3, z0, z1, z2, z3, hlt⟩ := hT1.facts
          have hbel1 := hbel0.trans (hb1.mono (by simp))
          clear hb1 hbel0
          go_wp2
          refine bodyPost_ret (v := .tuple #[.agg #[.int .i64 4, .int .i64 0, .string b, .int .i64 0], .int .i64 b.size, .int .i64 0]) (by simp [results, Tryz.results29, go_sem, f0, f1, f2, f3]) rfl ⟨?_, below4 hbel1⟩
          rw [HT.out]; exact tokEnd_ok 4 0 b.size b

set_option maxHeartbeats 8000000 in
set_option maxRecDepth 100000 in
theorem rline_any (s : ByteArray) (hs : s.size ≤ 60000) (at_ : Int) (w : World) :
    Calls Tryz.prog 19 #[.string s, .int .i64 at_] w fun e w' => LineEnd w.heap.size at_ (Sp.lex s.data.toList) e w' ∧ Below w.heap.size w w' := by
  obtain ⟨i0, hi, hz0, hz1, hz2⟩ := info_parts infoTok
  go_enter Tryz.func19, Tryz.ntmps19
  go_wp2_with fail
  go_loopw [7, 8] (fun v7 v8 wr => ∃ (pos : Nat) (ts : List (Nat × Sp.Tk)), v8 = .int .i64 pos ∧ pos ≤ s.size ∧ ts.length ≤ pos ∧ TokRow w.heap.size at_ v7 ts wr ∧ Below w.heap.size w wr ∧ Hid (Sp.lex s.data.toList = Sp.ahead ts (Sp.lexAt pos (s.data.toList.drop pos)))) (fun _ v8 wr => s.size - (intOf v8).toNat)
  case atStart =>
    refine ⟨0, [], rfl, Nat.zero_le _, Nat.le_refl _, ?_, (Below.refl _ w).alloc (Nat.le_refl _) _, ?_⟩
    · exact row_lit w [] #[] rfl (by decide)
    · show _ = _
      rw [Sp.ahead_nil]
      rfl
  case round =>
    obtain ⟨pos, ts, rfl, hpos, htl, hrow, hbel, hx⟩ := hrel
    by_cases hlt : pos < s.size
    · have hd := get_drop s pos hlt
      by_cases h35 : s[pos].toNat = 35
      · have HN : Hid (Sp.lex s.data.toList = .ok ts) := by
          show _ = _
          rw [hx.out, hd, Sp.lexAt_hash _ _ _ h35]
          simp [Sp.ahead]
        have g35 : ((s[pos].toNat : Int) != 35) = false := by simp; omega
        clear hx hd h35
        go_wp2_with fail
        go_ret3
        refine ⟨?_, hbel⟩
        rw [HN.out]
        exact ⟨_, rfl, hrow⟩
      · have g35 : ((s[pos].toNat : Int) != 35) = true := by simp; omega
        by_cases h32 : s[pos].toNat = 32
        · have HN : Hid (Sp.lex s.data.toList = Sp.ahead ts (Sp.lexAt (pos + 1) (s.data.toList.drop (pos + 1)))) := by
            show _ = _
            rw [hx.out, hd, Sp.lexAt_blank _ _ _ h32]
          have g32 : ((s[pos].toNat : Int) == 32) = true := by simp; omega
          clear hx hd h32 h35
          go_wp2_with fail
          go_roundw
          case rel => exact ⟨pos + 1, ts, by go_num, by omega, by omega, hrow, hbel, HN⟩
          case measure => simp [intOf]; omega
        · have g32 : ((s[pos].toNat : Int) == 32) = false := by simp; omega
          have hxl : (s.extract pos s.size).data.toList = s.data.toList.drop pos := Lib.extract_to_end s pos
          have hxs : (s.extract pos s.size).size = s.size - pos := by simp [ByteArray.size_extract]
          have hT := fun w => one_any (s.extract pos s.size) (by omega) (by omega) w
          rw [hxl, hd] at hT
          rw [hd] at hx
          cases ht : Sp.tok1 (s[pos] :: s.data.toList.drop (pos + 1)) with
          | error er =>
            rw [ht] at hT
            have her := Sp.tok1_err ht
            have HN : Hid (Sp.lex s.data.toList = .error (pos, er)) := by
              show _ = _
              rw [hx.out, Sp.lexAt_err _ _ _ h32 h35 _ ht]
              rfl
            have ger : ((er : Int) != 0) = true := by rcases her with rfl | rfl | rfl <;> decide
            have HT : Hid (Calls Tryz.prog 29 #[.string (s.extract pos s.size)] wr fun e w' => e = .returned (.tuple #[.agg #[.int .i64 0, .int .i64 0, .string ⟨#[]⟩, .int .i64 0], .int .i64 0, .int .i64 er]) ∧ Below wr.heap.size wr w') := hT wr
            clear hx hd h32 h35 hxl hxs hT ht her
            go_wp2_with fail
            refine HT.out.mono ?_
            clear HT
            rintro e w1 ⟨rfl, hb1⟩
            have hbel1 := hbel.trans (hb1.mono hbel.size)
            go_wp2_with fail
            go_ret3
            refine ⟨?_, hbel1.alloc hbel1.size _⟩
            rw [HN.out]
            rfl
          | ok t =>
            rw [ht] at hT
            have hsz := Sp.tok1_size ht
            have hsl : (s[pos] :: s.data.toList.drop (pos + 1)).length = s.size - pos := by rw [← hd, List.length_drop, size_list]
            rw [hsl] at hsz
            obtain ⟨hsz1, hsz2⟩ := hsz
            have HN : Hid (Sp.lex s.data.toList = Sp.ahead (ts ++ [(pos, t)]) (Sp.lexAt (pos + t.size) (s.data.toList.drop (pos + t.size)))) := by
              show _ = _
              rw [hx.out, Sp.lexAt_tok _ _ _ h32 h35 _ ht, Sp.ahead_ahead, ← hd, List.drop_drop]
            obtain ⟨tb, HTB⟩ := hid_ex (⟨t.text.toArray⟩ : ByteArray)
            have HT : Hid (Calls Tryz.prog 29 #[.string (s.extract pos s.size)] wr fun e w' => e = .returned (.tuple #[.agg #[.int .i64 t.kind, .int .i64 0, .string tb, .int .i64 t.num], .int .i64 t.size, .int .i64 0]) ∧ Below wr.heap.size wr w') := by
              rw [← HTB.out]
              exact hT wr
            clear hx hd h32 h35 hxl hxs hT ht hsl
            go_wp2_with fail
            refine HT.out.mono ?_
            clear HT
            rintro e w1 ⟨rfl, hb1⟩
            have hbel1 := hbel.trans (hb1.mono hbel.size)
            have hrow1 := TokRow.below hrow hb1
            clear hrow hbel hb1
            have hown : w1.ownsRow w.heap.size 37 4 _ ts.length (rowCells at_ ts) := hrow1
            clear hrow1
            have hz1' : w.heap.size ≤ w1.heap.size := hbel1.size
            go_wp2_with (at_builtin; refine wpList_append_own _ rfl _ _ 25 rfl w.heap.size 37 i0 (.agg #[.int .i64 0, .int .i64 0, .string ⟨#[]⟩, .int .i64 0]) 4 40 Tryz.underlying25 hi hz0 hz1 hz2 rfl (by decide) _ _ _ rfl ((hown.alloc _).alloc _) ⟨w1.heap.size + 1, 0, none⟩ 1 1 [.int .i64 t.kind, .int .i64 (wrap64 (at_ + ↑pos)), .string tb, .int .i64 t.num] rfl rfl ?c1 ?c2 ?c3 ?c4 ?c5 ?_)
            case c1 =>
              intro j u hj
              match j, hj with
              | 0, hj => simp at hj; subst hj; simp [Addr.add]
              | 1, hj => simp at hj; subst hj; simp [Addr.add]
              | 2, hj => simp at hj; subst hj; simp [Addr.add]
              | 3, hj => simp at hj; subst hj; simp [Addr.add]
            case c2 => intro u hu; simp at hu; rcases hu with rfl | rfl | rfl | rfl <;> rfl
            case c3 => unfold maxLen; omega
            case c4 => omega
            case c5 => simp; omega
            intro v' w2 hown' hgrow _
            have hbel2 : Below w.heap.size w w2 := ((hbel1.alloc hz1' _).alloc (by simp; omega) _).grown hgrow (by simp; omega) (fun k hk => (hown.lt k hk).1)
            have hrow2 : TokRow w.heap.size at_ v' (ts ++ [(pos, t)]) w2 := by
              unfold TokRow
              rw [List.length_append]
              have e : rowCells at_ (ts ++ [(pos, t)]) = rowCells at_ ts ++ [.int .i64 t.kind, .int .i64 (wrap64 (at_ + ↑pos)), .string tb, .int .i64 t.num] := by
                simp [rowCells, List.flatMap_append, tokCells, HTB.out]
              rw [e]
              exact hown'
            clear hown' hgrow hown hbel1 hz1'
            go_wp2_with fail
            go_roundw
            case rel => exact ⟨pos + t.size, ts ++ [(pos, t)], by go_num, by omega, by simp; omega, hrow2, hbel2, HN⟩
            case measure => simp [intOf]; omega
    · have HN : Hid (Sp.lex s.data.toList = .ok ts) := by
        show _ = _
        rw [hx.out, List.drop_of_length_le (by rw [size_list]; omega), Sp.lexAt_nil]
        simp [Sp.ahead]
      clear hx
      go_wp2_with fail
      go_ret3
      refine ⟨?_, hbel⟩
      rw [HN.out]
      exact ⟨_, rfl, hrow⟩
end Go.Proofs.YtbdjccmcdifjcaaGreatDoor
