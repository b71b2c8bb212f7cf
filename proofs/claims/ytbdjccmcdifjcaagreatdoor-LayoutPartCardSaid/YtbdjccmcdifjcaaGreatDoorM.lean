/-
  What the token is with which a text begins, at this program.
-/
import Derived.Test.YtbdjccmcdifjcaaGreatDoorL
set_option linter.unusedVariables false
set_option linter.unusedSimpArgs false
namespace Go.Proofs.YtbdjccmcdifjcaaGreatDoor
open Go.RowKit Go.Shelf

namespace Sp
/-- The token with which a text that is not empty begins. -/
def tok1 (l : Bs) : Except Int Tk :=
  match l with
  | [] => .error 10
  | c :: r =>
    if c.toNat = 39 ∨ c.toNat = 34 then tokStr c r
    else if isDig c then tokInt ((c :: r).take (wordLen (c :: r)))
    else if isWd c then tokName ((c :: r).take (wordLen (c :: r)))
    else tokOp (c :: r)
end Sp

theorem tokEnd_val (x : Except Int Sp.Tk) : ∃ (k : Int) (tb : ByteArray) (n : Int) (sz : Nat) (er : Int), ∀ e, TokEnd x e ↔ e = .returned (.tuple #[.agg #[.int .i64 k, .int .i64 0, .string tb, .int .i64 n], .int .i64 sz, .int .i64 er]) := by
  cases x with
  | error er => exact ⟨0, ⟨#[]⟩, 0, 0, er, fun e => Iff.rfl⟩
  | ok t => exact ⟨t.kind, ⟨t.text.toArray⟩, t.num, t.size, 0, fun e => Iff.rfl⟩

theorem tok1_cons (s : ByteArray) (h0 : 0 < s.size) : Sp.tok1 s.data.toList =
    if s[0].toNat = 39 ∨ s[0].toNat = 34 then Sp.tokStr s[0] (s.extract 1 s.size).data.toList
    else if Sp.isDig s[0] then Sp.tokInt (s.extract 0 (Sp.wordLen s.data.toList)).data.toList
    else if Sp.isWd s[0] then Sp.tokName (s.extract 0 (Sp.wordLen s.data.toList)).data.toList
    else Sp.tokOp s.data.toList := by
  have hd := get_drop s 0 h0
  simp only [List.drop_zero] at hd
  have e : (s.extract 1 s.size).data.toList = s.data.toList.drop (0 + 1) := Lib.extract_to_end s 1
  have e2 : ∀ n, (s.extract 0 n).data.toList = s.data.toList.take n := fun n => by rw [extract_list]; simp
  rw [e, e2]
  generalize hu : s.data.toList.drop (0 + 1) = u at hd
  generalize hl : s.data.toList = l at hd
  subst hd
  rfl

set_option maxHeartbeats 4000000 in
theorem token_any (s : ByteArray) (hs : s.size ≤ 60000) (h0 : 0 < s.size) (w : World) (hE : Env w) :
    Calls Tryz.prog 61 #[.string s] w fun e w' => TokEnd (Sp.tok1 s.data.toList) e ∧ Below w.heap.size w w' := by
  have hs6 : s.size ≤ 1000000 := by omega
  have hbel0 : Below w.heap.size w (w.alloc (Obj.cells #[.int .i64 0, .int .i64 0, .string ⟨#[]⟩, .int .i64 0] 37)) := (Below.refl _ w).alloc (Nat.le_refl _) _
  have hE0 := hE.below hbel0 hE.size
  have hc0 := s[0].toNat_lt
  have hwl := Sp.wordLen_le s.data.toList
  rw [size_list] at hwl
  rw [tok1_cons s h0]
  by_cases hq : s[0].toNat = 39 ∨ s[0].toNat = 34
  · rw [if_pos hq]
    have hT := fun w hE => strToken_any s hs h0 hq w hE
    generalize Sp.tokStr s[0] (s.extract 1 s.size).data.toList = x at hT ⊢
    obtain ⟨k, tb, n, sz, er, hx⟩ := tokEnd_val x
    have HX := Lib.hid hx
    have HT : Hid (∀ w, Env w → Calls Tryz.prog 70 #[.string s] w fun e w' => e = .returned (.tuple #[.agg #[.int .i64 k, .int .i64 0, .string tb, .int .i64 n], .int .i64 sz, .int .i64 er]) ∧ Below w.heap.size w w') := by
      intro w hE
      refine (hT w hE).mono ?_
      rintro e w' ⟨h1, h2⟩
      exact ⟨(hx e).1 h1, h2⟩
    have g : (((s[0].toNat : Int) == 39) || ((s[0].toNat : Int) == 34)) = true := by
      rcases hq with h | h <;> simp [h]
    have g2 : ((s[0].toNat : Int) == 39) = true ∨ (((s[0].toNat : Int) == 39) = false ∧ ((s[0].toNat : Int) == 34) = true) := by
      rcases hq with h | h
      · left; simp [h]
      · right; simp [h]
    clear hT hx hq g
    rcases g2 with g2 | ⟨g1, g2⟩
    all_goals
      go_enter Tryz.func61, Tryz.ntmps61
      go_wp2_with fail
      refine (HT.out _ hE0).mono ?_
      rintro e w1 ⟨rfl, hb1⟩
      have hT1 := (TokBlk.fresh w (.int .i64 0) (.int .i64 0) (.string ⟨#[]⟩) (.int .i64 0)).below hb1 (by simp)
      obtain ⟨c0, c1, c2, c3, f0, f1, f2, f3, z0, z1, z2, z3, hlt⟩ := hT1.facts
      have hbel1 := hbel0.trans (hb1.mono (by simp))
      clear hb1 hbel0 hE0 HT
      go_wp2
      refine bodyPost_ret (v := .tuple #[.agg #[.int .i64 k, .int .i64 0, .string tb, .int .i64 n], .int .i64 sz, .int .i64 er]) (by simp [results, Tryz.results61, go_sem, f0, f1, f2, f3]) rfl ⟨(HX.out _).2 rfl, below4 hbel1⟩
  · rw [if_neg hq]
    have g39 : ((s[0].toNat : Int) == 39) = false := by simp; omega
    have g34 : ((s[0].toNat : Int) == 34) = false := by simp; omega
    clear hq
    obtain ⟨bd, HB⟩ := hid_ex (digI (s[0].toNat : Int))
    obtain ⟨bw, HW⟩ := hid_ex (wdI (s[0].toNat : Int))
    obtain ⟨m, HM⟩ := hid_ex (Sp.wordLen s.data.toList)
    rw [HM.out] at hwl
    rw [← digI_byte, ← wdI_byte, HB.out, HW.out, HM.out]
    cases bd with
    | true =>
      rw [if_pos rfl]
      have hm0 : 0 < m := by
        have hd := get_drop s 0 h0
        simp only [List.drop_zero] at hd
        have : Sp.isWd s[0] = true := by
          have h1 := HB.out
          rw [digI_byte] at h1
          simp [Sp.isWd, h1]
        rw [← HM.out, hd, Sp.wordLen, if_pos this]
        omega
      have hxs : (s.extract 0 m).size = m := by simp [ByteArray.size_extract]; omega
      have hT := fun w hE => intToken_any (s.extract 0 m) (by omega) (by omega) w hE
      generalize Sp.tokInt (s.extract 0 m).data.toList = x at hT ⊢
      obtain ⟨k, tb, n, sz, er, hx⟩ := tokEnd_val x
      have HX := Lib.hid hx
      have HT : Hid (∀ w, Env w → Calls Tryz.prog 72 #[.string (s.extract 0 m)] w fun e w' => e = .returned (.tuple #[.agg #[.int .i64 k, .int .i64 0, .string tb, .int .i64 n], .int .i64 sz, .int .i64 er]) ∧ Below w.heap.size w w') := by
        intro w hE
        refine (hT w hE).mono ?_
        rintro e w' ⟨h1, h2⟩
        exact ⟨(hx e).1 h1, h2⟩
      clear hT hx hxs HW
      go_enter Tryz.func61, Tryz.ntmps61
      go_wp2_with (go_at_call 71; refine (isDigit_is HB _).mono ?_; rintro e w' ⟨rfl, rfl⟩)
      have hz0 : w.heap.size < (w.alloc (Obj.cells #[.int .i64 0, .int .i64 0, .string ⟨#[]⟩, .int .i64 0] 37)).heap.size := by simp
      refine (wordSize_is HM _ hs6).mono ?_
      rintro e w1 ⟨rfl, hb1⟩
      have hT1 := (TokBlk.fresh w (.int .i64 0) (.int .i64 0) (.string ⟨#[]⟩) (.int .i64 0)).below hb1 hz0
      have hbel1 := hbel0.trans (hb1.mono (by simp))
      have hE1 := hE.below hbel1 hE.size
      have hz1 : w.heap.size < w1.heap.size := Nat.lt_of_lt_of_le hz0 hb1.size
      clear hb1 hbel0 hE0 hz0
      go_wp2_with fail
      refine (HT.out _ hE1).mono ?_
      rintro e w2 ⟨rfl, hb2⟩
      have hT2 := hT1.below hb2 hz1
      obtain ⟨c0, c1, c2, c3, f0, f1, f2, f3, z0, z1, z2, z3, hlt⟩ := hT2.facts
      have hbel2 := hbel1.trans (hb2.mono hbel1.size)
      clear hb2 hbel1 hE1 HT hT1 hz1
      go_wp2
      refine bodyPost_ret (v := .tuple #[.agg #[.int .i64 k, .int .i64 0, .string tb, .int .i64 n], .int .i64 sz, .int .i64 er]) (by simp [results, Tryz.results61, go_sem, f0, f1, f2, f3]) rfl ⟨(HX.out _).2 rfl, below4 hbel2⟩
    | false =>
      rw [if_neg (by simp)]
      cases bw with
      | true =>
        rw [if_pos rfl]
        have hxs : (s.extract 0 m).size = m := by simp [ByteArray.size_extract]; omega
        have hT := fun w (hE : Env w) => nameToken_any (s.extract 0 m) w (by omega)
        generalize Sp.tokName (s.extract 0 m).data.toList = x at hT ⊢
        obtain ⟨k, tb, n, sz, er, hx⟩ := tokEnd_val x
        have HX := Lib.hid hx
        have HT : Hid (∀ w, Env w → Calls Tryz.prog 75 #[.string (s.extract 0 m)] w fun e w' => e = .returned (.tuple #[.agg #[.int .i64 k, .int .i64 0, .string tb, .int .i64 n], .int .i64 sz, .int .i64 er]) ∧ Below w.heap.size w w') := by
          intro w hE
          refine (hT w hE).mono ?_
          rintro e w' ⟨h1, h2⟩
          exact ⟨(hx e).1 h1, h2⟩
        clear hT hx hxs
        go_enter Tryz.func61, Tryz.ntmps61
        go_wp2_with (first | (go_at_call 71; refine (isDigit_is HB _).mono ?_; rintro e w' ⟨rfl, rfl⟩) | (go_at_call 74; refine (isWord_is HW _).mono ?_; rintro e w' ⟨rfl, rfl⟩))
        have hz0 : w.heap.size < (w.alloc (Obj.cells #[.int .i64 0, .int .i64 0, .string ⟨#[]⟩, .int .i64 0] 37)).heap.size := by simp
        refine (wordSize_is HM _ hs6).mono ?_
        rintro e w1 ⟨rfl, hb1⟩
        have hT1 := (TokBlk.fresh w (.int .i64 0) (.int .i64 0) (.string ⟨#[]⟩) (.int .i64 0)).below hb1 hz0
        have hbel1 := hbel0.trans (hb1.mono (by simp))
        have hE1 := hE.below hbel1 hE.size
        have hz1 : w.heap.size < w1.heap.size := Nat.lt_of_lt_of_le hz0 hb1.size
        clear hb1 hbel0 hE0 hz0
        go_wp2_with fail
        refine (HT.out _ hE1).mono ?_
        rintro e w2 ⟨rfl, hb2⟩
        have hT2 := hT1.below hb2 hz1
        obtain ⟨c0, c1, c2, c3, f0, f1, f2, f3, z0, z1, z2, z3, hlt⟩ := hT2.facts
        have hbel2 := hbel1.trans (hb2.mono hbel1.size)
        clear hb2 hbel1 hE1 HT hT1 hz1
        go_wp2
        refine bodyPost_ret (v := .tuple #[.agg #[.int .i64 k, .int .i64 0, .string tb, .int .i64 n], .int .i64 sz, .int .i64 er]) (by simp [results, Tryz.results61, go_sem, f0, f1, f2, f3]) rfl ⟨(HX.out _).2 rfl, below4 hbel2⟩
      | false =>
        rw [if_neg (by simp)]
        have hT := fun w (hE : Env w) => opToken_any s w hE
        generalize Sp.tokOp s.data.toList = x at hT ⊢
        obtain ⟨k, tb, n, sz, er, hx⟩ := tokEnd_val x
        have HX := Lib.hid hx
        have HT : Hid (∀ w, Env w → Calls Tryz.prog 76 #[.string s] w fun e w' => e = .returned (.tuple #[.agg #[.int .i64 k, .int .i64 0, .string tb, .int .i64 n], .int .i64 sz, .int .i64 er]) ∧ Below w.heap.size w w') := by
          intro w hE
          refine (hT w hE).mono ?_
          rintro e w' ⟨h1, h2⟩
          exact ⟨(hx e).1 h1, h2⟩
        clear hT hx HM
        go_enter Tryz.func61, Tryz.ntmps61
        go_wp2_with (first | (go_at_call 71; refine (isDigit_is HB _).mono ?_; rintro e w' ⟨rfl, rfl⟩) | (go_at_call 74; refine (isWord_is HW _).mono ?_; rintro e w' ⟨rfl, rfl⟩))
        refine (HT.out _ hE0).mono ?_
        rintro e w1 ⟨rfl, hb1⟩
        have hT1 := (TokBlk.fresh w (.int .i64 0) (.int .i64 0) (.string ⟨#[]⟩) (.int .i64 0)).below hb1 (by simp)
        obtain ⟨c0, c1, c2, c3, f0, f1, f2, f3, z0, z1, z2, z3, hlt⟩ := hT1.facts
        have hbel1 := hbel0.trans (hb1.mono (by simp))
        clear hb1 hbel0 hE0 HT
        go_wp2
        refine bodyPost_ret (v := .tuple #[.agg #[.int .i64 k, .int .i64 0, .string tb, .int .i64 n], .int .i64 sz, .int .i64 er]) (by simp [results, Tryz.results61, go_sem, f0, f1, f2, f3]) rfl ⟨(HX.out _).2 rfl, below4 hbel1⟩
end Go.Proofs.YtbdjccmcdifjcaaGreatDoor
