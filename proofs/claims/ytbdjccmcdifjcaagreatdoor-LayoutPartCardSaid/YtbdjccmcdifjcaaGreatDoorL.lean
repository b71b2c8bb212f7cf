/-
  What names, numbers and operators are as tokens, at this program.
-/
import Derived.Test.YtbdjccmcdifjcaaGreatDoorT
import Derived.Laws.Rows
set_option linter.unusedVariables false
set_option linter.unusedSimpArgs false
namespace Go.Proofs.YtbdjccmcdifjcaaGreatDoor
open Go.RowKit Go.Shelf

namespace Sp
def tokName (l : Bs) : Except Int Tk := .ok ⟨1, l, 0, l.length⟩
def tokInt (l : Bs) : Except Int Tk :=
  if 1 < l.length ∧ l.head? = some 48 then .error 11
  else match Lib.parseIntB 64 l with
    | .ok v => .ok ⟨2, [], v, l.length⟩
    | _ => .error 11
def opsL : List Bs := [[42, 42, 61], [47, 47, 61], [47, 47], [42, 42], [61, 61], [33, 61], [60, 61], [62, 61], [43, 61], [45, 61], [42, 61], [37, 61], [43], [45], [42], [37], [60], [62], [61], [40], [41], [91], [93], [123], [125], [44], [58], [46]]
def opsFrom (k : Nat) (l : Bs) : Except Int Tk :=
  match (opsL.drop k).find? (·.isPrefixOf l) with
  | some o => .ok ⟨4, o, 0, o.length⟩
  | none => .error 10
def tokOp (l : Bs) : Except Int Tk := opsFrom 0 l
def unq (l : Bs) : Option Bs :=
  match l with
  | [] => none
  | q :: r => if q.toNat = 39 ∨ q.toNat = 34 then
      match tokStr q r with
      | .ok t => if t.size = l.length then some t.text else none
      | .error _ => none
    else none
end Sp

set_option maxHeartbeats 1000000 in
theorem clone_any (s : ByteArray) (w : World) (hs : s.size ≤ 1000000) : Calls Tryz.prog 86 #[.string s] w fun e w' => e = .returned (.string s) ∧ Below w.heap.size w w' := by
  go_enter Tryz.func86, Tryz.ntmps86
  go_wp2_with fail
  refine (Tryz.stringslite_Clone s w (by omega)).mono ?_
  rintro e w1 ⟨rfl, hb⟩
  go_wp2
  go_ret
  exact ⟨rfl, hb⟩

theorem below4 {w w1 : World} {v0 v1 v2 v3 : Value} (h : Below w.heap.size w w1) : Below w.heap.size w ((((w1.setCell ⟨w.heap.size, 0, none⟩ v0).setCell ⟨w.heap.size, 1, none⟩ v1).setCell ⟨w.heap.size, 2, none⟩ v2).setCell ⟨w.heap.size, 3, none⟩ v3) :=
  (((h.setCell (p := ⟨w.heap.size, 0, none⟩) (Nat.le_refl _) _).setCell (p := ⟨w.heap.size, 1, none⟩) (Nat.le_refl _) _).setCell (p := ⟨w.heap.size, 2, none⟩) (Nat.le_refl _) _).setCell (p := ⟨w.heap.size, 3, none⟩) (Nat.le_refl _) _

theorem toArray_data (s : ByteArray) : (⟨s.data.toList.toArray⟩ : ByteArray) = s := by
  cases s; simp

set_option maxHeartbeats 1000000 in
theorem nameToken_any (s : ByteArray) (w : World) (hs : s.size ≤ 1000000) : Calls Tryz.prog 75 #[.string s] w fun e w' => TokEnd (Sp.tokName s.data.toList) e ∧ Below w.heap.size w w' := by
  have hbel0 : Below w.heap.size w (w.alloc (Obj.cells #[.int .i64 0, .int .i64 0, .string ⟨#[]⟩, .int .i64 0] 37)) := (Below.refl _ w).alloc (Nat.le_refl _) _
  go_enter Tryz.func75, Tryz.ntmps75
  go_wp2_with fail
  refine (clone_any s _ hs).mono ?_
  rintro e w1 ⟨rfl, hb1⟩
  have hT1 := (TokBlk.fresh w (.int .i64 0) (.int .i64 0) (.string ⟨#[]⟩) (.int .i64 0)).below hb1 (by simp)
  obtain ⟨c0, c1, c2, c3, f0, f1, f2, f3, z0, z1, z2, z3, hlt⟩ := hT1.facts
  have hbel1 := hbel0.trans (hb1.mono (by simp))
  clear hb1 hbel0
  go_wp2
  refine bodyPost_ret (v := .tuple #[.agg #[.int .i64 1, .int .i64 0, .string s, .int .i64 0], .int .i64 s.size, .int .i64 0]) (by simp [results, Tryz.results75, go_sem, f0, f1, f2, f3]) rfl ⟨?_, below4 hbel1⟩
  show _ = Ending.returned (.tuple #[.agg #[.int .i64 1, .int .i64 0, .string ⟨s.data.toList.toArray⟩, .int .i64 0], .int .i64 (s.data.toList.length : Int), .int .i64 0])
  rw [toArray_data, size_list]

def opAt (k : Nat) : ByteArray := ⟨(Sp.opsL.getD k []).toArray⟩
theorem opsL_len : Sp.opsL.length = 28 := rfl
theorem opsArr_at (k : Nat) (h : k < 28) : opsArr[k]? = some (.string (opAt k)) := by
  have e : opsArr = (Sp.opsL.map fun l => Value.string ⟨l.toArray⟩).toArray := rfl
  have hk : k < Sp.opsL.length := by rw [opsL_len]; exact h
  rw [e, opAt, List.getElem?_toArray, List.getElem?_map, List.getElem?_eq_getElem hk, List.getD_eq_getElem?_getD, List.getElem?_eq_getElem hk]
  rfl
theorem index_ops (k : Nat) (h : k < 28) (w : World) : (Instr.index 122 (.agg opsArr) (.int .i64 (k : Int))).run Tryz.prog w = .ok (.string (opAt k)) w := by
  have h2 := opsArr_at k h
  simp [Instr.index, asIntOf, run_underlying Tryz.underlying122, h, part, h2, Tryz.isAgg9, Tryz.sizeOf9]
theorem ops_size : (Tryz.prog.info? 122).map (·.size) = some opsArr.size := by kernel_rfl

/-- What strconv.ParseInt answers: a number and no error, or some number and an error that is not nil. -/
def IntEnd (r : Option Int) (e : Ending) : Prop :=
  match r with
  | some v => e = .returned (.tuple #[.int .i64 v, .nilIface])
  | none => ∃ v p, e = .returned (.tuple #[.int .i64 v, .iface 147 p])
def parse64 (l : Sp.Bs) : Option Int :=
  match Lib.parseIntB 64 l with
  | .ok v => some v
  | _ => none
theorem parseInt_any (s : ByteArray) (hs : s.size ≤ 1000000) (w : World) (hE : Env w) : Calls Tryz.prog 85 #[.string s, .int .i64 10, .int .i64 64] w fun e w' => IntEnd (parse64 s.data.toList) e ∧ Below w.heap.size w w' := by
  unfold parse64
  cases h : Lib.parseIntB 64 s.data.toList
  · rename_i v
    refine (Any.strconv_ParseInt_10_at64_ok Tryz.laysC174 s (by omega) v h w).mono ?_
    rintro e w' ⟨rfl, hw⟩
    refine ⟨rfl, ?_⟩
    rcases hw with rfl | ⟨t, rfl⟩
    · exact Below.refl _ _
    · exact Lib.bytesWorld_below w 5 t
  · obtain ⟨ev, hv, hev⟩ := hE.es
    refine (Any.strconv_ParseInt_10_at64_syntax Tryz.laysC174 s (by omega) h _ w hv hev).mono ?_
    rintro e w' ⟨N, rfl, _, _, hb⟩
    exact ⟨⟨_, _, rfl⟩, hb⟩
  · obtain ⟨ev, hv, hev⟩ := hE.er
    refine (Any.strconv_ParseInt_10_at64_range Tryz.laysC174 s (by omega) h _ w hv hev).mono ?_
    rintro e w' ⟨N, rfl, _, _, hb⟩
    exact ⟨⟨_, _, rfl⟩, hb⟩

theorem tokInt_eq (l : Sp.Bs) : Sp.tokInt l = if 1 < l.length ∧ l.head? = some 48 then .error 11 else match parse64 l with | some v => .ok ⟨2, [], v, l.length⟩ | none => .error 11 := by
  unfold Sp.tokInt parse64
  split
  · rfl
  · cases Lib.parseIntB 64 l <;> rfl

set_option maxHeartbeats 2000000 in
theorem intToken_any (s : ByteArray) (hs : s.size ≤ 1000000) (h0 : 0 < s.size) (w : World) (hE : Env w) : Calls Tryz.prog 72 #[.string s] w fun e w' => TokEnd (Sp.tokInt s.data.toList) e ∧ Below w.heap.size w w' := by
  have hbel0 : Below w.heap.size w (w.alloc (Obj.cells #[.int .i64 0, .int .i64 0, .string ⟨#[]⟩, .int .i64 0] 37)) := (Below.refl _ w).alloc (Nat.le_refl _) _
  have hE0 := hE.below hbel0 hE.size
  have hd := get_drop s 0 h0
  simp only [List.drop_zero] at hd
  rw [tokInt_eq, size_list]
  by_cases hc : 1 < s.size ∧ s.data.toList.head? = some 48
  · rw [if_pos hc]
    obtain ⟨h1, h2⟩ := hc
    have g48 : ((s[0].toNat : Int) == 48) = true := by
      rw [hd] at h2
      simp at h2
      simp [h2]
    have hT1 := TokBlk.fresh w (.int .i64 0) (.int .i64 0) (.string ⟨#[]⟩) (.int .i64 0)
    clear hd h2 hE0
    go_enter Tryz.func72, Tryz.ntmps72
    go_wp2
    refine bodyPost_ret (v := .tuple #[.agg (tokVal 0 0 [] 0), .int .i64 0, .int .i64 11]) (by simp [results, Tryz.results72, go_sem, tokVal]) rfl ⟨rfl, ?_⟩
    first | exact (Below.refl _ w).alloc (Nat.le_refl _) _ | exact below4 hbel0 | exact hbel0
  · rw [if_neg hc]
    have g48 : (decide (1 < (s.size : Int)) && ((s[0].toNat : Int) == 48)) = false := by
      rw [hd] at hc
      simp at hc ⊢
      intro h h2
      exact hc (by omega) (by apply UInt8.toNat_inj.1; show s[0].toNat = 48; omega)
    obtain ⟨x, HX⟩ := hid_ex (parse64 s.data.toList)
    have hP := fun w hE => parseInt_any s hs w hE
    rw [HX.out] at hP ⊢
    have HP := Lib.hid hP
    have g' : s.size ≤ 1 ∨ (1 < s.size ∧ ((s[0].toNat : Int) == 48) = false) := by
      rcases Nat.lt_or_ge 1 s.size with h | h
      · right; refine ⟨h, ?_⟩
        simp only [Bool.and_eq_false_iff] at g48
        rcases g48 with g | g
        · simp at g; omega
        · exact g
      · left; exact h
    clear hP hd hc g48
    have main : ∀ (x : Option Int), (∀ w, Env w → Calls Tryz.prog 85 #[.string s, .int .i64 10, .int .i64 64] w fun e w' => IntEnd x e ∧ Below w.heap.size w w') → True := fun _ _ => trivial
    clear main
    cases x with
    | some v =>
      rcases g' with g | ⟨g, g2⟩
      all_goals
        go_enter Tryz.func72, Tryz.ntmps72
        go_wp2_with fail
        refine (HP.out _ hE0).mono ?_
        rintro e w1 ⟨rfl, hb1⟩
        have hT1 := (TokBlk.fresh w (.int .i64 0) (.int .i64 0) (.string ⟨#[]⟩) (.int .i64 0)).below hb1 (by simp)
        obtain ⟨c0, c1, c2, c3, f0, f1, f2, f3, z0, z1, z2, z3, hlt⟩ := hT1.facts
        have hbel1 := hbel0.trans (hb1.mono (by simp))
        clear hb1 hbel0 hE0 HP
        go_wp2
        refine bodyPost_ret (v := .tuple #[.agg #[.int .i64 2, .int .i64 0, .string ⟨#[]⟩, .int .i64 v], .int .i64 s.size, .int .i64 0]) (by simp [results, Tryz.results72, go_sem, f0, f1, f2, f3]) rfl ⟨rfl, below4 hbel1⟩
    | none =>
      rcases g' with g | ⟨g, g2⟩
      all_goals
        go_enter Tryz.func72, Tryz.ntmps72
        go_wp2_with fail
        refine (HP.out _ hE0).mono ?_
        rintro e w1 ⟨⟨v, p, rfl⟩, hb1⟩
        have hT1 := (TokBlk.fresh w (.int .i64 0) (.int .i64 0) (.string ⟨#[]⟩) (.int .i64 0)).below hb1 (by simp)
        obtain ⟨c0, c1, c2, c3, f0, f1, f2, f3, z0, z1, z2, z3, hlt⟩ := hT1.facts
        have hbel1 := hbel0.trans (hb1.mono (by simp))
        clear hb1 hbel0 hE0 HP
        go_wp2
        refine bodyPost_ret (v := .tuple #[.agg (tokVal 0 0 [] 0), .int .i64 0, .int .i64 11]) (by simp [results, Tryz.results72, go_sem, f0, f1, f2, f3, tokVal]) rfl ⟨rfl, below4 hbel1⟩

theorem opsFrom_stop (l : Sp.Bs) : Sp.opsFrom 28 l = .error 10 := rfl
theorem opsFrom_step (k : Nat) (h : k < 28) (l : Sp.Bs) : Sp.opsFrom k l = if Lib.hasPrefix l (opAt k).data.toList then .ok ⟨4, (opAt k).data.toList, 0, (opAt k).size⟩ else Sp.opsFrom (k + 1) l := by
  have hk : k < Sp.opsL.length := by rw [opsL_len]; exact h
  have e : (opAt k).data.toList = Sp.opsL[k] := by
    unfold opAt
    rw [List.getD_eq_getElem?_getD, List.getElem?_eq_getElem hk]
    simp
  have e2 : (opAt k).size = Sp.opsL[k].length := by rw [← size_list, e]
  rw [e, e2]
  unfold Sp.opsFrom
  rw [List.drop_eq_getElem_cons hk, List.find?_cons]
  unfold Lib.hasPrefix
  cases Sp.opsL[k].isPrefixOf l <;> rfl

set_option maxHeartbeats 2000000 in
theorem opToken_any (s : ByteArray) (w : World) (hE : Env w) : Calls Tryz.prog 76 #[.string s] w fun e w' => TokEnd (Sp.tokOp s.data.toList) e ∧ Below w.heap.size w w' := by
  have hbel0 : Below w.heap.size w (w.alloc (Obj.cells #[.int .i64 0, .int .i64 0, .string ⟨#[]⟩, .int .i64 0] 37)) := (Below.refl _ w).alloc (Nat.le_refl _) _
  obtain ⟨T, fr, hops⟩ := (hE.below hbel0 hE.size).ops
  have hT1 := TokBlk.fresh w (.int .i64 0) (.int .i64 0) (.string ⟨#[]⟩) (.int .i64 0)
  go_enter Tryz.func76, Tryz.ntmps76
  go_wp2_with (refine wpList_load_row rfl 122 _ rfl 3 rfl T opsArr fr _ hops Tryz.underlying122 rfl ops_size ?_)
  go_loop [8] (fun i => ∃ k : Nat, k ≤ 28 ∧ i = .int .i64 k ∧ Hid (Sp.tokOp s.data.toList = Sp.opsFrom k s.data.toList)) (fun i => 28 - (intOf i).toNat)
  case atStart => exact ⟨0, by omega, rfl, rfl⟩
  case round =>
    obtain ⟨k, hk, rfl, hh⟩ := hrel
    by_cases hlt : k < 28
    · have hst := opsFrom_step k hlt s.data.toList
      have hix := index_ops k hlt
      have hcon := fun w => Tryz.strings_HasPrefix s (opAt k) w
      generalize opAt k = ob at hst hix hcon
      have HC0 := Lib.hid hcon
      clear hcon
      cases hp : Lib.hasPrefix s.data.toList ob.data.toList with
      | true =>
        rw [hp, if_pos rfl] at hst
        have HN : Hid (Sp.tokOp s.data.toList = .ok ⟨4, ob.data.toList, 0, ob.size⟩) := hh.out.trans hst
        have HC : Hid (∀ w, Calls Tryz.prog 87 #[.string s, .string ob] w fun e w' => e = .returned (.bool true) ∧ w = w') := by
          intro w
          refine (HC0.out w).mono ?_
          rintro e w' ⟨rfl, rfl⟩
          rw [hp]
          exact ⟨rfl, rfl⟩
        clear hh hst hp HC0
        go_wp2_with (go_at_call 87; refine (HC.out _).mono ?_; rintro e w' ⟨rfl, rfl⟩)
        refine bodyPost_ret (v := .tuple #[.agg #[.int .i64 4, .int .i64 0, .string ob, .int .i64 0], .int .i64 ob.size, .int .i64 0]) (by simp [results, Tryz.results76, go_sem]) rfl ⟨?_, ?_⟩
        · rw [HN.out]
          show _ = Ending.returned (.tuple #[.agg #[.int .i64 4, .int .i64 0, .string ⟨ob.data.toList.toArray⟩, .int .i64 0], .int .i64 ob.size, .int .i64 0])
          rw [toArray_data]
        · first | exact (Below.refl _ w).alloc (Nat.le_refl _) _ | exact below4 hbel0 | exact hbel0
      | false =>
        rw [hp, if_neg (by simp)] at hst
        have HN : Hid (Sp.tokOp s.data.toList = Sp.opsFrom (k + 1) s.data.toList) := hh.out.trans hst
        have HC : Hid (∀ w, Calls Tryz.prog 87 #[.string s, .string ob] w fun e w' => e = .returned (.bool false) ∧ w = w') := by
          intro w
          refine (HC0.out w).mono ?_
          rintro e w' ⟨rfl, rfl⟩
          rw [hp]
          exact ⟨rfl, rfl⟩
        clear hh hst hp HC0
        go_wp2_with (go_at_call 87; refine (HC.out _).mono ?_; rintro e w' ⟨rfl, rfl⟩)
        go_round
        case rel => exact ⟨k + 1, by omega, by go_num, HN⟩
        case measure => simp [intOf]; omega
    · have HN : Hid (Sp.tokOp s.data.toList = .error 10) := by
        show _ = _
        obtain rfl : k = 28 := by omega
        rw [hh.out, opsFrom_stop]
      clear hh
      go_wp2
      refine bodyPost_ret (v := .tuple #[.agg (tokVal 0 0 [] 0), .int .i64 0, .int .i64 10]) (by simp [results, Tryz.results76, go_sem, tokVal]) rfl ⟨?_, ?_⟩
      · rw [HN.out]; rfl
      · first | exact (Below.refl _ w).alloc (Nat.le_refl _) _ | exact below4 hbel0 | exact hbel0

/-! Unquote -/
theorem unEnd_none : UnEnd none (.returned (.tuple #[.string ⟨#[]⟩, .bool false])) := rfl
theorem unq_cons (s : ByteArray) (h0 : 0 < s.size) : Sp.unq s.data.toList =
    if s[0].toNat = 39 ∨ s[0].toNat = 34 then
      match Sp.tokStr s[0] (s.extract 1 s.size).data.toList with
      | .ok t => if t.size = s.size then some t.text else none
      | .error _ => none
    else none := by
  have hd := get_drop s 0 h0
  simp only [List.drop_zero] at hd
  have e : (s.extract 1 s.size).data.toList = s.data.toList.drop (0 + 1) := Lib.extract_to_end s 1
  rw [e]
  generalize hu : s.data.toList.drop (0 + 1) = u at hd
  have hl : s.size = (s[0] :: u).length := by rw [← hd, size_list]
  rw [hd]
  unfold Sp.unq
  simp only []
  rw [hl]

theorem tokStr_err (q : UInt8) (r : Sp.Bs) : ∀ er, Sp.tokStr q r = .error er → er = 12 := by
  intro er h
  unfold Sp.tokStr at h
  split at h
  · split at h
    · cases h
    · cases h; rfl
  · cases h; rfl

end Go.Proofs.YtbdjccmcdifjcaaGreatDoor
