/-
  Lines that are empty, or have but blanks, or a comment, change nothing but places (layer 2, P2.2), at this program: the tied card of LayoutEmpty. No condition.
-/
import Derived.Test.YtbdjccmcdifjcaaGreatDoorLsAll
import Derived.Test.YtbdjccmcdifjcaaGreatDoorLayT
import Derived.Test.YtbdjccmcdifjcaaGreatDoorShown
import Derived.Test.YtbdjccmcdifjcaaGreatDoorCards
import Derived.Test.YtbdjccmcdifjcaaGreatDoorTie
import Derived.SevenTiedAt
set_option linter.unusedVariables false
set_option linter.unusedSimpArgs false
namespace Go.Proofs.YtbdjccmcdifjcaaGreatDoor
open Go.RowKit Go.Shelf
namespace Sp
theorem more_none (k : Nat) : ∀ xs : List (Nat × LineD), more k xs [] = xs.map fun x => (x.1 * k, x.2)
  | [] => rfl
  | x :: xs => by
    rw [more]
    show (x.1 * k, x.2) :: more k xs [] = _
    rw [more_none k xs]
    rfl
def inst (k : Nat) (x : Nat × LineD) : Option (Nat × LineD) → List (Nat × LineD)
  | none => [(x.1 * k, x.2)]
  | some y => [y, (x.1 * k, x.2)]
theorem more_cons (k : Nat) (x : Nat × LineD) (xs : List (Nat × LineD)) (o : List (Option (Nat × LineD))) : more k (x :: xs) o = inst k x (o.headD none) ++ more k xs o.tail := by
  rw [more]
  cases o.headD none <;> rfl
theorem more_snoc (k : Nat) (x : Nat × LineD) : ∀ (xs : List (Nat × LineD)) (o : List (Option (Nat × LineD))), more k (xs ++ [x]) o = more k xs o ++ inst k x (o.getD xs.length none)
  | [], o => by
    rw [List.nil_append, more_cons, more, more, List.nil_append, List.append_nil]
    cases o <;> rfl
  | y :: xs, o => by
    rw [List.cons_append, more_cons, more_cons, more_snoc k x xs, List.append_assoc]
    congr 3
    cases o with
    | nil => rfl
    | cons z o => rfl
theorem srcL_append (a b : List (Nat × LineD)) : srcL (a ++ b) = srcL a ++ srcL b := by unfold srcL; rw [List.flatMap_append]
/-- The other lines, emptied. -/
def others (l : List LineD) : List (Option (Nat × LineD)) := l.map fun y => some (wide y.1, (y.1, y.2.1, true, y.2.2.2))
theorem others_empty (l : List LineD) : ∀ y, some y ∈ others l → y.2.2.2.1 = true := by
  intro y hy
  obtain ⟨x, _, hx⟩ := List.mem_map.1 hy
  cases hx
  rfl
theorem others_at (l : List LineD) (i : Nat) : (others l).getD i none = (l[i]?).map fun y => (wide y.1, (y.1, y.2.1, true, y.2.2.2)) := by
  unfold others
  rw [List.getD_eq_getElem?_getD, List.getElem?_map]
  cases l[i]? <;> rfl
end Sp

/-- The values of two answers that are alike. -/
theorem alk_value {Y Z : Except (Int × Int) (List T4)} (h : Sp.Alk Y Z) (hY : ∀ ts, Y = .ok ts → ts.length ≤ 1000000) : ∃ (p q er : Int) (la lb : List T4), Hid (la.map Sp.bare = lb.map Sp.bare) ∧ la.length ≤ 1000000 ∧
    (∀ B e w', LayEnd B Y e w' → ∃ v, e = .returned (.tuple #[v, .int .i64 p, .int .i64 er]) ∧ Row4 B v la w') ∧ (∀ B e w', LayEnd B Z e w' → ∃ v, e = .returned (.tuple #[v, .int .i64 q, .int .i64 er]) ∧ Row4 B v lb w') := by
  cases Y with
  | error e =>
    obtain ⟨p, rfl⟩ := h
    refine ⟨e.1, p, e.2, [], [], rfl, by simp, fun B e' w' h => ?_, fun B e' w' h => ?_⟩
    · obtain rfl : e' = _ := h
      exact ⟨_, rfl, World.ownsRow_nil w' B 37 4⟩
    · obtain rfl : e' = _ := h
      exact ⟨_, rfl, World.ownsRow_nil w' B 37 4⟩
  | ok a =>
    obtain ⟨b, rfl, hb⟩ := h
    exact ⟨0, 0, 0, a, b, hb, hY a rfl, fun B e w' h => h, fun B e w' h => h⟩
end Go.Proofs.YtbdjccmcdifjcaaGreatDoor

set_option linter.unusedVariables false
set_option linter.unusedSimpArgs false
namespace Go.Proofs.YtbdjccmcdifjcaaGreatDoor
open Go.RowKit Go.Shelf
namespace lawEmpty

theorem itemsL_at (l : List Sp.LineD) (i : Nat) (x : Sp.LineD) (h : l[i]? = some x) (hi : i < 30) : (itemsL (l.take 30))[i]? = some (Sp.wide x.1, x) := by
  unfold itemsL
  rw [List.getElem?_map, List.getElem?_take_of_lt hi, h]
  rfl
theorem take_next {α : Type} (X : List α) (i : Nat) (x : α) (h : X[i]? = some x) : X.take (i + 1) = X.take i ++ [x] := by
  rw [List.take_add_one, h]
  rfl

set_option maxHeartbeats 16000000 in
set_option maxRecDepth 100000 in
theorem walk (va : Value) (l : List Sp.LineD) (vo : Value) (o : List Sp.LineD) (w : World) (ha : ArgLs va l w) (hbd : ∀ x ∈ l, Bnd x) (hl : l.length ≤ maxLen) (hao : ArgLs vo o w) (hbo : ∀ x ∈ o, Bnd x) (hol : o.length ≤ maxLen) (hE : Env w) : Calls Tryz.prog 3 #[va, vo] w fun e w' => e = .returned (.bool true) ∧ Below w.heap.size w w' := by
  have HSH := Lib.hid (shown_any2 w hE)
  have HE := Lib.hid hE
  have hEs := hE.size
  have HBD := Lib.hid hbd
  have HBO := Lib.hid hbo
  obtain ⟨pa, ca, rfl, fa⟩ := ha
  obtain ⟨po, co, rfl, fo⟩ := hao
  have FA := Lib.hid fa
  have FO := Lib.hid fo
  obtain ⟨X, HX⟩ := hid_ex (itemsL (l.take 30))
  have HXn : Hid (X.length = min 30 l.length) := by show _ = _; rw [← HX.out]; unfold itemsL; rw [List.length_map, List.length_take]
  obtain ⟨O, HO⟩ := hid_ex (Sp.others o)
  have HOA : Hid (∀ i, O.getD i none = (o[i]?).map fun y => (Sp.wide y.1, (y.1, y.2.1, true, y.2.2.2))) := by rw [← HO.out]; exact Sp.others_at o
  have HOE : Hid (∀ y, some y ∈ O → y.2.2.2.1 = true) := by rw [← HO.out]; exact Sp.others_empty o
  unfold maxLen at hl hol
  clear hE hbd hbo fa fo HO
  go_enter Tryz.func3, Tryz.ntmps3
  go_wp2_with fail
  refine HSH.out.mono ?_
  rintro e w1 ⟨rfl, hb1⟩
  clear HSH
  go_wp2_with fail
  go_loopw [6, 7, 8] (fun v6 v7 v8 wr => ∃ (i : Nat) (sa sb : ByteArray), v8 = .int .i64 (i : Int) ∧ v6 = .string sa ∧ v7 = .string sb ∧ i ≤ X.length ∧ sa.size ≤ 699 * i ∧ sb.size ≤ 1398 * i ∧ Hid (sa.data.toList = Sp.srcL (X.take i)) ∧ Hid (sb.data.toList = Sp.srcL (Sp.more 1 (X.take i) O)) ∧ Below w.heap.size w wr) (fun _ _ v8 _ => X.length - (intOf v8).toNat)
  case atStart => exact ⟨0, ⟨#[]⟩, ⟨#[]⟩, rfl, rfl, rfl, Nat.zero_le _, Nat.zero_le _, Nat.zero_le _, rfl, rfl, hb1⟩
  case round =>
    obtain ⟨i, sa, sb, rfl, rfl, rfl, hix, hsa, hsb, HSA, HSB, hbel⟩ := hrel
    have hxl := HXn.out
    have HBW : Hid (Below w.heap.size w wr) := hbel
    by_cases hlt : i < X.length
    · obtain ⟨x, hx⟩ : ∃ x, l[i]? = some x := ⟨_, List.getElem?_eq_getElem (by omega)⟩
      have hX : X[i]? = some (Sp.wide x.1, x) := by rw [← HX.out]; exact itemsL_at l i x hx (by omega)
      have hbx := HBD.out x (List.mem_of_getElem? hx)
      obtain ⟨ga, oa, vt, rfl, hga, a0, a1, a2, a3, a4⟩ := FA.out i x hx
      have b0 := (HBW.out.cell (p := ⟨ga, oa + i * 4, none⟩) hga).trans a0
      have b1 := (HBW.out.cell (p := ⟨ga, oa + i * 4 + 1, none⟩) hga).trans a1
      have b2 := (HBW.out.cell (p := ⟨ga, oa + i * 4 + 2, none⟩) hga).trans a2
      have b3 := (HBW.out.cell (p := ⟨ga, oa + i * 4 + 3, none⟩) hga).trans a3
      have b4 := a4.below HBW.out
      clear a0 a1 a2 a3 a4
      have hnx := take_next X i _ hX
      have hms := Sp.more_snoc 1 (Sp.wide x.1, x) (X.take i) O
      rw [← hnx, List.length_take, Nat.min_eq_left hix, HOA.out i] at hms
      obtain ⟨tb, htb⟩ : ∃ tb : ByteArray, tb = ⟨(Sp.txt x).toArray⟩ := ⟨_, rfl⟩
      have htl : tb.data.toList = Sp.ln (Sp.wide x.1) x := by rw [htb]; rfl
      have hts : tb.size ≤ 698 := by
        rw [← size_list, htl]
        have h1 := Sp.ln_size (Sp.wide x.1) x
        have h2 := Sp.wide_lt x.1
        omega
      have HT := Lib.hid (ltext_any _ x wr ⟨vt, rfl, b4⟩ hbx)
      rw [← htb] at HT
      have i1 : (i : Int) < (l.length : Int) := by omega
      have i2 : (i : Int) < 30 := by omega
      have hix30 : X.length ≤ 30 := by omega
      have HX1 := Lib.hid hlt
      have HSA2 : Hid ((sa ++ (tb ++ (⟨#[10]⟩ : ByteArray))).data.toList = Sp.srcL (X.take (i + 1))) := by
        show _ = _
        rw [hnx, Sp.srcL_append, ← HSA.out]
        have e : Sp.srcL [(Sp.wide x.1, x)] = tb.data.toList ++ [10] := by rw [htl]; unfold Sp.srcL; simp
        rw [e]
        simp
      have hza : (sa ++ (tb ++ (⟨#[10]⟩ : ByteArray))).size ≤ 699 * (i + 1) := by
        simp only [ByteArray.size_append]
        show sa.size + (tb.size + 1) ≤ _
        omega
      have HTL := Lib.hid htl
      have HMS := Lib.hid hms
      clear hms hnx htb htl hX hx hbx HX HXn hxl hlt b4 FA HBD HSA
      cases hoi : o[i]? with
      | none =>
        have o1 : ¬ (i : Int) < (o.length : Int) := by
          have := List.getElem?_eq_none_iff.1 hoi
          omega
        have HSB2 : Hid ((sb ++ (tb ++ (⟨#[10]⟩ : ByteArray))).data.toList = Sp.srcL (Sp.more 1 (X.take (i + 1)) O)) := by
          show _ = _
          rw [HMS.out, hoi, Sp.srcL_append, ← HSB.out]
          have e : Sp.srcL (Sp.inst 1 (Sp.wide x.1, x) (Option.map (fun y : Sp.LineD => (Sp.wide y.1, (y.1, y.2.1, true, y.2.2.2))) none)) = tb.data.toList ++ [10] := by
            rw [HTL.out]
            show Sp.srcL [(Sp.wide x.1 * 1, x)] = _
            rw [Nat.mul_one]
            unfold Sp.srcL
            simp
          rw [e]
          simp
        have hzb : (sb ++ (tb ++ (⟨#[10]⟩ : ByteArray))).size ≤ 1398 * (i + 1) := by
          simp only [ByteArray.size_append]
          show sb.size + (tb.size + 1) ≤ _
          omega
        clear HMS HSB HTL hoi FO HOA HOE HBO
        go_wp2_with fail
        refine HT.out.mono ?_
        rintro e w4 ⟨rfl, hb4⟩
        have hbel4 : Below w.heap.size w w4 := HBW.out.trans (hb4.mono HBW.out.size)
        clear hb4 HT hbel HBW
        simp only []
        go_wp2_with fail
        exact ⟨⟨i + 1, _, _, by go_num, rfl, rfl, HX1.out, hza, hzb, HSA2, HSB2, hbel4⟩, by have := HX1.out; simp [intOf]; omega⟩
      | some y =>
        have o1 : (i : Int) < (o.length : Int) := by
          have := (List.getElem?_eq_some_iff.1 hoi).1
          omega
        have hby := HBO.out y (List.mem_of_getElem? hoi)
        obtain ⟨go, oo, vu, rfl, hgo, c0, c1, c2, c3, c4⟩ := FO.out i y hoi
        obtain ⟨pu, cu, hvu, _⟩ := id c4
        obtain ⟨ub, hub⟩ : ∃ ub : ByteArray, ub = ⟨(Sp.txt (y.1, y.2.1, true, y.2.2.2)).toArray⟩ := ⟨_, rfl⟩
        have hul : ub.data.toList = Sp.ln (Sp.wide y.1) (y.1, y.2.1, true, y.2.2.2) := by rw [hub]; rfl
        have hus : ub.size ≤ 698 := by
          rw [← size_list, hul]
          have h1 := Sp.ln_size (Sp.wide y.1) (y.1, y.2.1, true, y.2.2.2)
          have h2 := Sp.wide_lt y.1
          omega
        have HTY : Hid (∀ w', Below w.heap.size w w' → Calls Tryz.prog 12 #[.agg #[.int .i64 y.1, vu, .bool true, .string ⟨y.2.2.2.toArray⟩]] w' fun e w'' => e = .returned (.string ub) ∧ Below w'.heap.size w' w'') := by
          intro w' hb
          rw [hub]
          exact ltext_any _ (y.1, y.2.1, true, y.2.2.2) w' ⟨vu, rfl, c4.below hb⟩ hby
        have HSB2 : Hid ((sb ++ ub ++ (⟨#[10]⟩ : ByteArray) ++ (tb ++ (⟨#[10]⟩ : ByteArray))).data.toList = Sp.srcL (Sp.more 1 (X.take (i + 1)) O)) := by
          show _ = _
          rw [HMS.out, hoi, Sp.srcL_append, ← HSB.out]
          have e : Sp.srcL (Sp.inst 1 (Sp.wide x.1, x) (Option.map (fun y : Sp.LineD => (Sp.wide y.1, (y.1, y.2.1, true, y.2.2.2))) (some y))) = ub.data.toList ++ 10 :: (tb.data.toList ++ [10]) := by
            rw [HTL.out, hul]
            show Sp.srcL [(Sp.wide y.1, (y.1, y.2.1, true, y.2.2.2)), (Sp.wide x.1 * 1, x)] = _
            rw [Nat.mul_one]
            unfold Sp.srcL
            simp
          rw [e]
          simp
        have hzb : (sb ++ ub ++ (⟨#[10]⟩ : ByteArray) ++ (tb ++ (⟨#[10]⟩ : ByteArray))).size ≤ 1398 * (i + 1) := by
          simp only [ByteArray.size_append]
          show sb.size + ub.size + 1 + (tb.size + 1) ≤ _
          omega
        obtain ⟨yc, hyc⟩ : ∃ yc : ByteArray, yc = ⟨y.2.2.2.toArray⟩ := ⟨_, rfl⟩
        rw [← hyc] at c3 HTY
        obtain ⟨y0, y1, y2, y3⟩ := y
        simp only at c0 c2 HTY hvu
        obtain ⟨ny, hny⟩ : ∃ ny, ny = y1.length := ⟨_, rfl⟩
        rw [← hny] at hvu
        subst hvu
        clear HMS HSB HTL hoi FO HOA HOE HBO hub hul hby hyc c4 hny
        go_wp2_with fail
        refine HT.out.mono ?_
        rintro e w4 ⟨rfl, hb4⟩
        have hbel4 : Below w.heap.size w w4 := HBW.out.trans (hb4.mono HBW.out.size)
        have d0 := (hbel4.cell (p := ⟨go, oo + i * 4, none⟩) hgo).trans c0
        have d1 := (hbel4.cell (p := ⟨go, oo + i * 4 + 1, none⟩) hgo).trans c1
        have d2 := (hbel4.cell (p := ⟨go, oo + i * 4 + 2, none⟩) hgo).trans c2
        have d3 := (hbel4.cell (p := ⟨go, oo + i * 4 + 3, none⟩) hgo).trans c3
        clear hb4 HT hbel HBW c0 c1 c2 c3 b0 b1 b2 b3
        simp only []
        go_wp2_with fail
        have hb5 : Below w.heap.size w (w4.alloc (Obj.cells #[.int .i64 y0, .slice pu ny cu, .bool true, .string yc] 27)) := hbel4.alloc hbel4.size _
        refine (HTY.out _ hb5).mono ?_
        rintro e w6 ⟨rfl, hb6⟩
        have hbel6 : Below w.heap.size w w6 := hb5.trans (hb6.mono hb5.size)
        clear hb6 hb5 hbel4 HTY d0 d1 d2 d3
        simp only []
        go_wp2_with fail
        exact ⟨⟨i + 1, _, _, by go_num, rfl, rfl, HX1.out, hza, hzb, HSA2, HSB2, hbel6⟩, by have := HX1.out; simp [intOf]; omega⟩
    · obtain rfl : i = X.length := by omega
      have hg : ¬ (X.length : Int) < (l.length : Int) ∨ ((X.length : Int) < (l.length : Int) ∧ ¬ (X.length : Int) < 30) := by omega
      have hix30 : X.length ≤ 30 := by omega
      have hsa2 := HSA.out
      have hsb2 := HSB.out
      rw [List.take_length] at hsa2 hsb2
      have halk := Sp.layL_more 1 (by decide) X O HOE.out
      rw [← hsa2, ← hsb2] at halk
      obtain ⟨Y, HY⟩ := hid_ex (Sp.layL sa.data.toList)
      obtain ⟨Z, HZ⟩ := hid_ex (Sp.layL sb.data.toList)
      have HT1 := Lib.hid (tokens_any sa (by omega) wr (HE.out.below HBW.out hEs))
      rw [HY.out] at halk HT1
      rw [HZ.out] at halk
      obtain ⟨p, q, er, la, lb, HBARE, hla, hv1, hv2⟩ := alk_value halk (fun ts h => by have := Sp.layL_len (HY.out.trans h); rw [size_list] at this; omega)
      have HV1 := Lib.hid hv1
      have HV2 := Lib.hid hv2
      have HT2 : Hid (∀ w', Below w.heap.size w w' → Calls Tryz.prog 13 #[.string sb] w' fun e w'' => LayEnd w'.heap.size Z e w'' ∧ Below w'.heap.size w' w'') := by
        intro w' hb
        have := tokens_any sb (by omega) w' (HE.out.below hb hEs)
        rwa [HZ.out] at this
      clear FA FO HBD HBO HX HXn hxl hlt hsa2 hsb2 HSA HSB hsa hsb HY HZ halk hv1 hv2 HOA HOE HE hbel
      rcases hg with h1 | ⟨h1, h2⟩
      all_goals
        go_wp2_with fail
        refine HT1.out.mono ?_
        rintro e w2 ⟨he, hb2⟩
        obtain ⟨v1, rfl, hr1⟩ := HV1.out _ _ _ he
        have HB2 : Hid (Below w.heap.size w w2) := HBW.out.trans (hb2.mono HBW.out.size)
        have HR1 := Lib.hid hr1
        have HT3 := Lib.hid (HT2.out w2 HB2.out)
        clear he hb2 hr1 HT1 HT2 HBW HV1
        simp only []
        go_wp2_with fail
        refine HT3.out.mono ?_
        rintro e w3 ⟨he, hb3⟩
        obtain ⟨v2, rfl, hr2⟩ := HV2.out _ _ _ he
        have HB3 : Hid (Below w.heap.size w w3) := HB2.out.trans (hb3.mono HB2.out.size)
        have HAL := Lib.hid (alike_any _ _ v1 v2 la lb w3 (HR1.out.below hb3) hr2 HBARE hla)
        clear he hb3 hr2 HT3 HR1 HV2 HB2
        simp only []
        go_wp2_with fail
        refine HAL.out.mono ?_
        rintro e w4 ⟨rfl, hb4⟩
        have HB4 : Hid (Below w.heap.size w w4) := HB3.out.trans (hb4.mono HB3.out.size)
        clear HAL hb4 HB3
        simp only []
        go_wp2_with fail
        go_ret
        exact ⟨rfl, HB4.out⟩
end lawEmpty
end Go.Proofs.YtbdjccmcdifjcaaGreatDoor

set_option linter.unusedVariables false
set_option linter.unusedSimpArgs false
namespace Go.Proofs.YtbdjccmcdifjcaaGreatDoor
namespace lawEmpty
open Go.ChangeShapes Go.WideShapes Go.ChangeAt Go.WideMaps Go.WideElems Go.RowKit
open Go.ChangeMaps (open_string shut_string)
open A2

set_option maxRecDepth 100000 in
theorem lifted (os : Os) (started : os.Started) (H : Type) (enc : TypeId × Value → H) :
    ReturnsInHanded {} Tryz.checked os 3 .any (fun w args => (Rows.layoutEmptySpec.pre enc Tryz.prog Tryz.f3 [] false w args ∧ laidMetH Tryz.prog laidL w) ∧ sizedMet enc Tryz.prog Tryz.f3 (OpenSpec.ofChange Rows.layoutEmptySpec) false w args)
      (Rows.layoutEmptySpec.post enc Tryz.prog Tryz.f3 false true false false) := by
  refine handed_both (C := Tryz.checked) (X := fun w _ => laidMetH Tryz.prog laidL w) (fun _ _ _ hh h => h.of_heap hh) own started (by kernel_rfl) Tryz.func3
    (ChangeSpec.witness_shaped (enc := enc) (C := Tryz.checked) (os := os) (X := fun w _ => laidMetH Tryz.prog laidL w) false (World.laidAll Tryz.prog os laidL) #[.slice none 0 0, .slice none 0 0] 8 (door_os os) (door_shaped os _) (by kernel_rfl) (by kernel_rfl) (by kernel_rfl) (door_met os _)) ?_
  intro W base args ds gs before hval0 hW _ _ hL hsh _
  have hval : ∀ (j : Nat) t v, Tryz.f3.params[j]? = some t → args[j]? = some v → Value.okWide Tryz.prog W .any base t v := hval0
  have hW' := hW
  obtain ⟨p, q, hA0, hV, rfl, hfz, hnd⟩ := hW
  have hA : DataW.TrodAll enc Tryz.prog W 0 (fun _ => true) true Tryz.f3.params.toList args.toList ds p := hA0
  rw [Tryz.params3] at hA hval
  obtain ⟨v0, v1, d0, d1, p0, p1, rfl, rfl, rfl, h0, h1⟩ := trodAll_two hA
  obtain ⟨rfl, rfl⟩ := trodVars_none hV
  have h0k := h0
  obtain ⟨x0, a0, n0, b0⟩ := lines_of (hval 0 22 v0 rfl rfl) h0
  have h1k := h1
  obtain ⟨x1, a1, n1, b1⟩ := lines_of (hval 1 22 v1 rfl rfl) h1
  clear hA0 hval0
  simp only [List.append_nil] at hW'
  refine (walk v0 x0 v1 x1 W a0 b0 n0 a1 b1 n1 (env_of hL hsh)).mono fun e W' ⟨he, hb⟩ => ?_
  subst he
  have hlt : ∀ x ∈ p0 ++ p1, x.block < W.heap.size := fun x hx => hW'.lt x (by simpa using hx)
  exact ⟨_, rfl, post_true_at hW' (by kernel_rfl) rfl rfl rfl rfl (by have h := trodAll_mk2 (Below.trod laidOut (by kernel_rfl) (of_decide_eq_true (by kernel_rfl)) h0k hb (fun x hx => hlt x (by simp [hx]))) (Below.trod laidOut (by kernel_rfl) (of_decide_eq_true (by kernel_rfl)) h1k hb (fun x hx => hlt x (by simp [hx]))); (try simp only [List.append_nil, List.nil_append] at h); exact h) hb⟩

theorem row_holds : Rows.LayoutEmptySaid :=
  OpenClaim.holds_of_wide 3 Tryz.f3 rfl rfl rfl rfl rfl rfl rfl ⟨rfl, rfl, rfl, rfl, rfl⟩ rfl rfl rfl rfl rfl (by kernel_rfl) Tryz.func3 (by kernel_rfl)
    (of_decide_eq_true (by kernel_rfl)) (by unfold Func.isWrapper; first | (rw [if_pos (by decide +kernel)]; kernel_rfl) | (rw [if_neg (by decide +kernel)]; exact ⟨rfl, rfl⟩))
    (fun os started H enc _ => lifted os started H enc)

theorem card_holds : Rows.LayoutEmptyCardSaid :=
  Claim7.holds_tied_plain_at .later [] [.data, .data, .data, .data, .sentinel, .sentinel, .data, .pinned] true (true, "88ce31af55d7e15b8eb372d6691e0e677d11b1df154c7967afde70b805ca128e") true
    row_holds (fun _ h => by cases h) (by kernel_rfl) (fun _ h => by cases h) layoutEmpty_row_tie rfl ⟨rfl, rfl⟩ (by kernel_rfl) rfl
    (fun f fn hf hfn => by
      obtain rfl : f = 3 := Option.some.inj ((show Tryz.prog.funcNamed "krait/kraitlaw02.LayoutEmpty" = some 3 by kernel_rfl).symm.trans hf) |>.symm
      obtain rfl : fn = Tryz.f3 := (Option.some.inj (Tryz.func3.symm.trans hfn)).symm
      exact ⟨by kernel_rfl, fun j t ht => by
        rw [Tryz.params3] at ht
        have hm : t ∈ [22, 22] := by simpa using Array.mem_of_getElem? ht
        have hall : ([22, 22].all fun u => !Tryz.prog.wantsStandIn u) = true := by kernel_rfl
        exact (show Tryz.prog.wantsStandIn t = false by simpa using List.all_eq_true.1 hall t hm)⟩)
    (by kernel_rfl)
end lawEmpty
end Go.Proofs.YtbdjccmcdifjcaaGreatDoor
