/-
  With each indentation so many times as wide it is the same, but for places (layer 2, P2.2), at this program: the tied card of LayoutWider. No condition.
-/
import Derived.Test.YtbdjccmcdifjcaaGreatDoorLsAll
import Derived.Test.YtbdjccmcdifjcaaGreatDoorLayT
import Derived.Test.YtbdjccmcdifjcaaGreatDoorShown
import Derived.Test.YtbdjccmcdifjcaaGreatDoorCards
import Derived.Test.YtbdjccmcdifjcaaGreatDoorTie
import Derived.SevenTiedAt
set_option linter.unusedVariables false
set_option linter.unusedSimpArgs false
namespace Go.Proofs.YtbdjccmcdifjcaaGreatDoor
open Go.RowKit Go.Shelf
namespace Sp
theorem more_none (k : Nat) : ∀ xs : List (Nat × LineD), more k xs [] = xs.map fun x => (x.1 * k, x.2)
  | [] => rfl
  | x :: xs => by
    rw [more]
    show (x.1 * k, x.2) :: more k xs [] = _
    rw [more_none k xs]
    rfl
def inst (k : Nat) (x : Nat × LineD) : Option (Nat × LineD) → List (Nat × LineD)
  | none => [(x.1 * k, x.2)]
  | some y => [y, (x.1 * k, x.2)]
theorem more_cons (k : Nat) (x : Nat × LineD) (xs : List (Nat × LineD)) (o : List (Option (Nat × LineD))) : more k (x :: xs) o = inst k x (o.headD none) ++ more k xs o.tail := by
  rw [more]
  cases o.headD none <;> rfl
theorem more_snoc (k : Nat) (x : Nat × LineD) : ∀ (xs : List (Nat × LineD)) (o : List (Option (Nat × LineD))), more k (xs ++ [x]) o = more k xs o ++ inst k x (o.getD xs.length none)
  | [], o => by
    rw [List.nil_append, more_cons, more, more, List.nil_append, List.append_nil]
    cases o <;> rfl
  | y :: xs, o => by
    rw [List.cons_append, more_cons, more_cons, more_snoc k x xs, List.append_assoc]
    congr 3
    cases o with
    | nil => rfl
    | cons z o => rfl
theorem srcL_append (a b : List (Nat × LineD)) : srcL (a ++ b) = srcL a ++ srcL b := by unfold srcL; rw [List.flatMap_append]
/-- The other lines, emptied. -/
def others (l : List LineD) : List (Option (Nat × LineD)) := l.map fun y => some (wide y.1, (y.1, y.2.1, true, y.2.2.2))
theorem others_empty (l : List LineD) : ∀ y, some y ∈ others l → y.2.2.2.1 = true := by
  intro y hy
  obtain ⟨x, _, hx⟩ := List.mem_map.1 hy
  cases hx
  rfl
theorem others_at (l : List LineD) (i : Nat) : (others l).getD i none = (l[i]?).map fun y => (wide y.1, (y.1, y.2.1, true, y.2.2.2)) := by
  unfold others
  rw [List.getD_eq_getElem?_getD, List.getElem?_map]
  cases l[i]? <;> rfl
end Sp

/-- The values of two answers that are alike. -/
theorem alk_value {Y Z : Except (Int × Int) (List T4)} (h : Sp.Alk Y Z) (hY : ∀ ts, Y = .ok ts → ts.length ≤ 1000000) : ∃ (p q er : Int) (la lb : List T4), Hid (la.map Sp.bare = lb.map Sp.bare) ∧ la.length ≤ 1000000 ∧
    (∀ B e w', LayEnd B Y e w' → ∃ v, e = .returned (.tuple #[v, .int .i64 p, .int .i64 er]) ∧ Row4 B v la w') ∧ (∀ B e w', LayEnd B Z e w' → ∃ v, e = .returned (.tuple #[v, .int .i64 q, .int .i64 er]) ∧ Row4 B v lb w') := by
  cases Y with
  | error e =>
    obtain ⟨p, rfl⟩ := h
    refine ⟨e.1, p, e.2, [], [], rfl, by simp, fun B e' w' h => ?_, fun B e' w' h => ?_⟩
    · obtain rfl : e' = _ := h
      exact ⟨_, rfl, World.ownsRow_nil w' B 37 4⟩
    · obtain rfl : e' = _ := h
      exact ⟨_, rfl, World.ownsRow_nil w' B 37 4⟩
  | ok a =>
    obtain ⟨b, rfl, hb⟩ := h
    exact ⟨0, 0, 0, a, b, hb, hY a rfl, fun B e w' h => h, fun B e w' h => h⟩
end Go.Proofs.YtbdjccmcdifjcaaGreatDoor

set_option linter.unusedVariables false
set_option linter.unusedSimpArgs false
namespace Go.Proofs.YtbdjccmcdifjcaaGreatDoor
open Go.RowKit Go.Shelf
namespace lawWider

theorem itemsL_at (l : List Sp.LineD) (i : Nat) (x : Sp.LineD) (h : l[i]? = some x) (hi : i < 30) : (itemsL (l.take 30))[i]? = some (Sp.wide x.1, x) := by
  unfold itemsL
  rw [List.getElem?_map, List.getElem?_take_of_lt hi, h]
  rfl
theorem take_next {α : Type} (X : List α) (i : Nat) (x : α) (h : X[i]? = some x) : X.take (i + 1) = X.take i ++ [x] := by
  rw [List.take_add_one, h]
  rfl

set_option maxHeartbeats 16000000 in
set_option maxRecDepth 100000 in
theorem walk (va : Value) (l : List Sp.LineD) (n : Int) (w : World) (ha : ArgLs va l w) (hbd : ∀ x ∈ l, Bnd x) (hl : l.length ≤ maxLen) (hE : Env w) : Calls Tryz.prog 4 #[va, .int .i64 n] w fun e w' => e = .returned (.bool true) ∧ Below w.heap.size w w' := by
  have HSH := Lib.hid (shown_any2 w hE)
  have HE := Lib.hid hE
  have hEs := hE.size
  have HBD := Lib.hid hbd
  obtain ⟨pa, ca, rfl, fa⟩ := ha
  have FA := Lib.hid fa
  obtain ⟨X, HX⟩ := hid_ex (itemsL (l.take 30))
  have HXn : Hid (X.length = min 30 l.length) := by show _ = _; rw [← HX.out]; unfold itemsL; rw [List.length_map, List.length_take]
  obtain ⟨k5, hk5⟩ : ∃ k5, k5 = ((n % 65536) % 5).toNat := ⟨_, rfl⟩
  have hk55 : k5 < 5 := by omega
  have handn := i64_and65535 n
  have hremn : (n % 65536).tmod 5 = (k5 : Int) := by rw [Int.tmod_eq_emod_of_nonneg (by omega)]; omega
  obtain ⟨k, hk⟩ : ∃ k, k = 1 + k5 := ⟨_, rfl⟩
  have hk0 : 0 < k := by omega
  have hk6 : k ≤ 5 := by omega
  have HK := Lib.hid hk
  unfold maxLen at hl
  clear hE hbd fa hk5 hk
  go_enter Tryz.func4, Tryz.ntmps4
  go_wp2_with fail
  refine HSH.out.mono ?_
  rintro e w1 ⟨rfl, hb1⟩
  clear HSH
  go_wp2_with fail
  go_loopw [6, 7, 8] (fun v6 v7 v8 wr => ∃ (i : Nat) (sa sb : ByteArray), v8 = .int .i64 (i : Int) ∧ v6 = .string sa ∧ v7 = .string sb ∧ i ≤ X.length ∧ sa.size ≤ 699 * i ∧ sb.size ≤ 743 * i ∧ Hid (sa.data.toList = Sp.srcL (X.take i)) ∧ Hid (sb.data.toList = Sp.srcL (Sp.more k (X.take i) [])) ∧ Below w.heap.size w wr) (fun _ _ v8 _ => X.length - (intOf v8).toNat)
  case atStart => exact ⟨0, ⟨#[]⟩, ⟨#[]⟩, rfl, rfl, rfl, Nat.zero_le _, Nat.zero_le _, Nat.zero_le _, rfl, rfl, hb1⟩
  case round =>
    obtain ⟨i, sa, sb, rfl, rfl, rfl, hix, hsa, hsb, HSA, HSB, hbel⟩ := hrel
    have hxl := HXn.out
    have HBW : Hid (Below w.heap.size w wr) := hbel
    by_cases hlt : i < X.length
    · obtain ⟨x, hx⟩ : ∃ x, l[i]? = some x := ⟨_, List.getElem?_eq_getElem (by omega)⟩
      have hX : X[i]? = some (Sp.wide x.1, x) := by rw [← HX.out]; exact itemsL_at l i x hx (by omega)
      have hbx := HBD.out x (List.mem_of_getElem? hx)
      obtain ⟨ga, oa, vt, rfl, hga, a0, a1, a2, a3, a4⟩ := FA.out i x hx
      have b0 := (HBW.out.cell (p := ⟨ga, oa + i * 4, none⟩) hga).trans a0
      have b1 := (HBW.out.cell (p := ⟨ga, oa + i * 4 + 1, none⟩) hga).trans a1
      have b2 := (HBW.out.cell (p := ⟨ga, oa + i * 4 + 2, none⟩) hga).trans a2
      have b3 := (HBW.out.cell (p := ⟨ga, oa + i * 4 + 3, none⟩) hga).trans a3
      obtain ⟨pu, cu, hvu, _⟩ := id a4
      have hnx := take_next X i _ hX
      have hms := Sp.more_snoc k (Sp.wide x.1, x) (X.take i) []
      rw [← hnx] at hms
      have hms' : Sp.more k (X.take (i + 1)) [] = Sp.more k (X.take i) [] ++ [(Sp.wide x.1 * k, x)] := hms
      obtain ⟨tb, htb⟩ : ∃ tb : ByteArray, tb = ⟨(Sp.core x).toArray⟩ := ⟨_, rfl⟩
      have htl : tb.data.toList = Sp.core x := by rw [htb]
      have hts : tb.size ≤ 687 := by
        rw [← size_list, htl]
        exact Sp.core_size x
      have HT : Hid (∀ w', Below w.heap.size w w' → Calls Tryz.prog 12 #[.agg #[.int .i64 0, vt, .bool x.2.2.1, .string ⟨x.2.2.2.toArray⟩]] w' fun e w'' => e = .returned (.string tb) ∧ Below w'.heap.size w' w'') := by
        intro w' hb
        rw [htb]
        exact ltext_any _ (0, x.2) w' ⟨vt, rfl, a4.below hb⟩ hbx
      have hand := i64_and65535 x.1
      have hrem : (x.1 % 65536).tmod 12 = (Sp.wide x.1 : Int) := by
        rw [Int.tmod_eq_emod_of_nonneg (by omega)]
        unfold Sp.wide
        omega
      have hy12 := Sp.wide_lt x.1
      obtain ⟨y, Hy⟩ := hid_ex (Sp.wide x.1)
      rw [Hy.out] at hrem hy12 hnx hms'
      obtain ⟨yk, hyk⟩ : ∃ yk, yk = y * k := ⟨_, rfl⟩
      have hyk60 : yk ≤ 55 := by rw [hyk]; exact Nat.mul_le_mul (by omega : y ≤ 11) hk6
      have hmul : IntKind.i64.wrap ((y : Int) * (1 + (k5 : Int))) = (yk : Int) := by
        have e : (y : Int) * (1 + (k5 : Int)) = (yk : Int) := by rw [hyk, HK.out]; push_cast; rfl
        rw [e]
        exact IntWalk.i64_in _ (by omega)
      obtain ⟨pb, hpb⟩ : ∃ pb : ByteArray, pb = ⟨(List.replicate y 32).toArray⟩ := ⟨_, rfl⟩
      obtain ⟨qb, hqb⟩ : ∃ qb : ByteArray, qb = ⟨(List.replicate yk 32).toArray⟩ := ⟨_, rfl⟩
      have hpl : pb.data.toList = List.replicate y 32 := by rw [hpb]
      have hql : qb.data.toList = List.replicate yk 32 := by rw [hqb]
      have hpz : pb.size = y := by rw [← size_list, hpl, List.length_replicate]
      have hqz : qb.size = yk := by rw [← size_list, hql, List.length_replicate]
      have HP : Hid (∀ w, Calls Tryz.prog 15 #[.int .i64 (y : Int)] w fun e w' => e = .returned (.string pb) ∧ w = w') := fun w => by rw [hpb]; exact blanks2_any y (by omega) w
      have HQ : Hid (∀ w, Calls Tryz.prog 15 #[.int .i64 (yk : Int)] w fun e w' => e = .returned (.string qb) ∧ w = w') := fun w => by rw [hqb]; exact blanks2_any yk (by omega) w
      have i1 : (i : Int) < (l.length : Int) := by omega
      have i2 : (i : Int) < 30 := by omega
      have hix30 : X.length ≤ 30 := by omega
      have HX1 := Lib.hid hlt
      have HSA2 : Hid ((sa ++ pb ++ (tb ++ (⟨#[10]⟩ : ByteArray))).data.toList = Sp.srcL (X.take (i + 1))) := by
        show _ = _
        rw [hnx, Sp.srcL_append, ← HSA.out]
        have e : Sp.srcL [(y, x)] = pb.data.toList ++ (tb.data.toList ++ [10]) := by rw [htl, hpl]; unfold Sp.srcL Sp.ln; simp
        rw [e]
        simp
      have HSB2 : Hid ((sb ++ qb ++ (tb ++ (⟨#[10]⟩ : ByteArray))).data.toList = Sp.srcL (Sp.more k (X.take (i + 1)) [])) := by
        show _ = _
        rw [hms', Sp.srcL_append, ← HSB.out]
        have e : Sp.srcL [(y * k, x)] = qb.data.toList ++ (tb.data.toList ++ [10]) := by rw [htl, hql, hyk]; unfold Sp.srcL Sp.ln; simp
        rw [e]
        simp
      have hza : (sa ++ pb ++ (tb ++ (⟨#[10]⟩ : ByteArray))).size ≤ 699 * (i + 1) := by
        simp only [ByteArray.size_append]
        show sa.size + pb.size + (tb.size + 1) ≤ _
        omega
      have hzb : (sb ++ qb ++ (tb ++ (⟨#[10]⟩ : ByteArray))).size ≤ 743 * (i + 1) := by
        simp only [ByteArray.size_append]
        show sb.size + qb.size + (tb.size + 1) ≤ _
        omega
      have hpz' : pb.size ≤ 100 := by omega
      have hqz' : qb.size ≤ 100 := by omega
      obtain ⟨xc, hxc⟩ : ∃ xc : ByteArray, xc = ⟨x.2.2.2.toArray⟩ := ⟨_, rfl⟩
      rw [← hxc] at b3 HT
      obtain ⟨x0, x1, x2, x3⟩ := x
      simp only at b0 b2 HT hvu hand hrem
      obtain ⟨ny, hny⟩ : ∃ ny, ny = x1.length := ⟨_, rfl⟩
      rw [← hny] at hvu
      subst hvu
      clear hms hms' hnx htb htl hX hx hbx HX HXn hxl hlt a0 a1 a2 a3 a4 FA HBD HSA HSB hxc hny hpb hqb hpl hql hyk hpz hqz Hy
      have hb0 : Below w.heap.size w (wr.alloc (Obj.cells #[.int .i64 0, .slice pu ny cu, .bool x2, .string xc] 27)) := HBW.out.alloc HBW.out.size _
      have HT0 := Lib.hid (HT.out _ hb0)
      clear hbel HT
      go_wp2_with fail
      refine HT0.out.mono ?_
      rintro e w4 ⟨rfl, hb4⟩
      have hbel4 : Below w.heap.size w w4 := hb0.trans (hb4.mono hb0.size)
      clear hb4 HT0 hb0 HBW b0 b1 b2 b3
      simp only []
      go_wp2_with fail
      refine (HP.out _).mono ?_
      rintro e w5 ⟨rfl, rfl⟩
      simp only []
      go_wp2_with fail
      refine (HQ.out _).mono ?_
      rintro e w5 ⟨rfl, rfl⟩
      simp only []
      go_wp2_with fail
      exact ⟨⟨i + 1, _, _, by go_num, rfl, rfl, HX1.out, hza, hzb, HSA2, HSB2, hbel4⟩, by have := HX1.out; simp [intOf]; omega⟩
    · obtain rfl : i = X.length := by omega
      have hg : ¬ (X.length : Int) < (l.length : Int) ∨ ((X.length : Int) < (l.length : Int) ∧ ¬ (X.length : Int) < 30) := by omega
      have hix30 : X.length ≤ 30 := by omega
      have hsa2 := HSA.out
      have hsb2 := HSB.out
      rw [List.take_length] at hsa2 hsb2
      have halk := Sp.layL_more k hk0 X [] (fun y hy => by cases hy)
      rw [← hsa2, ← hsb2] at halk
      obtain ⟨Y, HY⟩ := hid_ex (Sp.layL sa.data.toList)
      obtain ⟨Z, HZ⟩ := hid_ex (Sp.layL sb.data.toList)
      have HT1 := Lib.hid (tokens_any sa (by omega) wr (HE.out.below HBW.out hEs))
      rw [HY.out] at halk HT1
      rw [HZ.out] at halk
      obtain ⟨p, q, er, la, lb, HBARE, hla, hv1, hv2⟩ := alk_value halk (fun ts h => by have := Sp.layL_len (HY.out.trans h); rw [size_list] at this; omega)
      have HV1 := Lib.hid hv1
      have HV2 := Lib.hid hv2
      have HT2 : Hid (∀ w', Below w.heap.size w w' → Calls Tryz.prog 13 #[.string sb] w' fun e w'' => LayEnd w'.heap.size Z e w'' ∧ Below w'.heap.size w' w'') := by
        intro w' hb
        have := tokens_any sb (by omega) w' (HE.out.below hb hEs)
        rwa [HZ.out] at this
      clear FA HBD HX HXn hxl hlt hsa2 hsb2 HSA HSB hsa hsb HY HZ halk hv1 hv2 HE hbel
      rcases hg with h1 | ⟨h1, h2⟩
      all_goals
        go_wp2_with fail
        refine HT1.out.mono ?_
        rintro e w2 ⟨he, hb2⟩
        obtain ⟨v1, rfl, hr1⟩ := HV1.out _ _ _ he
        have HB2 : Hid (Below w.heap.size w w2) := HBW.out.trans (hb2.mono HBW.out.size)
        have HR1 := Lib.hid hr1
        have HT3 := Lib.hid (HT2.out w2 HB2.out)
        clear he hb2 hr1 HT1 HT2 HBW HV1
        simp only []
        go_wp2_with fail
        refine HT3.out.mono ?_
        rintro e w3 ⟨he, hb3⟩
        obtain ⟨v2, rfl, hr2⟩ := HV2.out _ _ _ he
        have HB3 : Hid (Below w.heap.size w w3) := HB2.out.trans (hb3.mono HB2.out.size)
        have HAL := Lib.hid (alike_any _ _ v1 v2 la lb w3 (HR1.out.below hb3) hr2 HBARE hla)
        clear he hb3 hr2 HT3 HR1 HV2 HB2
        simp only []
        go_wp2_with fail
        refine HAL.out.mono ?_
        rintro e w4 ⟨rfl, hb4⟩
        have HB4 : Hid (Below w.heap.size w w4) := HB3.out.trans (hb4.mono HB3.out.size)
        clear HAL hb4 HB3
        simp only []
        go_wp2_with fail
        go_ret
        exact ⟨rfl, HB4.out⟩
end lawWider
end Go.Proofs.YtbdjccmcdifjcaaGreatDoor

set_option linter.unusedVariables false
set_option linter.unusedSimpArgs false
namespace Go.Proofs.YtbdjccmcdifjcaaGreatDoor
namespace lawWider
open Go.ChangeShapes Go.WideShapes Go.ChangeAt Go.WideMaps Go.WideElems Go.RowKit
open Go.ChangeMaps (open_string shut_string)
open A2

set_option maxRecDepth 100000 in
theorem lifted (os : Os) (started : os.Started) (H : Type) (enc : TypeId × Value → H) :
    ReturnsInHanded {} Tryz.checked os 4 .any (fun w args => (Rows.layoutWiderSpec.pre enc Tryz.prog Tryz.f4 [] false w args ∧ laidMetH Tryz.prog laidL w) ∧ sizedMet enc Tryz.prog Tryz.f4 (OpenSpec.ofChange Rows.layoutWiderSpec) false w args)
      (Rows.layoutWiderSpec.post enc Tryz.prog Tryz.f4 false true false false) := by
  refine handed_both (C := Tryz.checked) (X := fun w _ => laidMetH Tryz.prog laidL w) (fun _ _ _ hh h => h.of_heap hh) own started (by kernel_rfl) Tryz.func4
    (ChangeSpec.witness_shaped (enc := enc) (C := Tryz.checked) (os := os) (X := fun w _ => laidMetH Tryz.prog laidL w) false (World.laidAll Tryz.prog os laidL) #[.slice none 0 0, .int .i64 0] 8 (door_os os) (door_shaped os _) (by kernel_rfl) (by kernel_rfl) (by kernel_rfl) (door_met os _)) ?_
  intro W base args ds gs before hval0 hW _ _ hL hsh _
  have hval : ∀ (j : Nat) t v, Tryz.f4.params[j]? = some t → args[j]? = some v → Value.okWide Tryz.prog W .any base t v := hval0
  have hW' := hW
  obtain ⟨p, q, hA0, hV, rfl, hfz, hnd⟩ := hW
  have hA : DataW.TrodAll enc Tryz.prog W 0 (fun _ => true) true Tryz.f4.params.toList args.toList ds p := hA0
  rw [Tryz.params4] at hA hval
  obtain ⟨v0, v1, d0, d1, p0, p1, rfl, rfl, rfl, h0, h1⟩ := trodAll_two hA
  obtain ⟨rfl, rfl⟩ := trodVars_none hV
  have h0k := h0
  obtain ⟨x0, a0, n0, b0⟩ := lines_of (hval 0 22 v0 rfl rfl) h0
  obtain ⟨x1, rfl, rfl, rfl, w1⟩ := open_int Tryz.underlying3 (hval 1 3 v1 rfl rfl) h1
  clear hA0 hval0
  simp only [List.append_nil] at hW'
  refine (walk v0 x0 x1 W a0 b0 n0 (env_of hL hsh)).mono fun e W' ⟨he, hb⟩ => ?_
  subst he
  have hlt : ∀ x ∈ p0, x.block < W.heap.size := fun x hx => hW'.lt x (by simpa using hx)
  exact ⟨_, rfl, post_true_at hW' (by kernel_rfl) rfl rfl rfl rfl (by have h := trodAll_mk2 (Below.trod laidOut (by kernel_rfl) (of_decide_eq_true (by kernel_rfl)) h0k hb (fun x hx => hlt x (by simp [hx]))) (shut_int Tryz.underlying3 w1); (try simp only [List.append_nil, List.nil_append] at h); exact h) hb⟩

theorem row_holds : Rows.LayoutWiderSaid :=
  OpenClaim.holds_of_wide 4 Tryz.f4 rfl rfl rfl rfl rfl rfl rfl ⟨rfl, rfl, rfl, rfl, rfl⟩ rfl rfl rfl rfl rfl (by kernel_rfl) Tryz.func4 (by kernel_rfl)
    (of_decide_eq_true (by kernel_rfl)) (by unfold Func.isWrapper; first | (rw [if_pos (by decide +kernel)]; kernel_rfl) | (rw [if_neg (by decide +kernel)]; exact ⟨rfl, rfl⟩))
    (fun os started H enc _ => lifted os started H enc)

theorem card_holds : Rows.LayoutWiderCardSaid :=
  Claim7.holds_tied_plain_at .later [] [.data, .data, .data, .data, .sentinel, .sentinel, .data, .pinned] true (true, "88ce31af55d7e15b8eb372d6691e0e677d11b1df154c7967afde70b805ca128e") true
    row_holds (fun _ h => by cases h) (by kernel_rfl) (fun _ h => by cases h) layoutWider_row_tie rfl ⟨rfl, rfl⟩ (by kernel_rfl) rfl
    (fun f fn hf hfn => by
      obtain rfl : f = 4 := Option.some.inj ((show Tryz.prog.funcNamed "krait/kraitlaw02.LayoutWider" = some 4 by kernel_rfl).symm.trans hf) |>.symm
      obtain rfl : fn = Tryz.f4 := (Option.some.inj (Tryz.func4.symm.trans hfn)).symm
      exact ⟨by kernel_rfl, fun j t ht => by
        rw [Tryz.params4] at ht
        have hm : t ∈ [22, 3] := by simpa using Array.mem_of_getElem? ht
        have hall : ([22, 3].all fun u => !Tryz.prog.wantsStandIn u) = true := by kernel_rfl
        exact (show Tryz.prog.wantsStandIn t = false by simpa using List.all_eq_true.1 hall t hm)⟩)
    (by kernel_rfl)
end lawWider
end Go.Proofs.YtbdjccmcdifjcaaGreatDoor
