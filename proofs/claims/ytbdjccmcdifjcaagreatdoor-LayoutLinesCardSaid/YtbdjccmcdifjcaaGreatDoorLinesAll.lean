/-
  Of lines without brackets, each that has tokens has one end, and a block begins just where a line is farther in than the last one with tokens ahead of it (layer 2, P2.1), at this program: the tied card of LayoutLines. No condition.
-/
import Derived.Test.YtbdjccmcdifjcaaGreatDoorShown
import Derived.Test.YtbdjccmcdifjcaaGreatDoorLsAll
import Derived.Deep.DeepCutAuto
import Derived.Deep.CutBlock
import Derived.Test.YtbdjccmcdifjcaaGreatDoorCards
import Derived.Test.YtbdjccmcdifjcaaGreatDoorTie
import Derived.SevenTiedAt
set_option linter.unusedVariables false
set_option linter.unusedSimpArgs false
namespace Go.Proofs.YtbdjccmcdifjcaaGreatDoor
open Go.RowKit Go.Shelf

theorem itemsL_at (l : List Sp.LineD) (i : Nat) (x : Sp.LineD) (h : l[i]? = some x) (hi : i < 30) : (itemsL (l.take 30))[i]? = some (Sp.wide x.1, x) := by
  unfold itemsL
  rw [List.getElem?_map, List.getElem?_take_of_lt hi, h]
  rfl
theorem take_next {α : Type} (X : List α) (i : Nat) (x : α) (h : X[i]? = some x) : X.take (i + 1) = X.take i ++ [x] := by
  rw [List.take_add_one, h]
  rfl
theorem itemsL_len (l : List Sp.LineD) : (itemsL (l.take 30)).length = min 30 l.length := by
  unfold itemsL
  rw [List.length_map, List.length_take]
theorem wide_rem (n : Int) : (n % 65536).tmod 12 = (Sp.wide n : Int) := by
  rw [Int.tmod_eq_emod_of_nonneg (by omega)]
  unfold Sp.wide
  omega

namespace lawLines
theorem cnt_next (k : Int) (ts : List T4) (i : Nat) (t : T4) (h : ts[i]? = some t) : Sp.cnt k (ts.take (i + 1)) = Sp.cnt k (ts.take i) + if t.1 = k then 1 else 0 := by
  rw [take_next ts i t h, Sp.cnt_append]
  congr 1
  unfold Sp.cnt
  rw [List.filter_cons]
  by_cases e : t.1 = k <;> simp [e]

set_option maxHeartbeats 16000000 in
set_option maxRecDepth 100000 in
theorem walk (v : Value) (l : List Sp.LineD) (w : World) (ha : ArgLs v l w) (hbd : ∀ x ∈ l, Bnd x) (hl : l.length ≤ maxLen) (hE : Env w) : Calls Tryz.prog 5 #[v] w fun e w' => e = .returned (.bool true) ∧ Below w.heap.size w w' := by
  have HSH := Lib.hid (shown_any2 w hE)
  have HE := Lib.hid hE
  have hEs := hE.size
  have HA := Lib.hid ha
  have HSRC : Hid (∀ w', Below w.heap.size w w' → Calls Tryz.prog 16 #[v] w' fun e w'' => ∃ s : ByteArray, e = .returned (.string s) ∧ Hid (s.data.toList = Sp.srcL (itemsL (l.take 30))) ∧ s.size ≤ 20970 ∧ Below w'.heap.size w' w'') := fun w' hb => source_any v l w' (ha.below hb) hbd hl
  obtain ⟨pa, ca, rfl, fa⟩ := ha
  obtain ⟨X, HX⟩ := hid_ex (itemsL (l.take 30))
  have HXn : Hid (X.length = min 30 l.length) := by show _ = _; rw [← HX.out]; exact itemsL_len l
  rw [HX.out] at HSRC
  unfold maxLen at hl
  clear hE hbd fa
  go_enter Tryz.func5, Tryz.ntmps5
  go_wp2_with fail
  refine HSH.out.mono ?_
  rintro e w1 ⟨rfl, hb1⟩
  clear HSH
  have HT0 := Lib.hid (HSRC.out w1 hb1)
  clear HSRC
  go_wp2_with fail
  refine HT0.out.mono ?_
  rintro e w2 ⟨sb, rfl, HSB, hss, hb2'⟩
  have HB2 : Hid (Below w.heap.size w w2) := hb1.trans (hb2'.mono hb1.size)
  have HT := Lib.hid (tokens_any sb (by omega) w2 (HE.out.below HB2.out hEs))
  have hll := Sp.layL_lines X
  rw [← HSB.out] at hll
  have HLL : Hid (∀ ts, Sp.layL sb.data.toList = .ok ts → ts.length ≤ 1000000) := by
    intro ts h
    have := Sp.layL_len h
    rw [size_list] at this
    omega
  obtain ⟨Y, HY⟩ := hid_ex (Sp.layL sb.data.toList)
  rw [HY.out] at HT hll HLL
  have HL := Lib.hid hll
  clear hb1 hb2' HT0 HE hEs HSB hss HY hll
  go_wp2_with fail
  refine HT.out.mono ?_
  rintro e w3 ⟨hend, hb3'⟩
  have HB3 : Hid (Below w.heap.size w w3) := HB2.out.trans (hb3'.mono HB2.out.size)
  obtain ⟨va, p, er, rfl, hcase⟩ : ∃ va p er, e = .returned (.tuple #[va, .int .i64 p, .int .i64 er]) ∧ ((er = 20 ∧ va = .slice none 0 0) ∨ (er = 0 ∧ ∃ ts, Row4 w2.heap.size va ts w3 ∧ ts.length ≤ 1000000 ∧ Sp.cnt 5 ts = Sp.full X ∧ Sp.cnt 6 ts = Sp.insF 0 X)) := by
    rcases HL.out with ⟨q, rfl⟩ | ⟨ts, rfl, c5, c6⟩
    · obtain rfl : e = _ := hend
      exact ⟨_, _, _, rfl, Or.inl ⟨rfl, rfl⟩⟩
    · obtain ⟨va, rfl, hr⟩ := hend
      exact ⟨_, _, _, rfl, Or.inr ⟨rfl, ts, hr, HLL.out ts rfl, c5, c6⟩⟩
  have HC := Lib.hid hcase
  have HA3 := Lib.hid (HA.out.below HB3.out)
  clear HB2 HT hb3' hend HL HLL hcase HA
  go_upto_block 0 with (fail)
  go_cut [7, 8] (fun v7 v8 wx => v7 = .int .i64 (Sp.full X : Int) ∧ v8 = .int .i64 (Sp.insF 0 X : Int) ∧ wx = w3)
  case first =>
    obtain ⟨pa', ca', e', fa⟩ := HA3.out
    cases e'
    have FA := Lib.hid fa
    clear fa HC HA3 HB3
    go_wp2_with fail
    go_loop [7, 8, 9, 10] (fun v7 v8 v9 v10 => ∃ i : Nat, v10 = .int .i64 (i : Int) ∧ i ≤ X.length ∧ v7 = .int .i64 (Sp.full (X.take i) : Int) ∧ v8 = .int .i64 (Sp.insF 0 (X.take i) : Int) ∧ v9 = .int .i64 (Sp.wasF 0 (X.take i) : Int)) (fun _ _ _ v10 => X.length - (intOf v10).toNat)
    case atStart => exact ⟨0, rfl, Nat.zero_le _, rfl, rfl, rfl⟩
    case round =>
      obtain ⟨i, rfl, hix, rfl, rfl, rfl⟩ := hrel
      have hxl := HXn.out
      by_cases hlt : i < X.length
      · obtain ⟨x, hx⟩ : ∃ x, l[i]? = some x := ⟨_, List.getElem?_eq_getElem (by omega)⟩
        have hX : X[i]? = some (Sp.wide x.1, x) := by rw [← HX.out]; exact itemsL_at l i x hx (by omega)
        obtain ⟨g, o, vt, rfl, hg, a0, a1, a2, a3, _⟩ := FA.out i x hx
        have hnx := take_next X i _ hX
        have hf := Sp.full_snoc (X.take i) (Sp.wide x.1, x)
        have hs := Sp.insF_snoc (Sp.wide x.1, x) (X.take i) 0
        have hu := Sp.wasF_snoc (Sp.wide x.1, x) (X.take i) 0
        rw [← hnx] at hf hs hu
        have bf := Sp.full_le (X.take i)
        have bs := Sp.insF_le (X.take i) 0
        rw [List.length_take] at bf bs
        obtain ⟨f, Hf⟩ := hid_ex (Sp.full (X.take i))
        obtain ⟨s, Hs⟩ := hid_ex (Sp.insF 0 (X.take i))
        obtain ⟨u, Hu⟩ := hid_ex (Sp.wasF 0 (X.take i))
        rw [Hf.out] at hf bf
        rw [Hs.out, Hu.out] at hs
        rw [Hs.out] at bs
        rw [Hu.out] at hu
        rw [Hf.out, Hs.out, Hu.out]
        obtain ⟨n0, l0, em, c0⟩ := x
        simp only at hf hs hu a0 a2
        have i1 : (i : Int) < (l.length : Int) := by omega
        have i2 : (i : Int) < 30 := by omega
        have hix30 : X.length ≤ 30 := by omega
        have HX1 := Lib.hid hlt
        cases em with
        | true =>
          rw [if_pos rfl] at hf hs hu
          have Hf' := Lib.hid hf
          have Hs' := Lib.hid hs
          have Hu' := Lib.hid hu
          clear hf hs hu Hf Hs Hu hnx hX hx FA HX HXn hxl hlt
          go_wp2_with fail
          exact ⟨⟨i + 1, by go_num, HX1.out, congrArg (fun n : Nat => Value.int .i64 n) Hf'.out.symm, congrArg (fun n : Nat => Value.int .i64 n) Hs'.out.symm, congrArg (fun n : Nat => Value.int .i64 n) Hu'.out.symm⟩, by have := HX1.out; simp [intOf]; omega⟩
        | false =>
          rw [if_neg (by simp)] at hf hs hu
          have hand := i64_and65535 n0
          have hrem := wide_rem n0
          have hy12 := Sp.wide_lt n0
          obtain ⟨y, Hy⟩ := hid_ex (Sp.wide n0)
          rw [Hy.out] at hs hu hrem hy12
          have Hf' := Lib.hid hf
          have Hu' := Lib.hid hu
          by_cases hw : u < y
          · rw [if_pos hw] at hs
            have Hs' := Lib.hid hs
            clear hf hs hu Hf Hs Hu hnx hX hx FA HX HXn hxl hlt Hy
            go_wp2_with fail
            exact ⟨⟨i + 1, by go_num, HX1.out, congrArg (Value.int .i64) (by have := Hf'.out; omega), congrArg (Value.int .i64) (by have := Hs'.out; omega), congrArg (fun n : Nat => Value.int .i64 n) Hu'.out.symm⟩, by have := HX1.out; simp [intOf]; omega⟩
          · rw [if_neg hw] at hs
            have Hs' := Lib.hid hs
            clear hf hs hu Hf Hs Hu hnx hX hx FA HX HXn hxl hlt Hy
            go_wp2_with fail
            exact ⟨⟨i + 1, by go_num, HX1.out, congrArg (Value.int .i64) (by have := Hf'.out; omega), congrArg (Value.int .i64) (by have := Hs'.out; omega), congrArg (fun n : Nat => Value.int .i64 n) Hu'.out.symm⟩, by have := HX1.out; simp [intOf]; omega⟩
      · obtain rfl : i = X.length := by omega
        have hg : ¬ (X.length : Int) < (l.length : Int) ∨ ((X.length : Int) < (l.length : Int) ∧ ¬ (X.length : Int) < 30) := by omega
        rw [List.take_length]
        clear FA HX HXn hxl hlt
        rcases hg with h1 | ⟨h1, h2⟩
        all_goals
          go_wp2_with fail
          go_meet
          exact ⟨rfl, rfl, rfl⟩
  case rest =>
    obtain ⟨rfl, rfl, hw⟩ := hcut
    subst hw
    have bf := Sp.full_le X
    have bs := Sp.insF_le X 0
    have hxl := HXn.out
    rcases HC.out with ⟨rfl, rfl⟩ | ⟨rfl, ts, hr, hts, h5, h6⟩
    · clear HC HA3 HX HXn
      go_wp2_with fail
      go_ret
      exact ⟨rfl, HB3.out⟩
    · obtain ⟨pt, ct, rfl, ft⟩ := hr.form
      have FT := Lib.hid ft
      have H5 := Lib.hid h5
      have H6 := Lib.hid h6
      obtain ⟨F, HF⟩ := hid_ex (Sp.full X)
      obtain ⟨S, HS⟩ := hid_ex (Sp.insF 0 X)
      rw [HF.out] at H5 bf ⊢
      rw [HS.out] at H6 bs ⊢
      have bF : F ≤ 30 := by omega
      have bS : S ≤ 30 := by omega
      clear HC HA3 HX HXn hr ft h5 h6 HF HS bf bs hxl
      go_wp2_with fail
      go_loop [7, 8, 12] (fun v7 v8 v12 => ∃ k : Nat, v12 = .int .i64 (k : Int) ∧ k ≤ ts.length ∧ v7 = .int .i64 ((F : Int) - (Sp.cnt 5 (ts.take k) : Nat)) ∧ v8 = .int .i64 ((S : Int) - (Sp.cnt 6 (ts.take k) : Nat))) (fun _ _ v12 => ts.length - (intOf v12).toNat)
      case atStart => exact ⟨0, rfl, Nat.zero_le _, congrArg (Value.int .i64) (by show (F : Int) = F - 0; omega), congrArg (Value.int .i64) (by show (S : Int) = S - 0; omega)⟩
      case round =>
        obtain ⟨k, rfl, hk, rfl, rfl⟩ := hrel
        have b5 := Sp.cnt_le 5 (ts.take k)
        have b6 := Sp.cnt_le 6 (ts.take k)
        rw [List.length_take] at b5 b6
        by_cases hlt : k < ts.length
        · obtain ⟨t, ht⟩ : ∃ t, ts[k]? = some t := ⟨_, List.getElem?_eq_getElem hlt⟩
          obtain ⟨g, rfl, hg, _, a0, a1, a2, a3⟩ := FT.out k t ht
          have n5 := cnt_next 5 ts k t ht
          have n6 := cnt_next 6 ts k t ht
          obtain ⟨c5, C5⟩ := hid_ex (Sp.cnt 5 (ts.take k))
          obtain ⟨c6, C6⟩ := hid_ex (Sp.cnt 6 (ts.take k))
          rw [C5.out] at n5 b5 ⊢
          rw [C6.out] at n6 b6 ⊢
          obtain ⟨A, hA⟩ : ∃ A : Int, A = (F : Int) - (c5 : Nat) := ⟨_, rfl⟩
          obtain ⟨S', hS'⟩ : ∃ S' : Int, S' = (S : Int) - (c6 : Nat) := ⟨_, rfl⟩
          rw [← hA, ← hS']
          have bA : -1000000 ≤ A ∧ A ≤ 30 := by omega
          have bS' : -1000000 ≤ S' ∧ S' ≤ 30 := by omega
          obtain ⟨bA0, bA1⟩ := bA
          obtain ⟨bS0, bS1⟩ := bS'
          obtain ⟨K, ta, tt, tn⟩ := t
          simp only at n5 n6 a0
          have NA : Hid ((F : Int) - (Sp.cnt 5 (ts.take (k + 1)) : Nat) = A - if K = 5 then 1 else 0) := by
            show _ = _
            rw [n5, hA]
            split <;> omega
          have NS : Hid ((S : Int) - (Sp.cnt 6 (ts.take (k + 1)) : Nat) = S' - if K = 6 then 1 else 0) := by
            show _ = _
            rw [n6, hS']
            split <;> omega
          clear n5 n6 C5 C6 hA hS' b5 b6 ht FT H5 H6
          by_cases h5 : K = 5
          · subst h5
            go_wp2_with fail
            exact ⟨⟨k + 1, by go_num, hlt, congrArg (Value.int .i64) (by rw [NA.out]; rfl), congrArg (Value.int .i64) (by rw [NS.out]; simp)⟩, by simp [intOf]; omega⟩
          · by_cases h6 : K = 6
            · subst h6
              go_wp2_with fail
              exact ⟨⟨k + 1, by go_num, hlt, congrArg (Value.int .i64) (by rw [NA.out]; simp), congrArg (Value.int .i64) (by rw [NS.out]; rfl)⟩, by simp [intOf]; omega⟩
            · rw [if_neg h5] at NA
              rw [if_neg h6] at NS
              go_wp2_with fail
              exact ⟨⟨k + 1, by go_num, hlt, congrArg (Value.int .i64) (by rw [NA.out]; omega), congrArg (Value.int .i64) (by rw [NS.out]; omega)⟩, by simp [intOf]; omega⟩
        · obtain rfl : k = ts.length := by omega
          rw [List.take_length, H5.out, H6.out, Int.sub_self, Int.sub_self]
          clear FT H5 H6 b5 b6
          go_wp2_with fail
          go_ret
          exact ⟨rfl, HB3.out⟩
end lawLines
end Go.Proofs.YtbdjccmcdifjcaaGreatDoor

set_option linter.unusedVariables false
set_option linter.unusedSimpArgs false
namespace Go.Proofs.YtbdjccmcdifjcaaGreatDoor
namespace lawLines
open Go.ChangeShapes Go.WideShapes Go.ChangeAt Go.WideMaps Go.WideElems Go.RowKit
open Go.ChangeMaps (open_string shut_string)
open A2

set_option maxRecDepth 100000 in
theorem lifted (os : Os) (started : os.Started) (H : Type) (enc : TypeId × Value → H) :
    ReturnsInHanded {} Tryz.checked os 5 .any (fun w args => (Rows.layoutLinesSpec.pre enc Tryz.prog Tryz.f5 [] false w args ∧ laidMetH Tryz.prog laidL w) ∧ sizedMet enc Tryz.prog Tryz.f5 (OpenSpec.ofChange Rows.layoutLinesSpec) false w args)
      (Rows.layoutLinesSpec.post enc Tryz.prog Tryz.f5 false true false false) := by
  refine handed_both (C := Tryz.checked) (X := fun w _ => laidMetH Tryz.prog laidL w) (fun _ _ _ hh h => h.of_heap hh) own started (by kernel_rfl) Tryz.func5
    (ChangeSpec.witness_shaped (enc := enc) (C := Tryz.checked) (os := os) (X := fun w _ => laidMetH Tryz.prog laidL w) false (World.laidAll Tryz.prog os laidL) #[.slice none 0 0] 8 (door_os os) (door_shaped os _) (by kernel_rfl) (by kernel_rfl) (by kernel_rfl) (door_met os _)) ?_
  intro W base args ds gs before hval0 hW _ _ hL hsh _
  have hval : ∀ (j : Nat) t v, Tryz.f5.params[j]? = some t → args[j]? = some v → Value.okWide Tryz.prog W .any base t v := hval0
  have hW' := hW
  obtain ⟨p, q, hA0, hV, rfl, hfz, hnd⟩ := hW
  have hA : DataW.TrodAll enc Tryz.prog W 0 (fun _ => true) true Tryz.f5.params.toList args.toList ds p := hA0
  rw [Tryz.params5] at hA hval
  obtain ⟨v0, d0, rfl, rfl, h0⟩ := trodAll_one hA
  obtain ⟨rfl, rfl⟩ := trodVars_none hV
  have h0k := h0
  obtain ⟨x0, a0, n0, b0⟩ := lines_of (hval 0 22 v0 rfl rfl) h0
  clear hA0 hval0
  simp only [List.append_nil] at hW'
  refine (walk v0 x0 W a0 b0 n0 (env_of hL hsh)).mono fun e W' ⟨he, hb⟩ => ?_
  subst he
  have hlt : ∀ x ∈ p, x.block < W.heap.size := fun x hx => hW'.lt x (by simpa using hx)
  exact ⟨_, rfl, post_true_at hW' (by kernel_rfl) rfl rfl rfl rfl (by have h := trodAll_mk1 (Below.trod laidOut (by kernel_rfl) (of_decide_eq_true (by kernel_rfl)) h0k hb (fun x hx => hlt x (by simp [hx]))); (try simp only [List.append_nil, List.nil_append] at h); exact h) hb⟩

theorem row_holds : Rows.LayoutLinesSaid :=
  OpenClaim.holds_of_wide 5 Tryz.f5 rfl rfl rfl rfl rfl rfl rfl ⟨rfl, rfl, rfl, rfl, rfl⟩ rfl rfl rfl rfl rfl (by kernel_rfl) Tryz.func5 (by kernel_rfl)
    (of_decide_eq_true (by kernel_rfl)) (by unfold Func.isWrapper; first | (rw [if_pos (by decide +kernel)]; kernel_rfl) | (rw [if_neg (by decide +kernel)]; exact ⟨rfl, rfl⟩))
    (fun os started H enc _ => lifted os started H enc)

theorem card_holds : Rows.LayoutLinesCardSaid :=
  Claim7.holds_tied_plain_at .later [] [.data, .data, .data, .data, .sentinel, .sentinel, .data, .pinned] true (true, "88ce31af55d7e15b8eb372d6691e0e677d11b1df154c7967afde70b805ca128e") true
    row_holds (fun _ h => by cases h) (by kernel_rfl) (fun _ h => by cases h) layoutLines_row_tie rfl ⟨rfl, rfl⟩ (by kernel_rfl) rfl
    (fun f fn hf hfn => by
      obtain rfl : f = 5 := Option.some.inj ((show Tryz.prog.funcNamed "krait/kraitlaw02.LayoutLines" = some 5 by kernel_rfl).symm.trans hf) |>.symm
      obtain rfl : fn = Tryz.f5 := (Option.some.inj (Tryz.func5.symm.trans hfn)).symm
      exact ⟨by kernel_rfl, fun j t ht => by
        rw [Tryz.params5] at ht
        have hm : t ∈ [22] := by simpa using Array.mem_of_getElem? ht
        have hall : ([22].all fun u => !Tryz.prog.wantsStandIn u) = true := by kernel_rfl
        exact (show Tryz.prog.wantsStandIn t = false by simpa using List.all_eq_true.1 hall t hm)⟩)
    (by kernel_rfl)
end lawLines
end Go.Proofs.YtbdjccmcdifjcaaGreatDoor
