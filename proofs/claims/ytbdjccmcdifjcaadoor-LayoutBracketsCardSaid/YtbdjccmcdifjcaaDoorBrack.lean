/-
  Brackets alone have tokens just if all that are open are closed in their order: the walk of that statement, at this program.
-/
import Derived.Test.YtbdjccmcdifjcaaDoorShown
import Derived.Test.YtbdjccmcdifjcaaDoorBrackP
import Derived.Test.YtbdjccmcdifjcaaDoorArgs2
import Derived.Deep.DeepCutAuto
set_option linter.unusedVariables false
set_option linter.unusedSimpArgs false
namespace Go.Proofs.YtbdjccmcdifjcaaDoor
open Go.RowKit Go.Shelf
namespace lawBrack

/-- What the two rows say: each bracket's number, and whether a line ends behind it. -/
def items : List Int → List Bool → List (Nat × Bool)
  | [], _ => []
  | n :: l, ends => (((n % 65536) % 6).toNat, ends.headD false) :: items l ends.tail
theorem items_len : ∀ (l : List Int) (ends : List Bool), (items l ends).length = l.length
  | [], _ => rfl
  | n :: l, ends => by rw [items, List.length_cons, List.length_cons, items_len l]
theorem items_at : ∀ (l : List Int) (ends : List Bool) (i : Nat) (n : Int), l[i]? = some n → (items l ends)[i]? = some (((n % 65536) % 6).toNat, (ends[i]?).getD false)
  | [], _, i, n, h => by simp at h
  | m :: l, ends, 0, n, h => by
    simp at h
    subst h
    rw [items]
    cases ends <;> simp
  | m :: l, ends, i + 1, n, h => by
    simp at h
    rw [items, List.getElem?_cons_succ, items_at l ends.tail i n h]
    cases ends <;> simp
theorem items_lt (l : List Int) (ends : List Bool) : ∀ x ∈ items l ends, x.1 < 6 := by
  induction l generalizing ends with
  | nil => intro x hx; cases hx
  | cons n l ih =>
    intro x hx
    rw [items] at hx
    rcases List.mem_cons.1 hx with rfl | hx
    · simp only
      omega
    · exact ih _ x hx

/-- What is known of the brackets that are open, and whether all was well. -/
def Fine (fine : Bool) (op ks : List Nat) : Prop := (fine = true → Sp.bst [] ks = some op) ∧ (fine = false → Sp.bst [] ks = none)
theorem Fine.step_open {fine : Bool} {op ks : List Nat} {k : Nat} (h : Fine fine op ks) (h3 : k < 3) : Fine fine (k :: op) (ks ++ [k]) := by
  refine ⟨fun hf => ?_, fun hf => ?_⟩
  · rw [Sp.bst_append, h.1 hf]
    show Sp.bst op [k] = _
    rw [Sp.bst_open _ _ h3, Sp.bst_nil]
  · rw [Sp.bst_append, h.2 hf]
    rfl
theorem Fine.step_shut {fine : Bool} {op ks : List Nat} {k : Nat} (h : Fine fine ((k - 3) :: op) ks) (h3 : ¬ k < 3) : Fine fine op (ks ++ [k]) := by
  refine ⟨fun hf => ?_, fun hf => ?_⟩
  · rw [Sp.bst_append, h.1 hf]
    show Sp.bst _ [k] = _
    rw [Sp.bst_shut _ _ _ h3, if_pos rfl, Sp.bst_nil]
  · rw [Sp.bst_append, h.2 hf]
    rfl
theorem Fine.step_odd {fine : Bool} {op ks : List Nat} {k : Nat} (h : Fine fine op ks) (h3 : ¬ k < 3) (ho : ∀ t o, op = t :: o → t ≠ k - 3) : Fine false op (ks ++ [k]) := by
  refine ⟨(fun hf => by cases hf), fun _ => ?_⟩
  rw [Sp.bst_append]
  cases fine with
  | true =>
    rw [h.1 rfl]
    show Sp.bst op [k] = _
    cases op with
    | nil => exact Sp.bst_none _ h3
    | cons t o => rw [Sp.bst_shut _ _ _ h3, if_neg (ho t o rfl)]
  | false => rw [h.2 rfl]; rfl

def arr6 : Array Value := #[.string ⟨#[40]⟩, .string ⟨#[91]⟩, .string ⟨#[123]⟩, .string ⟨#[41]⟩, .string ⟨#[93]⟩, .string ⟨#[125]⟩]
theorem arr6_at (k : Nat) (h : k < 6) : arr6[k]? = some (.string ⟨#[Sp.br k]⟩) := by
  match k, h with
  | 0, _ => rfl
  | 1, _ => rfl
  | 2, _ => rfl
  | 3, _ => rfl
  | 4, _ => rfl
  | 5, _ => rfl

set_option maxHeartbeats 16000000 in
set_option maxRecDepth 100000 in
theorem walk (l : List Int) (ends : List Bool) (vl ve : Value) (w : World) (hl : Arg1 (fun n => Value.int .i64 n) vl l w) (he : Arg1 Value.bool ve ends w) (hll : l.length ≤ maxLen) (hel : ends.length ≤ maxLen) (hE : Env w) : Calls Tryd.prog 3 #[vl, ve] w fun e w' => e = .returned (.bool true) ∧ Below w.heap.size w w' := by
  obtain ⟨i0, hi, hz0, hz1, hz2⟩ := info_parts infoInt
  have HSH := Lib.hid (shown_any2 w hE)
  have HE := Lib.hid hE
  have hEs := hE.size
  obtain ⟨pl, cl, rfl, fl⟩ := hl
  obtain ⟨pe, ce, rfl, fe⟩ := he
  have FL := Lib.hid fl
  have FE := Lib.hid fe
  obtain ⟨X, HX⟩ := hid_ex (items (l.take 40) ends)
  have hXn : Hid (X.length = min 40 l.length) := by show _ = _; rw [← HX.out, items_len, List.length_take]
  clear hE fl fe
  go_enter Tryd.func3, Tryd.ntmps3
  go_wp2_with fail
  refine HSH.out.mono ?_
  rintro e w1 ⟨rfl, hb1⟩
  clear HSH
  go_wp2_with fail
  go_loopw [7, 8, 9, 10] (fun v7 v8 v9 v10 wr => ∃ (i : Nat) (sb : ByteArray) (fine : Bool) (op : List Nat), v10 = .int .i64 (i : Int) ∧ v7 = .string sb ∧ v9 = .bool fine ∧ i ≤ X.length ∧ op.length ≤ i ∧ Hid (v8 ≠ .slice none 0 0) ∧ RowI (w1.heap.size + 1) v8 op.reverse wr ∧ Below (w1.heap.size + 1) (w1.alloc (Obj.cells arr6 25)) wr ∧ Hid (sb.data.toList = 120 :: Sp.srcB (X.take i)) ∧ Hid (Fine fine op ((X.take i).map (·.1)))) (fun _ _ _ v10 _ => X.length - (intOf v10).toNat)
  case atStart =>
    refine ⟨0, _, true, [], rfl, rfl, rfl, Nat.zero_le _, Nat.zero_le _, by show _ ≠ _; simp, ?_, ?_, rfl, fun _ => rfl, fun h => by cases h⟩
    · have h := World.ownsRow_lit (base := w1.heap.size + 1) (e := 3) (size := 1) (w1.alloc (Obj.cells arr6 25)) #[] 0 (by simp) (Nat.zero_le _) rfl
      simp at h
      exact h
    · exact (Below.refl _ _).alloc (by simp) _
  case round =>
    obtain ⟨i, sb, fine, op, rfl, rfl, rfl, hix, hop, HNE, hrow, hbel, HS, HF⟩ := hrel
    have hxl := hXn.out
    have hw1 : w.heap.size ≤ w1.heap.size := hb1.size
    have hbr := hbel.size
    simp at hbr
    have HBW : Hid (Below w.heap.size w wr) := (hb1.alloc hw1 _).trans (hbel.mono (by omega))
    by_cases hlt : i < X.length
    · obtain ⟨n, hn⟩ : ∃ n, l[i]? = some n := ⟨_, List.getElem?_eq_getElem (by omega)⟩
      have hX : X[i]? = some (((n % 65536) % 6).toNat, (ends[i]?).getD false) := by
        rw [← HX.out]
        exact items_at _ _ _ _ (by rw [List.getElem?_take_of_lt (by omega)]; exact hn)
      obtain ⟨g, o, rfl, hg, hc⟩ := FL.out i n hn
      replace hc := (HBW.out.cell (p := ⟨g, o + i, none⟩) hg).trans hc
      obtain ⟨k, hk⟩ : ∃ k, k = ((n % 65536) % 6).toNat := ⟨_, rfl⟩
      have hk6 : k < 6 := by omega
      have hand := i64_and65535 n
      have hrem : (n % 65536).tmod 6 = (k : Int) := by rw [Int.tmod_eq_emod_of_nonneg (by omega)]; omega
      rw [← hk] at hX
      have hall : wr.cell? ⟨w1.heap.size, k, none⟩ = some (.string ⟨#[Sp.br k]⟩) := by
        rw [hbel.cell (p := ⟨w1.heap.size, k, none⟩) (by simp)]
        have hh : (w1.alloc (Obj.cells arr6 25)).heap[w1.heap.size]? = some (.cells arr6 25) := by
          show (w1.heap.push _)[w1.heap.size]? = _
          simp
        unfold World.cell?
        rw [hh]
        exact arr6_at k hk6
      have i0' : (0 : Int) ≤ (i : Int) := by omega
      have i1 : (i : Int) < (l.length : Int) := by omega
      have i2 : (i : Int) < 40 := by omega
      have k0 : (0 : Int) ≤ (k : Int) := by omega
      have k1 : (k : Int) < 6 := by omega
      have HSN : Hid (∀ b : Bool, b = (ends[i]?).getD false → 120 :: Sp.srcB (X.take (i + 1)) = sb.data.toList ++ (Sp.br k :: 120 :: if b then [10] else [])) := by
        intro b hb
        rw [List.take_add_one, hX, HS.out]
        show 120 :: Sp.srcB (X.take i ++ [(k, _)]) = _
        rw [Sp.srcB_snoc, ← hb]
        rfl
      have HKN : Hid ((X.take (i + 1)).map (·.1) = (X.take i).map (·.1) ++ [k]) := by
        show _ = _
        rw [List.take_add_one, hX, List.map_append]
        rfl
      have hix40 : X.length ≤ 40 := by omega
      have hsz : sb.size ≤ 121 := by
        have h1 := congrArg List.length HS.out
        rw [size_list, List.length_cons] at h1
        have h2 := Sp.srcB_len (X.take i)
        rw [List.length_take] at h2
        omega
      have HX1 := Lib.hid hlt
      clear HX hXn hn hxl hix hk hX FL HS hlt hg
      go_upto_region 11 with (fail)
      obtain ⟨sc, hsc⟩ : ∃ sc : ByteArray, sc = sb ++ { data := #[Sp.br k] } ++ { data := #[120] } := ⟨_, rfl⟩
      have hscl : sc.data.toList = sb.data.toList ++ [Sp.br k, 120] := by
        rw [hsc]
        simp
      have hscz : sc.size ≤ 200 := by
        rw [← size_list, hscl, List.length_append, size_list]
        simp
        omega
      rw [← hsc]
      clear hsc
      obtain ⟨b, HB⟩ := hid_ex ((ends[i]?).getD false)
      go_cut [49] (fun v49 wx => v49 = .bool b ∧ wx = wr)
      case first =>
        clear hrow HNE hop HF hc hall hbel hand hrem HE HX1 HKN HSN hscl
        cases hen : ends[i]? with
        | none =>
          have h1 : ¬ (i : Int) < (ends.length : Int) := by
            have := List.getElem?_eq_none_iff.1 hen
            omega
          obtain rfl : false = b := by rw [← HB.out, hen]; rfl
          clear FE hen
          go_wp2_with fail
          go_meet
          exact ⟨rfl, rfl⟩
        | some b' =>
          have h1 : (i : Int) < (ends.length : Int) := by
            have := (List.getElem?_eq_some_iff.1 hen).1
            omega
          obtain ⟨ge, oe, rfl, hge, hce⟩ := FE.out i b' hen
          replace hce := (HBW.out.cell (p := ⟨ge, oe + i, none⟩) hge).trans hce
          obtain rfl : b' = b := by rw [← HB.out, hen]; rfl
          clear FE hen hge
          go_wp2_with fail
          go_meet
          exact ⟨rfl, rfl⟩
      obtain ⟨rfl, hw⟩ := hcut
      subst hw
      have hnb := Lib.hid (HSN.out b HB.out.symm)
      clear HSN HB FE
      go_upto_if 49 with (fail)
      go_cut [7] (fun v7x wy => (∃ sb' : ByteArray, v7x = .string sb' ∧ Hid (sb'.data.toList = 120 :: Sp.srcB (X.take (i + 1)))) ∧ wy = wc)
      case first =>
        clear hrow HNE hop HF hc hall hbel hand hrem HE HX1 HKN
        cases b with
        | false =>
          have HN : Hid (sc.data.toList = 120 :: Sp.srcB (X.take (i + 1))) := by
            show _ = _
            rw [hscl, hnb.out]
            rfl
          clear hnb hscl
          go_wp2_with fail
          go_meet
          exact ⟨⟨sc, rfl, HN⟩, rfl⟩
        | true =>
          have HN : Hid ((sc ++ (⟨#[10]⟩ : ByteArray)).data.toList = 120 :: Sp.srcB (X.take (i + 1))) := by
            show _ = _
            rw [hnb.out]
            simp [hscl]
          clear hnb hscl
          go_wp2_with fail
          go_meet
          exact ⟨⟨_, rfl, HN⟩, rfl⟩
      case rest =>
        obtain ⟨⟨sb', rfl, HS'⟩, hw⟩ := hcut
        subst hw
        clear hc hall hsz hscl hscz hand hrem hnb
        by_cases h3 : k < 3
        · have g3 : (k : Int) < 3 := by omega
          have HFN : Hid (Fine fine (k :: op) ((X.take (i + 1)).map (·.1))) := by
            show Fine _ _ _
            rw [HKN.out]
            exact HF.out.step_open h3
          have hown : (wc.alloc (.cells #[.int .i64 (k : Int)] 3)).ownsRow (w1.heap.size + 1) 3 1 u8 op.reverse.length (intRow op.reverse) := hrow.alloc _
          have hrl : op.reverse.length = op.length := List.length_reverse
          rw [hrl] at hown
          clear hrow HF HKN
          go_wp2_with (at_builtin; refine wpList_append_own _ rfl _ _ 22 rfl (w1.heap.size + 1) 3 i0 (.int .i64 0) 1 8 Tryd.underlying22 hi hz0 hz1 hz2 rfl (by decide) _ _ _ rfl hown ⟨wc.heap.size, 0, none⟩ 1 1 [.int .i64 (k : Int)] rfl rfl ?c1 ?c2 ?c3 ?c4 ?c5 ?_)
          case c1 =>
            intro j u hj
            match j, hj with
            | 0, hj => simp at hj; subst hj; simp [Addr.add]
          case c2 => intro u hu; simp at hu; subst hu; rfl
          case c3 => unfold maxLen; omega
          case c4 => omega
          case c5 => simp; omega
          intro v' w2 hown' hgrow hnil
          obtain ⟨g', cap', rfl⟩ := ownsRow_succ hown'
          have hrow2 : RowI (w1.heap.size + 1) (.slice (some ⟨g', 0, none⟩) (op.length + 1) cap') (k :: op).reverse w2 := by
            unfold RowI
            rw [List.reverse_cons, List.length_append, hrl]
            unfold intRow at hown' ⊢
            rw [List.map_append]
            exact hown'
          have hbel2 : Below (w1.heap.size + 1) (w1.alloc (Obj.cells arr6 25)) w2 := (hbel.alloc hbr _).grown hgrow (by simp; omega) (fun j hj => (hown.lt j hj).1)
          clear hown' hgrow hnil hown hbel
          go_wp2_with fail
          exact ⟨⟨i + 1, sb', fine, k :: op, by go_num, rfl, rfl, by have := HX1.out; omega, by simp; omega, by show _ ≠ _; simp, hrow2, hbel2, HS', HFN⟩, by have := HX1.out; simp [intOf]; omega⟩
        · have g3 : ¬ (k : Int) < 3 := by omega
          have hnc := HKN.out
          cases op with
          | nil =>
            have HFN : Hid (Fine false [] ((X.take (i + 1)).map (·.1))) := by
              show Fine _ _ _
              rw [hnc]
              exact HF.out.step_odd h3 (fun t o h => by cases h)
            obtain ⟨g2, cap2, rfl, hcap2, hg2, _, hcells⟩ := RowI.form hrow HNE.out
            rw [show ([] : List Nat).reverse.length = 0 from rfl] at hrow HNE ⊢
            clear HF HKN hcells hnc
            go_wp2_with fail
            exact ⟨⟨i + 1, sb', false, [], by go_num, rfl, rfl, by have := HX1.out; omega, by simp, HNE, hrow, hbel, HS', HFN⟩, by have := HX1.out; simp [intOf]; omega⟩
          | cons t op =>
            obtain ⟨m, hm⟩ : ∃ m, m = op.length := ⟨_, rfl⟩
            have hrl2 : (t :: op).reverse.length = m + 1 := by rw [List.length_reverse, List.length_cons, hm]
            have hlast : (t :: op).reverse[m]? = some t := by
              rw [List.reverse_cons, List.getElem?_append_right (by rw [List.length_reverse]; omega), List.length_reverse, hm]
              simp
            obtain ⟨g2, cap2, rfl, hcap2, hg2, _, hcells⟩ := RowI.form hrow HNE.out
            have ht := hcells m t hlast
            rw [hrl2] at hrow HNE hcap2 ⊢
            have hsh := RowI.shrink hrow hrl2
            have htk : (t :: op).reverse.take m = op.reverse := by
              rw [List.reverse_cons, List.take_left' (by rw [List.length_reverse, hm])]
            rw [htk] at hsh
            have hml : m + 1 ≤ 100 := by simp at hop; omega
            have hwm : IntKind.i64.wrap (m : Int) = (m : Int) := IntWalk.i64_in _ (by omega)
            have hm0 : (0 : Int) ≤ (m : Int) := by omega
            have hm1 : (m : Int) ≤ (cap2 : Int) := by omega
            have hm2 : (0 : Int) < (m : Int) + 1 := by omega
            obtain ⟨k3, hk3⟩ : ∃ k3, k = k3 + 3 := ⟨k - 3, by omega⟩
            by_cases htk3 : t = k - 3
            · have gt : ((t : Int) == (k : Int) - 3) = true := by simp; omega
              have HFN : Hid (Fine fine op ((X.take (i + 1)).map (·.1))) := by
                show Fine _ _ _
                rw [hnc]
                exact (htk3 ▸ HF.out).step_shut h3
              have hol : op.length ≤ i + 1 := by simp at hop; omega
              clear HF HKN hcells hnc hm hrl2 hlast htk htk3 hk3 hop hrow HNE
              go_wp2_with fail
              exact ⟨⟨i + 1, sb', fine, op, by go_num, rfl, rfl, by have := HX1.out; omega, hol, by show _ ≠ _; simp, hsh, hbel, HS', HFN⟩, by have := HX1.out; simp [intOf]; omega⟩
            · have gt : ((t : Int) == (k : Int) - 3) = false := by simp; omega
              have HFN : Hid (Fine false (t :: op) ((X.take (i + 1)).map (·.1))) := by
                show Fine _ _ _
                rw [hnc]
                exact HF.out.step_odd h3 (fun t' o h => by cases h; exact htk3)
              have hol : (t :: op).length ≤ i + 1 := by omega
              clear HF HKN hcells hnc hm hlast htk htk3 hk3 hop hsh
              go_wp2_with fail
              exact ⟨⟨i + 1, sb', false, t :: op, by go_num, rfl, rfl, by have := HX1.out; omega, hol, HNE, hrow, hbel, HS', HFN⟩, by have := HX1.out; simp [intOf]; omega⟩
    · obtain rfl : i = X.length := by omega
      have hx6 : ∀ x ∈ X, x.1 < 6 := by rw [← HX.out]; exact items_lt _ _
      have hT := HS.out
      rw [List.take_length] at hT
      have hF := HF.out
      rw [List.take_length] at hF
      have hsz : sb.size ≤ 200 := by
        have h1 := congrArg List.length hT
        rw [size_list, List.length_cons] at h1
        have h2 := Sp.srcB_len X
        omega
      have HW := Lib.hid (Sp.layB X hx6)
      rw [← hT] at HW
      have HT := Lib.hid (tokens_any sb (by omega) wr (HE.out.below HBW.out hEs))
      obtain ⟨pa, ca, rfl, _⟩ := RowI.form hrow HNE.out
      obtain ⟨Y, HY⟩ := hid_ex (Sp.layL sb.data.toList)
      rw [HY.out] at HW HT
      have hnl : ¬ ((X.length : Int) < (l.length : Int) ∧ (X.length : Int) < 40) := by omega
      have hg : ¬ (X.length : Int) < (l.length : Int) ∨ ((X.length : Int) < (l.length : Int) ∧ ¬ (X.length : Int) < 40) := by omega
      have hrl : op.reverse.length = op.length := List.length_reverse
      rw [hrl]
      have HB : Hid (Below w.heap.size w wr) := HBW
      have key : ∀ e w', LayEnd wr.heap.size Y e w' → ∃ v p er, e = .returned (.tuple #[v, .int .i64 p, .int .i64 er]) ∧ (fine = true ∧ op = [] → er = 0) ∧ (¬ (fine = true ∧ op = []) → er = 21) := by
        intro e w' h
        have hw := HW.out
        cases fine with
        | true =>
          rw [hF.1 rfl] at hw
          cases op with
          | nil =>
            obtain ⟨ts, rfl⟩ := hw
            obtain ⟨v, rfl, _⟩ := h
            exact ⟨_, _, _, rfl, fun _ => rfl, fun h => absurd ⟨rfl, rfl⟩ h⟩
          | cons t o =>
            obtain ⟨p, rfl⟩ := hw
            obtain rfl : e = _ := h
            exact ⟨_, _, _, rfl, (fun h => by cases h.2), fun _ => rfl⟩
        | false =>
          rw [hF.2 rfl] at hw
          obtain ⟨p, rfl⟩ := hw
          obtain rfl : e = _ := h
          exact ⟨_, _, _, rfl, (fun h => by cases h.1), fun _ => rfl⟩
      have KEY := Lib.hid key
      clear HX hXn FL FE HS HF HW HY hT hF hrow hbel HNE hix hop hxl hlt hx6 key hsz hnl
      rcases hg with h1 | ⟨h1, h2⟩
      all_goals
        go_wp2_with fail
        refine HT.out.mono ?_
        rintro e w2 ⟨he, hb2⟩
        have HBN : Hid (Below w.heap.size w w2) := HB.out.trans (hb2.mono HB.out.size)
        obtain ⟨v, p, er, rfl, hz, h21⟩ := KEY.out e w2 he
        clear he hb2 KEY HT
        cases fine with
        | false =>
          obtain rfl := h21 (fun h => by cases h.1)
          clear hz h21
          go_wp2_with fail
          go_ret
          exact ⟨rfl, HBN.out⟩
        | true =>
          cases op with
          | nil =>
            obtain rfl := hz ⟨rfl, rfl⟩
            clear hz h21
            go_wp2_with fail
            go_ret
            exact ⟨rfl, HBN.out⟩
          | cons t o =>
            obtain rfl := h21 (fun h => by cases h.2)
            have hlz : ((((t :: o).length : Nat) : Int) == 0) = false := by simp; omega
            clear hz h21
            go_wp2_with fail
            go_ret
            exact ⟨rfl, HBN.out⟩
end lawBrack
end Go.Proofs.YtbdjccmcdifjcaaDoor
