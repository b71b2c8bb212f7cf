/-
  Blanks ahead and a comment behind change nothing but the places: the walk of the statement ScanComments.
-/
import Derived.Test.YtfomjdaihoaipaaDoorFitA
set_option linter.unusedVariables false
set_option linter.unusedSimpArgs false
namespace Go.Proofs.YtfomjdaihoaipaaDoor
open Go.RowKit Go.Shelf

theorem sixteen_pad (y : Nat) (h : y ≤ 16) : ((⟨#[32, 32, 32, 32, 32, 32, 32, 32, 32, 32, 32, 32, 32, 32, 32, 32]⟩ : ByteArray).extract 0 y).data.toList = List.replicate y 32 := by
  have e : ∀ j : Fin 17, ((⟨#[32, 32, 32, 32, 32, 32, 32, 32, 32, 32, 32, 32, 32, 32, 32, 32]⟩ : ByteArray).extract 0 j.val).data.toList = List.replicate j.val 32 := by decide +kernel
  exact e ⟨y, by omega⟩
/-- The tokens of a row, each behind one blank. -/
def ones (F : List T4) : List (Nat × T4) := F.map fun x => (0, x)
theorem ones_good {F : List T4} (h : ∀ x ∈ F, Sp.good x) : ∀ x ∈ ones F, Sp.good x.2 := by
  intro x hx
  obtain ⟨y, hy, rfl⟩ := List.mem_map.1 hx
  exact h y hy

namespace lawComments
set_option maxHeartbeats 16000000 in
set_option maxRecDepth 100000 in
theorem walk (va : Value) (l : List T4) (b : ByteArray) (c : UInt8) (w : World) (ha : Arg4 va l w) (hl : l.length ≤ maxLen) (hts : ∀ x ∈ l, x.2.2.1.length ≤ maxLen) (hb : b.size ≤ maxLen) (hE : Env w) : Calls Tryd.prog 9 #[va, .string b, .int .u8 (c.toNat : Int)] w fun e w' => e = .returned (.bool true) ∧ Below w.heap.size w w' := by
  have hc0 := c.toNat_lt
  obtain ⟨f, HF⟩ := hid_ex (b.extract 0 (min b.size 100))
  have hf : f.size ≤ 100 := by rw [← HF.out]; simp [ByteArray.size_extract]; omega
  obtain ⟨F, HFIT⟩ := hid_ex (Sp.fitL l)
  have hfg := Sp.fitL_good l
  rw [HFIT.out] at hfg
  obtain ⟨hF20, hFg⟩ := hfg
  have HFG := Lib.hid hFg
  obtain ⟨y, HY⟩ := hid_ex (c.toNat % 16)
  have hy16 : y < 16 := by rw [← HY.out]; omega
  have hmy : ((c.toNat : Int)).tmod 16 = (y : Int) := by rw [← HY.out, Int.tmod_eq_emod_of_nonneg (by omega)]; omega
  have hey : ((c.toNat : Int)) % 16 = (y : Int) := by rw [← HY.out]; omega
  have hwy : IntKind.i64.wrap (y : Int) = (y : Int) := IntWalk.i64_in _ (by omega)
  have hwy8 : IntKind.u8.wrap (y : Int) = (y : Int) := IntWalk.u8_in _ (by omega)
  obtain ⟨pb, HP⟩ := hid_ex ((⟨#[32, 32, 32, 32, 32, 32, 32, 32, 32, 32, 32, 32, 32, 32, 32, 32]⟩ : ByteArray).extract 0 y)
  have hpl : pb.data.toList = List.replicate y 32 := by rw [← HP.out]; exact sixteen_pad y (by omega)
  have hps : pb.size = y := by rw [← size_list, hpl, List.length_replicate]
  have HPL := Lib.hid hpl
  clear hFg hpl HY
  go_enter Tryd.func9, Tryd.ntmps9
  go_wp2_with fail
  refine (shown_any w hE).mono ?_
  rintro e w1 ⟨rfl, hb1⟩
  have ha1 := ha.below hb1
  go_wp2_with fail
  refine (fit_any va l w1 ha1 hl hts).mono ?_
  rintro e w2 ⟨vF, rfl, hrF, hb2'⟩
  rw [HFIT.out] at hrF
  have hb2 := hb1.trans (hb2'.mono hb1.size)
  obtain ⟨pF, cF, rfl, fF⟩ := hrF.form
  have FF := Lib.hid fF
  clear ha1 ha hb2' hb1 hrF fF hts
  go_wp2_with fail
  go_loopw [9, 10] (fun v9 v10 wr => ∃ (k : Nat) (out : ByteArray), v9 = .string out ∧ v10 = .int .i64 k ∧ k ≤ F.length ∧ out.size ≤ 83 * k ∧ Hid (out.data.toList = Sp.lineB (ones (F.take k))) ∧ Below w2.heap.size w2 wr) (fun _ v10 _ => F.length - (intOf v10).toNat)
  case atStart => exact ⟨0, ⟨#[]⟩, rfl, rfl, Nat.zero_le _, by decide, rfl, Below.refl _ _⟩
  case round =>
    obtain ⟨k, out, rfl, rfl, hk, hos, HO, hbel⟩ := hrel
    have hbelr := hb2.trans (hbel.mono hb2.size)
    by_cases hlt : k < F.length
    · obtain ⟨x, hx⟩ : ∃ x, F[k]? = some x := ⟨_, List.getElem?_eq_getElem hlt⟩
      have hxg := (HFG.out x (List.mem_of_getElem? hx)).1
      obtain ⟨g, rfl, hg, _, a0, a1, a2, a3⟩ := FF.out k x hx
      have b0 := (hbel.cell (p := ⟨g, k * 4, none⟩) hg).trans a0
      have b1 := (hbel.cell (p := ⟨g, k * 4 + 1, none⟩) hg).trans a1
      have b2 := (hbel.cell (p := ⟨g, k * 4 + 2, none⟩) hg).trans a2
      have b3 := (hbel.cell (p := ⟨g, k * 4 + 3, none⟩) hg).trans a3
      clear a0 a1 a2 a3
      have hxl := (Sp.textB_len hxg).2
      obtain ⟨sb, hsb⟩ : ∃ sb : ByteArray, sb = ⟨x.2.2.1.toArray⟩ := ⟨_, rfl⟩
      rw [← hsb] at b2
      have hsl : sb.data.toList = x.2.2.1 := by rw [hsb]
      have hss : sb.size ≤ 1000 := by
        rw [← size_list, hsl]
        rcases hxg with ⟨_, _, _, h⟩ | ⟨_, h, _⟩ | ⟨_, h, _⟩ | ⟨_, h, _⟩
        · omega
        · rw [h]; simp
        · omega
        · have := List.all_eq_true.1 Sp.ref_sizes _ h
          simp only [Bool.and_eq_true, decide_eq_true_eq] at this
          omega
      have hn2 : x.1 = 2 → 0 ≤ x.2.2.2 ∧ x.2.2.2 < 9223372036854775808 := by
        intro h2
        rcases hxg with ⟨h, _⟩ | ⟨_, _, h⟩ | ⟨h, _⟩ | ⟨h, _⟩
        · omega
        · exact h
        · omega
        · omega
      obtain ⟨tb, HTB⟩ := hid_ex (⟨(Sp.textB x).toArray⟩ : ByteArray)
      have htl : tb.data.toList = Sp.textB x := by rw [← HTB.out]
      have htbs : tb.size ≤ 82 := by rw [← size_list, htl]; exact hxl
      have HT : Hid (∀ w, Calls Tryd.prog 31 #[.agg #[.int .i64 x.1, .int .i64 x.2.1, .string sb, .int .i64 x.2.2.2]] w fun e w' => e = .returned (.string tb) ∧ Below w.heap.size w w') := by
        intro w
        refine (text_any x.1 x.2.1 x.2.2.2 sb hss hn2 w).mono ?_
        rintro e w' ⟨rfl, hb⟩
        refine ⟨?_, hb⟩
        rw [hsl]
        show Ending.returned (.string ⟨(Sp.textB x).toArray⟩) = _
        rw [HTB.out]
      have HN : Hid ((out ++ (⟨#[32]⟩ : ByteArray) ++ tb).data.toList = Sp.lineB (ones (F.take (k + 1)))) := by
        show _ = _
        have e1 : ones (F.take (k + 1)) = ones (F.take k) ++ [(0, x)] := by
          unfold ones
          rw [List.take_add_one, List.map_append, hx]
          rfl
        rw [e1, Sp.lineB_snoc, ← HO.out, ← htl]
        simp
      have hsz : (out ++ (⟨#[32]⟩ : ByteArray) ++ tb).size ≤ 83 * (k + 1) := by
        simp [ByteArray.size_append]
        show out.size + 1 + tb.size ≤ _
        omega
      clear hx hxg hxl hsb hsl hn2 HTB htl HO FF HFG
      go_wp2_with fail
      refine (HT.out _).mono ?_
      rintro e w3 ⟨rfl, hb3⟩
      have hbel3 := hbel.trans (hb3.mono hbel.size)
      clear hb3 hbel HT
      go_wp2_with fail
      go_roundw
      case rel => exact ⟨k + 1, _, rfl, by go_num, by omega, hsz, HN, hbel3⟩
      case measure => simp [intOf]; omega
    · have hos2 : out.size ≤ 1660 := by
        have : k ≤ 20 := by omega
        omega
      have HL : Hid (out.data.toList = Sp.lineB (ones F)) := by
        show _ = _
        rw [HO.out, List.take_of_length_le (by omega)]
      have hgood : ∀ x ∈ ones F, Sp.good x.2 := ones_good fun x hx => (HFG.out x hx).1
      obtain ⟨ts, HTS⟩ := hid_ex (Sp.toksB 0 (ones F))
      have htl : ts.length = F.length := by rw [← HTS.out, Sp.toksB_len]; unfold ones; rw [List.length_map]
      have L1 : Hid (Sp.lex out.data.toList = .ok ts) := by show _ = _; rw [HL.out, Sp.lex_line _ hgood, HTS.out]
      obtain ⟨big, HBIG⟩ := hid_ex (pb ++ out ++ pb ++ (⟨#[35]⟩ : ByteArray) ++ f)
      obtain ⟨com, HCOM⟩ := hid_ex (pb ++ (⟨#[35]⟩ : ByteArray) ++ f)
      have hbig : big.size ≤ 2000 := by
        rw [← HBIG.out]
        simp only [ByteArray.size_append]
        show pb.size + out.size + pb.size + 1 + f.size ≤ 2000
        omega
      have hcom : com.size ≤ 2000 := by
        rw [← HCOM.out]
        simp only [ByteArray.size_append]
        show pb.size + 1 + f.size ≤ 2000
        omega
      have L2 : Hid (Sp.lex big.data.toList = .ok (Sp.moved y ts)) := by
        show _ = _
        have e : big.data.toList = List.replicate y 32 ++ (Sp.lineB (ones F) ++ (List.replicate y 32 ++ 35 :: f.data.toList)) := by
          rw [← HBIG.out, ← HPL.out, ← HL.out]
          simp
        rw [e, Sp.lex_padded _ hgood, HTS.out]
      have L3 : Hid (Sp.lex com.data.toList = .ok []) := by
        show _ = _
        have e : com.data.toList = List.replicate y 32 ++ 35 :: f.data.toList := by
          rw [← HCOM.out, ← HPL.out]
          simp
        rw [e, Sp.lex_hash]
      have hEr := hE.below hbelr hE.size
      clear HO FF HFG HL HTS HPL hgood hbel hb2
      go_wp2_with fail
      rw [HP.out]
      refine (line_is L1 (by omega) 0 wr hEr).mono ?_
      rintro e w3 ⟨⟨vA, rfl, hrA⟩, hb3'⟩
      have hRA := hrA.row4
      obtain ⟨pA, cA, rfl, _⟩ := hRA.form
      have hlenA : (ts.map (abs4 0)).length = F.length := by rw [List.length_map]; exact htl
      rw [hlenA] at hRA ⊢
      have hb3 := hbelr.trans (hb3'.mono hbelr.size)
      have hE3 := hE.below hb3 hE.size
      clear hb3' hbelr hEr L1 hrA
      go_wp2_with fail
      refine (few_any b w3 hb).mono ?_
      rintro e w3' ⟨rfl, rfl⟩
      rw [HF.out]
      go_wp2_with fail
      rw [HBIG.out]
      refine (line_is L2 (by omega) 0 w3 hE3).mono ?_
      rintro e w4 ⟨⟨vB, rfl, hrB⟩, hb4'⟩
      have hRB := hrB.row4
      have hRA4 := hRA.below hb4'
      have hb4 := hb3.trans (hb4'.mono hb3.size)
      have hE4 := hE.below hb4 hE.size
      clear hb4' hb3 hE3 L2 hrB hRA
      go_wp2_with fail
      refine (few_any b w4 hb).mono ?_
      rintro e w4' ⟨rfl, rfl⟩
      rw [HF.out]
      go_wp2_with fail
      rw [HCOM.out]
      refine (line_is L3 (by omega) 9 w4 hE4).mono ?_
      rintro e w5 ⟨⟨vC, rfl, hrC⟩, hb5'⟩
      have hRC := hrC.row4
      obtain ⟨pC, cC, rfl, _⟩ := hRC.form
      have hRA5 := hRA4.below hb5'
      have hRB5 := hRB.below hb5'
      have hb5 := hb4.trans (hb5'.mono hb4.size)
      clear hb5' hb4 hE4 L3 hrC hRC hRA4 hRB
      have HSM : Hid (decide ((ts.map (abs4 0)).map (sh4 (y : Int)) = (Sp.moved y ts).map (abs4 0)) = true) := by
        show _ = _
        rw [Sp.moved_row]
        simp
      have hmvl : ((Sp.moved y ts).map (abs4 0)).length ≤ 1000000 := by
        unfold Sp.moved
        rw [List.length_map, List.length_map]
        omega
      go_wp2_with fail
      refine (shift_any _ _ (ts.map (abs4 0)) (y : Int) w5 hRA5 (by omega)).mono ?_
      rintro e w6 ⟨vS, rfl, hrS, hb6'⟩
      have hRB6 := hRB5.below hb6'
      have hb6 := hb5.trans (hb6'.mono hb5.size)
      clear hb6' hb5 hRA5 hRB5
      go_wp2_with fail
      refine (same_is HSM _ _ vS vB w6 hrS hRB6 (by rw [List.length_map]; omega) hmvl).mono ?_
      rintro e w7 ⟨rfl, hb7'⟩
      have hb7 := hb6.trans (hb7'.mono hb6.size)
      clear hb7' hb6 hrS hRB6 HSM hmvl
      go_wp2_with fail
      go_ret
      exact ⟨rfl, hb7⟩
end lawComments
end Go.Proofs.YtfomjdaihoaipaaDoor
