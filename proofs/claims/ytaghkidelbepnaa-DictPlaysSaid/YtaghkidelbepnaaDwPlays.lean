/-
  DictPlays of layer 10: the walk, at this program.
-/
import Derived.Test.YtaghkidelbepnaaDiY
set_option linter.unusedVariables false
set_option linter.unusedSimpArgs false
namespace Go.Proofs.Ytaghkidelbepnaa
namespace lawDictPlays
open Go.RowKit
open Di

def playN (l : List Cl) (i : Nat) : List Pr := (l.take i).foldl (fun l c => op l (fit c)) []
theorem playN_succ {l : List Cl} {i : Nat} {c : Cl} (h : l[i]? = some c) : playN l (i + 1) = op (playN l i) (fit c) := by
  unfold playN
  rw [List.take_add_one, h, List.foldl_append]
  rfl
theorem playN_len (l : List Cl) (i : Nat) : (playN l i).length ≤ i := by
  have := fold_length (fun l c => op l (fit c)) (fun l c => op_length l (fit c)) (l.take i) []
  unfold playN
  have h2 : (l.take i).length ≤ i := by rw [List.length_take]; omega
  simp at this
  omega
set_option maxHeartbeats 16000000 in
set_option maxRecDepth 100000 in
theorem walk (I : DictI) {v0 : Value} {l : List Cl} {w : World} (HC : Hid (CRow v0 l w)) (HOK : Hid (∀ c ∈ l, Cok c)) (hl : l.length ≤ 140737488355328) :
    Calls Try.prog 3 #[v0] w fun e w' => e = .returned (.bool true) ∧ Below w.heap.size w w' := by
  obtain ⟨pa, cap, rfl, hrow⟩ := HC.out.form
  obtain ⟨n, hn⟩ : ∃ n, l.length = n := ⟨_, rfl⟩
  have HN := Lib.hid hn
  have HR := Lib.hid hrow
  rw [hn] at hl ⊢
  clear hrow hn
  go_enter Try.func3, Try.ntmps3
  go_upto_region 4 with (first
    | (go_at_call 13; refine (I.new_ _).mono ?_; rintro e w1 ⟨a, rfl, HD1, HB1, HF1⟩)
    | (go_at_call 12; refine (shown10 I _).mono ?_; rintro e w0 ⟨rfl, HB0⟩))
  obtain ⟨w2, hw2⟩ : ∃ w2, w2 = w1.alloc (.cells #[.slice none 0 0] 29) := ⟨_, rfl⟩
  have HT2 := Lib.hid (new_two I HB1.out HD1.out HF1.out hw2)
  have HB2 : Hid (Below w.heap.size w w2) := (show Below _ _ _ by rw [hw2]; exact HB0.trans ((HB1.out.trans ((below_new w1 _).mono HB1.out.size)).mono HB0.size))
  have HW2 := Lib.hid hw2
  obtain ⟨b, hb⟩ : ∃ b, w1.heap.size = b := ⟨_, rfl⟩
  obtain ⟨B, hB⟩ : ∃ B, w0.heap.size = B := ⟨_, rfl⟩
  rw [hb, hB] at HT2
  have HBB := Lib.hid hb
  have HBw : Hid (w.heap.size ≤ B ∧ B ≤ w2.heap.size) := (show _ ∧ _ from ⟨by rw [← hB]; exact HB0.size, by rw [← hB, hw2]; exact Nat.le_trans HB1.out.size (below_new w1 _).size⟩)
  clear hw2 hb hB
  rw [← HW2.out, HBB.out]
  go_wp2_with fail
  go_loopw [6] (fun v6 wr => ∃ (i : Nat) (v : Value), v6 = .int .i64 (i : Int) ∧ i ≤ n ∧ i ≤ 40 ∧ Hid (Two I B wr a b v (playN l i) (playN l i)) ∧ Hid (Below w.heap.size w wr) ∧ Hid (B ≤ wr.heap.size)) (fun v6 _ => 40 - (intOf v6).toNat)
  case atStart => exact ⟨0, .slice none 0 0, rfl, Nat.zero_le _, Nat.zero_le _, HT2.out, HB2.out, HBw.out.2⟩
  case round =>
    obtain ⟨i, v, rfl, hi, hi40, HT, HB, HBr⟩ := hrel
    clear HD1 HB1 HF1 HT2 HB2 HW2 HBB HB0
    by_cases hgo : i < n ∧ i < 40
    · obtain ⟨hin, hi4⟩ := hgo
      obtain ⟨c, hc⟩ : ∃ c, l[i]? = some c := ⟨_, List.getElem?_eq_getElem (by have := HN.out; omega)⟩
      obtain ⟨g, o, rfl, hg, hcs⟩ := HR.out i c hc
      have hcell := fun j u hu => (HB.out.cell (p := ⟨g, o + i * 8 + j, none⟩) hg).trans (hcs j u hu)
      have a0 := hcell 0 _ rfl
      have a1 := hcell 1 _ rfl
      have a2 := hcell 2 _ rfl
      have a3 := hcell 3 _ rfl
      have a4 := hcell 4 _ rfl
      have a5 := hcell 5 _ rfl
      have a6 := hcell 6 _ rfl
      have a7 := hcell 7 _ rfl
      simp only [Nat.add_zero] at a0
      have HCK := Lib.hid (HOK.out c (List.mem_of_getElem? hc))
      obtain ⟨f, hf⟩ := hid_ex (fit c)
      have HFK : Hid (Cok f) := (show Cok _ by rw [← hf.out]; exact fit_cok HCK.out)
      have HL : Hid ((playN l i).length ≤ 100) := (show _ ≤ _ by have := playN_len l i; omega)
      obtain ⟨l', hop⟩ := hid_ex (op (playN l i) f)
      have HSUC : Hid (playN l (i + 1) = l') := (show _ = _ by rw [playN_succ hc, hf.out, hop.out])
      have HL' : Hid (l'.length ≤ 100) := (show _ ≤ _ by rw [← HSUC.out]; have := playN_len l (i + 1); omega)
      have hin' : (i : Int) < (n : Int) := by omega
      have hi4' : (i : Int) < 40 := by omega
      clear hc hcs hcell hi40 hi
      go_wp2_with (first
        | (go_at_call 16; refine (alike_is I HT3 (by have := HL'.out; omega)).mono ?_; rintro e w4 ⟨rfl, HB4⟩)
        | (go_at_call 14; refine (does_is I hop (Lib.hid (HT.out.below HB1)) (by have := HL.out; omega) HFK.out.k HFK.out.x (Nat.le_trans HBr.out HB1.size)).mono ?_; rintro e w3 ⟨v', rfl, HT3, HQ3⟩)
        | (go_at_call 15; refine (fit_is hf HCK.out.k.s _).mono ?_; rintro e w1' ⟨rfl, HB1⟩))
      have hT1 := HT.out.below HB1
      have hq : Below w.heap.size w1' w3 := HQ3.out.but.below (Nat.le_trans (Nat.le_trans HBw.out.1 HBr.out) HB1.size) (fun k hk e => by have := (hT1.both_lt e).1; have := HBw.out.1; omega)
      have hB4 : Below w.heap.size w w4 := (HB.out.trans (HB1.mono (Nat.le_trans HBw.out.1 HBr.out))).trans (hq.trans (HB4.mono (Nat.le_trans (Nat.le_trans (Nat.le_trans HBw.out.1 HBr.out) HB1.size) hq.size)))
      refine ⟨⟨i + 1, v', by go_num, by omega, by omega, ?_, hB4, (show _ ≤ _ from Nat.le_trans (Nat.le_trans HBr.out HB1.size) (Nat.le_trans hq.size HB4.size))⟩, by simp [intOf]; omega⟩
      rw [HSUC.out]
      exact HT3.out.below HB4
    · by_cases hin : i < n
      · have hi4' : ¬ (i : Int) < 40 := by omega
        have hin' : (i : Int) < (n : Int) := by omega
        go_wp2_with fail
        go_ret
        exact ⟨rfl, HB.out⟩
      · have hin' : ¬ (i : Int) < (n : Int) := by omega
        go_wp2_with fail
        go_ret
        exact ⟨rfl, HB.out⟩
end lawDictPlays
end Go.Proofs.Ytaghkidelbepnaa
