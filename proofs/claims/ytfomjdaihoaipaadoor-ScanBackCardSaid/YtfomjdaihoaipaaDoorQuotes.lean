/-
  Any text, quoted, is one token, and is unquoted to what it was: the walk of the statement ScanQuotes.
-/
import Derived.Test.YtfomjdaihoaipaaDoorNames
import Derived.Test.YtfomjdaihoaipaaDoorR
set_option linter.unusedVariables false
set_option linter.unusedSimpArgs false
namespace Go.Proofs.YtfomjdaihoaipaaDoor
open Go.RowKit Go.Shelf

theorem quote_is {s q : ByteArray} (h : Hid ((⟨(Sp.quote s.data.toList).toArray⟩ : ByteArray) = q)) (hs : s.size ≤ 1000000) (w : World) : Calls Tryd.prog 26 #[.string s] w fun e w' => e = .returned (.string q) ∧ Below w.heap.size w w' := by
  rw [← h.out]; exact quote_any s w hs
theorem unquote_some {s t : ByteArray} (h : Hid (Sp.unq s.data.toList = some t.data.toList)) (hs : s.size ≤ 60000) (w : World) (hE : Env w) : Calls Tryd.prog 19 #[.string s] w fun e w' => e = .returned (.tuple #[.string t, .bool true]) ∧ Below w.heap.size w w' := by
  refine (unquote_any s hs w hE).mono ?_
  rintro e w' ⟨h1, h2⟩
  rw [h.out] at h1
  refine ⟨?_, h2⟩
  rw [show e = Ending.returned (.tuple #[.string ⟨t.data.toList.toArray⟩, .bool true]) from h1, toArray_data]
theorem unquote_none {s : ByteArray} (h : Hid (Sp.unq s.data.toList = none)) (hs : s.size ≤ 60000) (w : World) (hE : Env w) : Calls Tryd.prog 19 #[.string s] w fun e w' => e = .returned (.tuple #[.string ⟨#[]⟩, .bool false]) ∧ Below w.heap.size w w' := by
  refine (unquote_any s hs w hE).mono ?_
  rintro e w' ⟨h1, h2⟩
  rw [h.out] at h1
  exact ⟨h1, h2⟩

namespace lawQuotes
set_option maxHeartbeats 8000000 in
set_option maxRecDepth 100000 in
theorem walk (s : ByteArray) (c : UInt8) (hs : s.size ≤ maxLen) (w : World) (hE : Env w) : Calls Tryd.prog 5 #[.string s, .int .u8 (c.toNat : Int)] w fun e w' => e = .returned (.bool true) ∧ Below w.heap.size w w' := by
  have hc0 := c.toNat_lt
  obtain ⟨f, HF⟩ := hid_ex (s.extract 0 (min s.size 100))
  have hf : f.size ≤ 100 := by rw [← HF.out]; simp [ByteArray.size_extract]; omega
  obtain ⟨q, HQ⟩ := hid_ex (⟨(Sp.quote f.data.toList).toArray⟩ : ByteArray)
  have hql : q.data.toList = Sp.quote f.data.toList := by rw [← HQ.out]
  have hfl : f.data.toList.length ≤ 65536 := by rw [size_list]; omega
  have hb := Sp.quote_bounds f.data.toList
  rw [← hql, size_list, size_list] at hb
  obtain ⟨hb1, hb2, hb3⟩ := hb
  have U1 : Hid (Sp.unq q.data.toList = some f.data.toList) := by show _ = _; rw [hql]; exact Sp.unq_quote _ hfl
  have UK : Hid (∀ k, k < q.size → Sp.unq (q.extract 0 k).data.toList = none) := by
    intro k hk
    rw [extract_list, List.drop_zero, Nat.sub_zero, hql]
    exact Sp.unq_quote_cut _ k (by rw [← hql, size_list]; exact hk)
  have UB : Hid (∀ k (hk : k < q.size), 32 ≤ (q[k]'hk).toNat ∧ (q[k]'hk).toNat ≤ 126) := by
    intro k hk
    refine hb3 _ ?_
    have : q[k] = q.data.toList[k]'(by rw [size_list]; exact hk) := rfl
    rw [this]
    exact List.getElem_mem _
  obtain ⟨qc, HC⟩ := hid_ex (q ++ ⟨#[c]⟩)
  have UC : Hid (Sp.unq qc.data.toList = none) := by
    show _ = _
    have : qc.data.toList = q.data.toList ++ [c] := by rw [← HC.out]; simp
    rw [this, hql]
    exact Sp.unq_quote_more _ c
  have hqc : qc.size ≤ 1000 := by rw [← HC.out]; simp [ByteArray.size_append]; show q.size + 1 ≤ _; omega
  have HX : Hid (kindOf (Sp.lex q.data.toList) = .ok (.inr (0, ⟨3, f.data.toList, 0, q.size⟩))) := by
    show _ = _
    rw [hql, Sp.lex_quote _ hfl, ← hql, size_list]
    rfl
  have hcmp := fun wx => eql_tok wx 3 (wrap64 (0 + ((0 : Nat) : Int))) 0 3 0 0 f f true (by simp [wrap64])
  have HCMP := Lib.hid hcmp
  clear hql hfl hb3 hcmp
  go_enter Tryd.func5, Tryd.ntmps5
  go_wp2_with fail
  refine (shown_any w hE).mono ?_
  rintro e w1 ⟨rfl, hb1'⟩
  go_wp2_with fail
  refine (few_any s w1 hs).mono ?_
  rintro e w1' ⟨rfl, rfl⟩
  rw [HF.out]
  go_wp2_with fail
  refine (quote_is HQ (by omega) w1).mono ?_
  rintro e w2 ⟨rfl, hb2'⟩
  have hbel2 := hb1'.trans (hb2'.mono hb1'.size)
  have hE2 := hE.below hbel2 hE.size
  clear hb1' hb2'
  go_wp2_with fail
  refine (unquote_some U1 (by omega) w2 hE2).mono ?_
  rintro e w3 ⟨rfl, hb3'⟩
  have hbel3 := hbel2.trans (hb3'.mono hbel2.size)
  have hE3 := hE.below hbel3 hE.size
  clear hbel2 hE2 hb3'
  go_wp2_with fail
  refine (line_kind HX (by omega) 0 w3 hE3).mono ?_
  rintro e w4 ⟨⟨g, cap, hg, hg2, rfl, a0, a1, a2, a3⟩, hb4'⟩
  have hbel4 := hbel3.trans (hb4'.mono hbel3.size)
  clear hbel3 hE3 hb4'
  have e1 : (⟨(⟨3, f.data.toList, 0, q.size⟩ : Sp.Tk).text.toArray⟩ : ByteArray) = f := toArray_data f
  rw [e1] at a2
  simp only at a0 a1 a3
  have A0 := Lib.hid a0
  have A1 := Lib.hid a1
  have A2 := Lib.hid a2
  have A3 := Lib.hid a3
  clear a0 a1 a2 a3 e1
  go_wp2_with fail
  go_loopw [13] (fun i wr => ∃ k : Nat, i = .int .i64 k ∧ k ≤ q.size ∧ Below w4.heap.size w4 wr) (fun i wr => q.size - (intOf i).toNat)
  case atStart => exact ⟨0, rfl, Nat.zero_le _, Below.refl _ _⟩
  case round =>
    obtain ⟨k, rfl, hk, hbr⟩ := hrel
    have hbelr := hbel4.trans (hbr.mono hbel4.size)
    have hEr := hE.below hbelr hE.size
    by_cases hlt : k < q.size
    · obtain ⟨ub1, ub2⟩ := UB.out k hlt
      have UN : Hid (Sp.unq (q.extract 0 k).data.toList = none) := UK.out k hlt
      have hex : (q.extract 0 k).size ≤ 60000 := by simp [ByteArray.size_extract]; omega
      go_wp2_with fail
      refine (unquote_none UN hex wr hEr).mono ?_
      rintro e w5 ⟨rfl, hb5⟩
      have hb5' := hbr.trans (hb5.mono hbr.size)
      clear hb5
      go_wp2_with fail
      go_roundw
      case rel => exact ⟨k + 1, by go_num, by omega, hb5'⟩
      case measure => simp [intOf]; omega
    · have hbs := lawNames.byte_str c wr
      go_wp2_with fail
      rw [HC.out]
      have hbel5 : Below w.heap.size w (wr.alloc (Obj.cells #[.int .u8 (c.toNat : Int)] 5)) := hbelr.alloc hbelr.size _
      have hE5 := hE.below hbel5 hE.size
      refine (unquote_none UC (by omega) _ hE5).mono ?_
      rintro e w6 ⟨rfl, hb6⟩
      have hbr6 : Below w4.heap.size w4 w6 := (hbr.alloc hbr.size _).trans (hb6.mono (by have := hbr.size; simp; omega))
      have hbel6 := hbel4.trans (hbr6.mono hbel4.size)
      have a0 := (hbr6.cell (p := ⟨g, 0, none⟩) hg).trans A0.out
      have a1 := (hbr6.cell (p := ⟨g, 1, none⟩) hg).trans A1.out
      have a2 := (hbr6.cell (p := ⟨g, 2, none⟩) hg).trans A2.out
      have a3 := (hbr6.cell (p := ⟨g, 3, none⟩) hg).trans A3.out
      have hcmp := HCMP.out
      generalize wrap64 (0 + ((0 : Nat) : Int)) = z at a1 hcmp
      clear hb6 hbs hbel5 hE5 A0 A1 A2 A3 HCMP hbelr hEr
      go_wp2_with fail
      go_ret
      exact ⟨rfl, hbel6⟩
end lawQuotes
end Go.Proofs.YtfomjdaihoaipaaDoor
