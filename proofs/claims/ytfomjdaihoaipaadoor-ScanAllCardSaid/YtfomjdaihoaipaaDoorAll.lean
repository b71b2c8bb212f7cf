/-
  All of the layer at once against the document's answer: the walk of the statement ScanAll.
-/
import Derived.Test.YtfomjdaihoaipaaDoorRefG
import Derived.Test.YtfomjdaihoaipaaDoorPlaces
set_option linter.unusedVariables false
set_option linter.unusedSimpArgs false
namespace Go.Proofs.YtfomjdaihoaipaaDoor
open Go.RowKit Go.Shelf

theorem unEnd_value (x : Option Sp.Bs) : ∃ (ub : ByteArray) (bo : Bool), (∀ e, UnEnd x e → e = .returned (.tuple #[.string ub, .bool bo])) ∧ unqV x = .tuple #[.string ub, .bool bo] := by
  cases x with
  | none => exact ⟨⟨#[]⟩, false, fun e h => h, rfl⟩
  | some u => exact ⟨⟨u.toArray⟩, true, fun e h => h, rfl⟩
theorem line_value (x : Except (Nat × Int) (List (Nat × Sp.Tk))) (at_ : Int) (hx : ∀ ts, x = .ok ts → ts.length ≤ 1000000) : ∃ (i er : Int) (l : List T4), l.length ≤ 1000000 ∧ ∀ B e w', LineEnd B at_ x e w' → ∃ v, e = .returned (.tuple #[v, .int .i64 i, .int .i64 er]) ∧ Row4 B v l w' := by
  cases x with
  | error y =>
    obtain ⟨p, er⟩ := y
    refine ⟨wrap64 (at_ + (p : Int)), er, [], Nat.zero_le _, ?_⟩
    intro B e w' h
    exact ⟨_, h, World.ownsRow_nil w' B 36 4⟩
  | ok ts =>
    refine ⟨0, 0, ts.map (abs4 at_), by rw [List.length_map]; exact hx ts rfl, ?_⟩
    rintro B e w' ⟨v, rfl, hr⟩
    exact ⟨v, rfl, hr.row4⟩
theorem rname_is {s : ByteArray} {b : Bool} (h : Hid (Sp.nm s.data.toList = b)) (hs : s.size ≤ 1000000) (w : World) : Calls Tryd.prog 23 #[.string s] w fun e w' => e = .returned (.bool b) ∧ Below w.heap.size w w' := by
  rw [← h.out]; exact rname_any s hs w

theorem same_self (l : List T4) : Hid (decide (l = l) = true) := by show _ = _; simp

namespace lawAll
set_option maxHeartbeats 16000000 in
set_option maxRecDepth 100000 in
theorem walk (s : ByteArray) (at_ : Int) (t : ByteArray) (hs : s.size ≤ maxLen) (ht : t.size ≤ maxLen) (w : World) (hE : Env w) : Calls Tryd.prog 3 #[.string s, .int .i64 at_, .string t] w fun e w' => e = .returned (.bool true) ∧ Below w.heap.size w w' := by
  obtain ⟨f, HF⟩ := hid_ex (s.extract 0 (min s.size 100))
  have hf : f.size ≤ 100 := by rw [← HF.out]; simp [ByteArray.size_extract]; omega
  obtain ⟨g, HG⟩ := hid_ex (t.extract 0 (min t.size 100))
  have hg : g.size ≤ 100 := by rw [← HG.out]; simp [ByteArray.size_extract]; omega
  obtain ⟨X, HX⟩ := hid_ex (Sp.lex f.data.toList)
  obtain ⟨i, er, l, hl, hline⟩ := line_value X at_ (by
    intro ts h
    have := Sp.lex_count (HX.out.trans h)
    rw [size_list] at this
    omega)
  have HLINE := Lib.hid hline
  obtain ⟨ub, bo, hu1, hu2⟩ := unEnd_value (Sp.unq g.data.toList)
  have HU1 := Lib.hid hu1
  have HU2 := Lib.hid hu2
  obtain ⟨bn, HBN⟩ := hid_ex (Sp.nm g.data.toList)
  obtain ⟨bk, HBK⟩ := hid_ex (Sp.kw g.data.toList)
  obtain ⟨q, HQ⟩ := hid_ex (⟨(Sp.quote g.data.toList).toArray⟩ : ByteArray)
  clear hline hu1 hu2
  go_enter Tryd.func3, Tryd.ntmps3
  go_wp2_with fail
  refine (shown_any w hE).mono ?_
  rintro e w1 ⟨rfl, hb1⟩
  have hE1 := hE.below hb1 hE.size
  go_wp2_with fail
  refine (few_any s _ hs).mono ?_
  rintro e w1' ⟨rfl, rfl⟩
  rw [HF.out]
  go_wp2_with fail
  refine (line_is HX (by omega) at_ w1 hE1).mono ?_
  rintro e w2 ⟨hX, hb2'⟩
  obtain ⟨va, rfl, hra⟩ := HLINE.out _ _ _ hX
  have hb2 := hb1.trans (hb2'.mono hb1.size)
  clear hX hb2' hb1 hE1
  go_wp2_with fail
  refine (few_any s _ hs).mono ?_
  rintro e w2' ⟨rfl, rfl⟩
  rw [HF.out]
  go_wp2_with fail
  refine (rline_any f (by omega) at_ w2).mono ?_
  rintro e w3 ⟨hX, hb3'⟩
  rw [HX.out] at hX
  obtain ⟨vb, rfl, hrb⟩ := HLINE.out _ _ _ hX
  have hra3 := hra.below hb3'
  have hb3 := hb2.trans (hb3'.mono hb2.size)
  have hE3 := hE.below hb3 hE.size
  clear hX hb3' hb2 hra HLINE
  go_wp2_with fail
  refine (few_any t _ ht).mono ?_
  rintro e w3' ⟨rfl, rfl⟩
  rw [HG.out]
  go_wp2_with fail
  refine (unquote_any g (by omega) w3 hE3).mono ?_
  rintro e w4 ⟨hU, hb4'⟩
  obtain rfl := HU1.out _ hU
  have hra4 := hra3.below hb4'
  have hrb4 := hrb.below hb4'
  have hb4 := hb3.trans (hb4'.mono hb3.size)
  clear hU hb4' hb3 hE3 hra3 hrb HU1
  go_wp2_with fail
  refine (few_any t _ ht).mono ?_
  rintro e w4' ⟨rfl, rfl⟩
  rw [HG.out]
  go_wp2_with fail
  refine (runquote_any g (by omega) w4).mono ?_
  rintro e w5 ⟨rfl, hb5'⟩
  rw [HU2.out]
  have hra5 := hra4.below hb5'
  have hrb5 := hrb4.below hb5'
  have hb5 := hb4.trans (hb5'.mono hb4.size)
  clear hb5' hb4 hra4 hrb4 HU2
  go_wp2_with fail
  refine (same_is (same_self l) _ _ va vb w5 hra5 hrb5 hl hl).mono ?_
  rintro e w6 ⟨rfl, hb6'⟩
  have hb6 := hb5.trans (hb6'.mono hb5.size)
  clear hb6' hb5 hra5 hrb5
  go_wp2_with fail
  refine (few_any t _ ht).mono ?_
  rintro e w6' ⟨rfl, rfl⟩
  rw [HG.out]
  go_wp2_with fail
  refine (lawNames.name_is HBN (by omega) w6).mono ?_
  rintro e w7 ⟨rfl, hb7'⟩
  have hb7 := hb6.trans (hb7'.mono hb6.size)
  clear hb7' hb6
  go_wp2_with fail
  refine (few_any t _ ht).mono ?_
  rintro e w7' ⟨rfl, rfl⟩
  rw [HG.out]
  go_wp2_with fail
  refine (rname_is HBN (by omega) w7).mono ?_
  rintro e w8 ⟨rfl, hb8'⟩
  have hb8 := hb7.trans (hb8'.mono hb7.size)
  clear hb8' hb7
  go_wp2_with fail
  refine (few_any t _ ht).mono ?_
  rintro e w8' ⟨rfl, rfl⟩
  rw [HG.out]
  go_wp2_with fail
  refine (keyword_is HBK w8).mono ?_
  rintro e w8' ⟨rfl, rfl⟩
  go_wp2_with fail
  refine (few_any t _ ht).mono ?_
  rintro e w8' ⟨rfl, rfl⟩
  rw [HG.out]
  go_wp2_with fail
  refine (rkeyword_is HBK w8).mono ?_
  rintro e w9 ⟨rfl, hb9'⟩
  have hb9 := hb8.trans (hb9'.mono hb8.size)
  clear hb9' hb8
  go_wp2_with fail
  refine (few_any t _ ht).mono ?_
  rintro e w9' ⟨rfl, rfl⟩
  rw [HG.out]
  go_wp2_with fail
  refine (quote_is HQ (by omega) w9).mono ?_
  rintro e w10 ⟨rfl, hb10'⟩
  have hb10 := hb9.trans (hb10'.mono hb9.size)
  clear hb10' hb9
  go_wp2_with fail
  refine (few_any t _ ht).mono ?_
  rintro e w10' ⟨rfl, rfl⟩
  rw [HG.out]
  go_wp2_with fail
  refine (rquote_is HQ (by omega) w10).mono ?_
  rintro e w11 ⟨rfl, hb11'⟩
  have hb11 := hb10.trans (hb11'.mono hb10.size)
  clear hb11' hb10
  go_wp2_with fail
  go_ret
  exact ⟨rfl, hb11⟩
end lawAll
end Go.Proofs.YtfomjdaihoaipaaDoor
