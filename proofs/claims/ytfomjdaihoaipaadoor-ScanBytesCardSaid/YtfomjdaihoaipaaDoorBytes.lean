/-
  A byte with which no token begins is told, where it stands: the walk of the statement ScanBytes.
-/
import Derived.Test.YtfomjdaihoaipaaDoorQuotes
import Derived.Deep.DeepCutAuto
import Derived.Deep.RegionWith
import Derived.IntWalk
set_option linter.unusedVariables false
set_option linter.unusedSimpArgs false
namespace Go.Proofs.YtfomjdaihoaipaaDoor
open Go.RowKit Go.Shelf

namespace Sp
/-- The bytes with which no token begins. -/
def odd (c : UInt8) : Bool := decide (c.toNat < 32) || decide (126 < c.toNat) || ([36, 38, 59, 63, 64, 94, 96, 124, 126, 92].contains c.toNat)
theorem odd_tok (c : UInt8) (r : Bs) (h : odd c = true) : tok1 (c :: r) = .error 10 := by
  have hc := c.toNat_lt
  have key : ¬ (c.toNat = 39 ∨ c.toNat = 34) ∧ isDig c = false ∧ isWd c = false ∧ (opsL.all fun o => !(o.head? == some c)) = true := by
    have : ∀ n : Fin 256, odd (UInt8.ofNat n.val) = true → ¬ ((UInt8.ofNat n.val).toNat = 39 ∨ (UInt8.ofNat n.val).toNat = 34) ∧ isDig (UInt8.ofNat n.val) = false ∧ isWd (UInt8.ofNat n.val) = false ∧ (opsL.all fun o => !(o.head? == some (UInt8.ofNat n.val))) = true := by decide +kernel
    have h1 := this ⟨c.toNat, hc⟩
    simp only [UInt8.ofNat_toNat] at h1
    exact h1 h
  obtain ⟨h1, h2, h3, h4⟩ := key
  rw [tok1, if_neg h1, h2, h3]
  simp only [Bool.false_eq_true, if_false]
  unfold tokOp opsFrom
  have : opsL.find? (fun o => o.isPrefixOf (c :: r)) = none := by
    rw [List.find?_eq_none]
    intro o ho hp
    rw [List.all_eq_true] at h4
    have h5 := h4 o ho
    cases o with
    | nil => have : ∀ x ∈ opsL, x ≠ [] := by decide
             exact this [] ho rfl
    | cons d o =>
      simp only [List.isPrefixOf, Bool.and_eq_true] at hp
      have : d = c := by simpa using hp.1
      subst this
      simp at h5
  rw [List.drop_zero, this]
theorem odd_32 {c : UInt8} (h : odd c = true) : ¬ c.toNat = 32 ∧ ¬ c.toNat = 35 := by
  unfold odd at h
  constructor
  · intro e; rw [e] at h; revert h; decide
  · intro e; rw [e] at h; revert h; decide
theorem lex_odd (c : UInt8) (r : Bs) (h : odd c = true) : lex (97 :: 32 :: c :: r) = .error (2, 10) := by
  have h1 : tok1 (97 :: 32 :: c :: r) = .ok ⟨1, [97], 0, 1⟩ := rfl
  unfold lex
  rw [lexAt_tok 0 97 _ (by decide) (by decide) _ h1]
  show ahead _ (lexAt 1 (32 :: c :: r)) = _
  rw [lexAt_blank 1 32 _ (by decide), lexAt_err 2 c r (odd_32 h).1 (odd_32 h).2 10 (odd_tok c r h)]
  rfl
theorem lex_low (c : UInt8) (h : c.toNat < 32) : lex [97, 32, 39, 120, c, 120, 39] = .error (2, 12) := by
  have h1 : tok1 [97, 32, 39, 120, c, 120, 39] = .ok ⟨1, [97], 0, 1⟩ := rfl
  have h2 : tok1 [39, 120, c, 120, 39] = .error 12 := by
    rw [tok1, if_pos (by decide)]
    unfold tokStr
    rw [strAt_cons, if_neg (by decide), if_neg (by decide), if_neg (by decide), strAt_cons, if_neg (by intro e; rw [e] at h; revert h; decide), if_pos h]
    rfl
  unfold lex
  rw [lexAt_tok 0 97 _ (by decide) (by decide) _ h1]
  show ahead _ (lexAt 1 [32, 39, 120, c, 120, 39]) = _
  rw [lexAt_blank 1 32 _ (by decide), lexAt_err 2 39 _ (by decide) (by decide) 12 h2]
  rfl
end Sp

namespace lawBytes
theorem byte_str_d (c : UInt8) (w : World) : (convert 33 9 (.slice (some ⟨w.heap.size, 0, none⟩) 1 1)).run Tryd.prog (w.alloc (Obj.cells #[.int .u8 (c.toNat : Int)] 5)).drew = .ok (.string ⟨#[c]⟩) (w.alloc (Obj.cells #[.int .u8 (c.toNat : Int)] 5)).drew := by
  have h := run_convert_bytes_back (P := Tryd.prog) (w.alloc (Obj.cells #[.int .u8 (c.toNat : Int)] 5)).drew 33 9 5 ⟨w.heap.size, 0, none⟩ 1 [c] Tryd.underlying33 Tryd.underlying5 Tryd.underlying9
  exact h (by
    intro j hj
    have hj0 : j = 0 := by simp at hj; exact hj
    subst hj0
    simp [Addr.add])
set_option maxHeartbeats 16000000 in
set_option maxRecDepth 100000 in
theorem walk (c : UInt8) (s : ByteArray) (at_ : Int) (hs : s.size ≤ maxLen) (w : World) (hE : Env w) : Calls Tryd.prog 13 #[.int .u8 (c.toNat : Int), .string s, .int .i64 at_] w fun e w' => e = .returned (.bool true) ∧ Below w.heap.size w w' := by
  have hc0 := c.toNat_lt
  obtain ⟨f, HF⟩ := hid_ex (s.extract 0 (min s.size 100))
  have hf : f.size ≤ 100 := by rw [← HF.out]; simp [ByteArray.size_extract]; omega
  have HFEW : Hid (∀ w, Calls Tryd.prog 17 #[.string s] w fun e w' => e = .returned (.string f) ∧ w = w') := by
    intro w
    rw [← HF.out]
    exact few_any s w hs
  obtain ⟨od, HOD⟩ := hid_ex (Sp.odd c)
  clear HF
  go_enter Tryd.func13, Tryd.ntmps13
  go_wp2_with fail
  refine (shown_any w hE).mono ?_
  rintro e w1 ⟨rfl, hb1⟩
  go_upto_region 2 with (fail)
  go_cut [8] (fun v8 wx => v8 = .bool od ∧ wx = w1)
  case first =>
    by_cases h1 : c.toNat < 32
    · have HB : Hid (od = true) := by show _ = _; rw [← HOD.out]; simp [Sp.odd, h1]
      clear HOD HFEW
      go_wp2_with fail
      all_goals (go_meet; exact ⟨by rw [HB.out], rfl⟩)
    by_cases h2 : 126 < c.toNat
    · have HB : Hid (od = true) := by show _ = _; rw [← HOD.out]; simp [Sp.odd, h2]
      clear HOD HFEW
      go_wp2_with fail
      all_goals (go_meet; exact ⟨by rw [HB.out], rfl⟩)
    by_cases k36 : c.toNat = 36
    · have g36 : ((c.toNat : Int) == 36) = true := by simp; omega
      have HB : Hid (od = true) := by show _ = _; rw [← HOD.out]; simp [Sp.odd, k36]
      clear HOD HFEW
      go_wp2_with fail
      all_goals (go_meet; exact ⟨by rw [HB.out], rfl⟩)
    have g36 : ((c.toNat : Int) == 36) = false := by simp; omega
    by_cases k38 : c.toNat = 38
    · have g38 : ((c.toNat : Int) == 38) = true := by simp; omega
      have HB : Hid (od = true) := by show _ = _; rw [← HOD.out]; simp [Sp.odd, k38]
      clear HOD HFEW
      go_wp2_with fail
      all_goals (go_meet; exact ⟨by rw [HB.out], rfl⟩)
    have g38 : ((c.toNat : Int) == 38) = false := by simp; omega
    by_cases k59 : c.toNat = 59
    · have g59 : ((c.toNat : Int) == 59) = true := by simp; omega
      have HB : Hid (od = true) := by show _ = _; rw [← HOD.out]; simp [Sp.odd, k59]
      clear HOD HFEW
      go_wp2_with fail
      all_goals (go_meet; exact ⟨by rw [HB.out], rfl⟩)
    have g59 : ((c.toNat : Int) == 59) = false := by simp; omega
    by_cases k63 : c.toNat = 63
    · have g63 : ((c.toNat : Int) == 63) = true := by simp; omega
      have HB : Hid (od = true) := by show _ = _; rw [← HOD.out]; simp [Sp.odd, k63]
      clear HOD HFEW
      go_wp2_with fail
      all_goals (go_meet; exact ⟨by rw [HB.out], rfl⟩)
    have g63 : ((c.toNat : Int) == 63) = false := by simp; omega
    by_cases k64 : c.toNat = 64
    · have g64 : ((c.toNat : Int) == 64) = true := by simp; omega
      have HB : Hid (od = true) := by show _ = _; rw [← HOD.out]; simp [Sp.odd, k64]
      clear HOD HFEW
      go_wp2_with fail
      all_goals (go_meet; exact ⟨by rw [HB.out], rfl⟩)
    have g64 : ((c.toNat : Int) == 64) = false := by simp; omega
    by_cases k94 : c.toNat = 94
    · have g94 : ((c.toNat : Int) == 94) = true := by simp; omega
      have HB : Hid (od = true) := by show _ = _; rw [← HOD.out]; simp [Sp.odd, k94]
      clear HOD HFEW
      go_wp2_with fail
      all_goals (go_meet; exact ⟨by rw [HB.out], rfl⟩)
    have g94 : ((c.toNat : Int) == 94) = false := by simp; omega
    by_cases k96 : c.toNat = 96
    · have g96 : ((c.toNat : Int) == 96) = true := by simp; omega
      have HB : Hid (od = true) := by show _ = _; rw [← HOD.out]; simp [Sp.odd, k96]
      clear HOD HFEW
      go_wp2_with fail
      all_goals (go_meet; exact ⟨by rw [HB.out], rfl⟩)
    have g96 : ((c.toNat : Int) == 96) = false := by simp; omega
    by_cases k124 : c.toNat = 124
    · have g124 : ((c.toNat : Int) == 124) = true := by simp; omega
      have HB : Hid (od = true) := by show _ = _; rw [← HOD.out]; simp [Sp.odd, k124]
      clear HOD HFEW
      go_wp2_with fail
      all_goals (go_meet; exact ⟨by rw [HB.out], rfl⟩)
    have g124 : ((c.toNat : Int) == 124) = false := by simp; omega
    by_cases k126 : c.toNat = 126
    · have g126 : ((c.toNat : Int) == 126) = true := by simp; omega
      have HB : Hid (od = true) := by show _ = _; rw [← HOD.out]; simp [Sp.odd, k126]
      clear HOD HFEW
      go_wp2_with fail
      all_goals (go_meet; exact ⟨by rw [HB.out], rfl⟩)
    have g126 : ((c.toNat : Int) == 126) = false := by simp; omega
    by_cases k92 : c.toNat = 92
    · have g92 : ((c.toNat : Int) == 92) = true := by simp; omega
      have HB : Hid (od = true) := by show _ = _; rw [← HOD.out]; simp [Sp.odd, k92]
      clear HOD HFEW
      go_wp2_with fail
      all_goals (go_meet; exact ⟨by rw [HB.out], rfl⟩)
    have g92 : ((c.toNat : Int) == 92) = false := by simp; omega
    have HB : Hid (od = false) := by show _ = _; rw [← HOD.out]; simp [Sp.odd, k36, k38, k59, k63, k64, k94, k96, k124, k126, k92]; omega
    clear HOD HFEW
    go_wp2_with fail
    all_goals (go_meet; exact ⟨by rw [HB.out]; simp; omega, rfl⟩)
  case rest =>
    obtain ⟨rfl, hw⟩ := hcut
    subst hw
    have hE1 := hE.below hb1 hE.size
    have hbs := fun w => lawNames.byte_str c w
    have HBS := Lib.hid hbs
    clear hbs
    have HL : Hid (∀ W, Below w.heap.size w W → Calls Tryd.prog 16 #[.string ((⟨#[97, 32]⟩ : ByteArray) ++ (⟨#[c]⟩ : ByteArray) ++ (⟨#[32]⟩ : ByteArray) ++ f), .int .i64 at_] W fun e w' => ∃ v9 v10 v11, e = .returned (.tuple #[v9, v10, v11]) ∧ (od = true → v9 = .slice none 0 0 ∧ v10 = .int .i64 (wrap64 (at_ + 2)) ∧ v11 = .int .i64 10) ∧ Below w.heap.size w w') := by
      intro W hW
      have hgl : ((⟨#[97, 32]⟩ : ByteArray) ++ (⟨#[c]⟩ : ByteArray) ++ (⟨#[32]⟩ : ByteArray) ++ f).data.toList = 97 :: 32 :: c :: 32 :: f.data.toList := by simp
      have hgs : ((⟨#[97, 32]⟩ : ByteArray) ++ (⟨#[c]⟩ : ByteArray) ++ (⟨#[32]⟩ : ByteArray) ++ f).size = f.size + 4 := by rw [← size_list, hgl]; simp [size_list]
      refine (line_any _ (by omega) at_ W (hE.below hW hE.size)).mono ?_
      rintro e w' ⟨hl, hb⟩
      have hb' := hW.trans (hb.mono hW.size)
      rw [hgl] at hl
      by_cases hod : od = true
      · have hoc : Sp.odd c = true := by rw [HOD.out]; exact hod
        rw [Sp.lex_odd c _ hoc] at hl
        exact ⟨_, _, _, hl, fun _ => ⟨rfl, rfl, rfl⟩, hb'⟩
      · obtain ⟨v9, v10, v11, he, _⟩ := kind_tuple (kind_of hl)
        exact ⟨v9, v10, v11, he, fun h => absurd h hod, hb'⟩
    have HM : Hid (∀ W, Below w.heap.size w W → Calls Tryd.prog 16 #[.string ((⟨#[97, 32, 39, 120]⟩ : ByteArray) ++ (⟨#[c]⟩ : ByteArray) ++ (⟨#[120, 39]⟩ : ByteArray)), .int .i64 at_] W fun e w' => ∃ v12 v13 v14, e = .returned (.tuple #[v12, v13, v14]) ∧ (c.toNat < 32 → v13 = .int .i64 (wrap64 (at_ + 2)) ∧ v14 = .int .i64 12) ∧ Below w.heap.size w w') := by
      intro W hW
      have hgl : ((⟨#[97, 32, 39, 120]⟩ : ByteArray) ++ (⟨#[c]⟩ : ByteArray) ++ (⟨#[120, 39]⟩ : ByteArray)).data.toList = [97, 32, 39, 120, c, 120, 39] := by simp
      have hgs : ((⟨#[97, 32, 39, 120]⟩ : ByteArray) ++ (⟨#[c]⟩ : ByteArray) ++ (⟨#[120, 39]⟩ : ByteArray)).size = 7 := by rw [← size_list, hgl]; simp
      refine (line_any _ (by omega) at_ W (hE.below hW hE.size)).mono ?_
      rintro e w' ⟨hl, hb⟩
      have hb' := hW.trans (hb.mono hW.size)
      rw [hgl] at hl
      by_cases hlow : c.toNat < 32
      · rw [Sp.lex_low c hlow] at hl
        exact ⟨_, _, _, hl, fun _ => ⟨rfl, rfl⟩, hb'⟩
      · obtain ⟨v9, v10, v11, he, _⟩ := kind_tuple (kind_of hl)
        exact ⟨v9, v10, v11, he, fun h => absurd h hlow, hb'⟩
    have L1 : Hid (Sp.lex (⟨#[47, 32, 49]⟩ : ByteArray).data.toList = .error (0, 10)) := by show _ = _; kernel_rfl
    have L2 : Hid (Sp.lex (⟨#[33, 32, 49]⟩ : ByteArray).data.toList = .error (0, 10)) := by show _ = _; kernel_rfl
    have LL1 : Hid (∀ W, Env W → Calls Tryd.prog 16 #[.string (⟨#[47, 32, 49]⟩ : ByteArray), .int .i64 at_] W fun e w' => e = .returned (.tuple #[.slice none 0 0, .int .i64 (wrap64 (at_ + ((0 : Nat) : Int))), .int .i64 10]) ∧ Below W.heap.size W w') := fun W hW => line_is L1 (by decide) at_ W hW
    have LL2 : Hid (∀ W, Env W → Calls Tryd.prog 16 #[.string (⟨#[33, 32, 49]⟩ : ByteArray), .int .i64 at_] W fun e w' => e = .returned (.tuple #[.slice none 0 0, .int .i64 (wrap64 (at_ + ((0 : Nat) : Int))), .int .i64 10]) ∧ Below W.heap.size W w') := fun W hW => line_is L2 (by decide) at_ W hW
    clear L1 L2
    go_upto_region 3 with (fail)
    go_cut [9, 10, 11] (fun v9 v10 v11 wx => (od = true → v9 = .slice none 0 0 ∧ v10 = .int .i64 (wrap64 (at_ + 2)) ∧ v11 = .int .i64 10) ∧ Below w.heap.size w wx)
    case first =>
      have hbs := HBS.out
      have hbd := fun w => byte_str_d c w
      clear HBS LL1 LL2 HM HOD
      go_region_with (first
        | (go_at_call 17; refine (HFEW.out _).mono ?_; rintro e w1' ⟨rfl, rfl⟩)
        | (go_at_call 16; refine (HL.out _ (below_drewN (hb1.alloc hb1.size _) 1)).mono ?_; rintro e w5 ⟨v9, v10, v11, rfl, h5, hb5⟩))
      all_goals (go_wp2_with fail; go_meet; exact ⟨h5, hb5⟩)
    case rest =>
      obtain ⟨h5, hb5⟩ := hcut
      have hbs := HBS.out wc
      clear HBS HL HFEW HOD hb1 hE1
      go_wp2_with fail
      refine (HM.out _ (hb5.alloc hb5.size _)).mono ?_
      rintro e w6 ⟨v12, v13, v14, rfl, h6, hb6⟩
      have hE6 := hE.below hb6 hE.size
      clear hbs HM hb5
      go_wp2_with fail
      refine (LL1.out _ hE6).mono ?_
      rintro e w7 ⟨rfl, hb7'⟩
      have hb7 := hb6.trans (hb7'.mono hb6.size)
      have hE7 := hE.below hb7 hE.size
      clear hb6 hE6 hb7' LL1
      go_wp2_with fail
      refine (LL2.out _ hE7).mono ?_
      rintro e w8 ⟨rfl, hb8'⟩
      have hb8 := hb7.trans (hb8'.mono hb7.size)
      clear hb7 hE7 hb8' LL2
      cases od with
      | true =>
        obtain ⟨rfl, rfl, rfl⟩ := h5 rfl
        by_cases hlow : c.toNat < 32
        · obtain ⟨rfl, rfl⟩ := h6 hlow
          clear h5 h6
          go_wp2_with fail
          go_ret
          exact ⟨rfl, hb8⟩
        · clear h5 h6
          go_wp2_with fail
          go_ret
          exact ⟨rfl, hb8⟩
      | false =>
        by_cases hlow : c.toNat < 32
        · obtain ⟨rfl, rfl⟩ := h6 hlow
          clear h5 h6
          go_wp2_with fail
          go_ret
          exact ⟨rfl, hb8⟩
        · clear h5 h6
          go_wp2_with fail
          go_ret
          exact ⟨rfl, hb8⟩
end lawBytes
end Go.Proofs.YtfomjdaihoaipaaDoor
