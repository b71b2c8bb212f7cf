/-
  The reference's answers for strings and what is unquoted, at this program.
-/
import Derived.Test.YtbdjccmcdifjcaaGreatDoorRefC
set_option linter.unusedVariables false
set_option linter.unusedSimpArgs false
namespace Go.Proofs.YtbdjccmcdifjcaaGreatDoor
open Go.RowKit Go.Shelf

def strEnd : Option (Sp.Bs × Nat) → Value
  | some (t, n) => .tuple #[.string ⟨t.toArray⟩, .int .i64 ((n + 1 : Nat) : Int), .bool true]
  | none => .tuple #[.string ⟨#[]⟩, .int .i64 0, .bool false]
theorem strEnd_none : strEnd none = .tuple #[.string ⟨#[]⟩, .int .i64 0, .bool false] := rfl
theorem strEnd_some (t : Sp.Bs) (n : Nat) : strEnd (some (t, n)) = .tuple #[.string ⟨t.toArray⟩, .int .i64 ((n : Int) + 1), .bool true] := rfl
theorem own_below {B T n k : Nat} {v : Value} {xs : List Value} {w w' : World} (h : w.ownsRow B T n v k xs) (hb : Below w.heap.size w w') : w'.ownsRow B T n v k xs := by
  refine ⟨h.1, ?_⟩
  rcases h.2 with hn | ⟨g, cap, cur, hv, hbg, hg, rest⟩
  · exact .inl hn
  · exact .inr ⟨g, cap, cur, hv, hbg, (hb.block g (heap_of_some hg)).trans hg, rest⟩
theorem bytes_laid {B : Nat} {v : Value} {l : Sp.Bs} {w : World} (h : w.ownsRow B 5 1 v l.length (Lib.byteCells l)) (hv : v ≠ .slice none 0 0) : ∃ g cap, v = .slice (some ⟨g, 0, none⟩) l.length cap ∧ ∀ j (hj : j < l.length), w.cell? ((⟨g, 0, none⟩ : Addr).add j) = some (.int .u8 (l[j].toNat : Int)) := by
  have hc := fun g hg j u hj => World.ownsRow.cells h (g := g) hg j u hj
  rcases h.2 with ⟨rfl, hn⟩ | ⟨g, cap, cur, rfl, hbg, hg, hcap, _⟩
  · exact absurd rfl hv
  · refine ⟨g, cap, rfl, fun j hj => hc g rfl j _ ?_⟩
    unfold Lib.byteCells
    rw [List.getElem?_map, List.getElem?_eq_getElem hj]
    rfl

set_option maxHeartbeats 4000000 in
set_option maxRecDepth 100000 in
theorem rstr_any (s : ByteArray) (hs : s.size ≤ 60000) (h0 : 0 < s.size) (w : World) : Calls Tryz.prog 48 #[.string s] w fun e w' => e = .returned (strEnd (Sp.strAt s[0] (s.data.toList.drop 1))) ∧ Below w.heap.size w w' := by
  obtain ⟨i0, hi, hz0, hz1, hz2⟩ := info_parts infoByte
  have hb00 := s[0].toNat_lt
  obtain ⟨RS, HR⟩ := hid_ex (Sp.strAt s[0] (s.data.toList.drop 1))
  rw [HR.out]
  go_enter Tryz.func48, Tryz.ntmps48
  go_wp2_with fail
  go_loopw [5, 6] (fun v5 v6 wr => ∃ (pos : Nat) (acc : Sp.Bs), v6 = .int .i64 pos ∧ 1 ≤ pos ∧ pos ≤ s.size ∧ acc.length ≤ pos ∧ Hid (v5 ≠ .slice none 0 0) ∧ wr.ownsRow w.heap.size 5 1 v5 acc.length (Lib.byteCells acc) ∧ Below w.heap.size w wr ∧ Hid (RS = (Sp.strAt s[0] (s.data.toList.drop pos)).map fun x => (acc ++ x.1, x.2 + (pos - 1)))) (fun _ v6 _ => s.size - (intOf v6).toNat)
  case atStart =>
    refine ⟨1, [], rfl, Nat.le_refl _, h0, Nat.zero_le _, ?_, ?_, (Below.refl _ w).alloc (Nat.le_refl _) _, ?_⟩
    · show _ ≠ _; simp
    · refine ⟨rfl, Or.inr ⟨w.heap.size, 0, #[], rfl, Nat.le_refl _, ?_, Nat.le_refl _, ?_, rfl, rfl⟩⟩
      · unfold World.alloc; exact Array.getElem?_push_size
      · unfold maxLen; omega
    · show _ = _
      rw [← HR.out]
      cases Sp.strAt s[0] (s.data.toList.drop 1) <;> simp
  case round =>
    obtain ⟨pos, acc, rfl, hp1, hpos, hal, HNE, hown, hbel, HS⟩ := hrel
    by_cases hlt : pos < s.size
    · have hd := get_drop s pos hlt
      have hc0 := s[pos].toNat_lt
      have hsc := Sp.strAt_cons s[0] s[pos] (s.data.toList.drop (pos + 1))
      rw [← hd] at hsc
      by_cases hcq : s[pos] = s[0]
      · have gq : ((s[pos].toNat : Int) == (s[0].toNat : Int)) = true := by rw [hcq]; simp
        rw [if_pos hcq] at hsc
        have HN : Hid (RS = some (acc, pos)) := by
          show _ = _
          rw [HS.out, hsc]
          simp
          omega
        have gle : (acc.length : Int) ≤ 65536 := by omega
        have gle' : decide ((acc.length : Int) ≤ 65536) = true := by simp; omega
        have gle2 : decide (acc.length ≤ 65536) = true := by simp; omega
        obtain ⟨g, cap, rfl, hcl⟩ := bytes_laid hown HNE.out
        have hconv := run_convert_bytes_back (P := Tryz.prog) wr 86 9 5 ⟨g, 0, none⟩ cap acc Tryz.underlying86 Tryz.underlying5 Tryz.underlying9 hcl
        clear hsc hcq hd HS hown HNE hcl
        go_wp2_with fail
        go_ret3
        refine ⟨?_, hbel⟩
        rw [HN.out, strEnd_some]
        simp [gle']
      · have gq : ((s[pos].toNat : Int) == (s[0].toNat : Int)) = false := by
          rw [Bool.eq_false_iff]
          intro h
          apply hcq
          apply UInt8.toNat_inj.1
          have := eq_of_beq h
          omega
        rw [if_neg hcq] at hsc
        by_cases h32 : s[pos].toNat < 32
        · rw [if_pos h32] at hsc
          have HN : Hid (RS = none) := by
            show _ = _
            rw [HS.out, hsc]
            rfl
          clear hsc hcq hd HS hown HNE
          go_wp2_with fail
          go_ret3
          refine ⟨?_, hbel⟩
          rw [HN.out]
          rfl
        · rw [if_neg h32] at hsc
          have hz1' : w.heap.size ≤ wr.heap.size := hbel.size
          by_cases h92 : s[pos].toNat = 92
          · have g92 : ((s[pos].toNat : Int) != 92) = false := by simp; omega
            rw [if_pos h92] at hsc
            have hxl : (s.extract (pos + 1) s.size).data.toList = s.data.toList.drop (pos + 1) := Lib.extract_to_end s (pos + 1)
            have hxs : (s.extract (pos + 1) s.size).size ≤ 1000000 := by simp [ByteArray.size_extract]; omega
            cases he : Sp.esc (s.data.toList.drop (pos + 1)) with
            | none =>
              rw [he] at hsc
              have HN : Hid (RS = none) := by
                show _ = _
                rw [HS.out, hsc]
                rfl
              have HE : Hid (escB (s.extract (pos + 1) s.size).data.toList = 0 ∧ escN (s.extract (pos + 1) s.size).data.toList = 0) := by rw [hxl]; exact esc_none he
              clear hsc hcq hd HS hown HNE hxl he h92
              go_wp2_with fail
              refine (rescape_is HE hxs _).mono ?_
              rintro e w1 ⟨rfl, q, rfl⟩
              go_wp2_with fail
              go_ret3
              refine ⟨?_, below_drewN hbel q⟩
              rw [HN.out]
              rfl
            | some x =>
              obtain ⟨b, k⟩ := x
              rw [he] at hsc
              simp only at hsc
              have hk := Sp.esc_len he
              rw [List.length_drop, size_list] at hk
              obtain ⟨hk1, hk2, hk3⟩ := hk
              rw [List.drop_drop] at hsc
              have hbb := b.toNat_lt
              have HE : Hid (escB (s.extract (pos + 1) s.size).data.toList = (b.toNat : Int) ∧ escN (s.extract (pos + 1) s.size).data.toList = k) := by rw [hxl]; exact esc_some he
              have gk : ((k : Int) == 0) = false := by simp; omega
              have HN : Hid (RS = (Sp.strAt s[0] (s.data.toList.drop (pos + 1 + k))).map fun x => ((acc ++ [b]) ++ x.1, x.2 + (pos + 1 + k - 1))) := by
                show _ = _
                rw [HS.out, hsc]
                cases Sp.strAt s[0] (s.data.toList.drop (pos + 1 + k)) with
                | none => rfl
                | some y => simp; omega
              clear hsc hcq hd HS hxl he h92
              go_wp2_with fail
              refine (rescape_is HE hxs _).mono ?_
              rintro e w1 ⟨rfl, q, hw1⟩
              have hbel1 : Below w.heap.size w w1 := by rw [hw1]; exact below_drewN hbel q
              have hown1 := own_below hown (show Below wr.heap.size wr w1 by rw [hw1]; exact below_drewN (Below.refl _ _) q)
              have hz1'' : w.heap.size ≤ w1.heap.size := hbel1.size
              clear hw1 hown hbel hz1'
              go_wp2_with (at_builtin; refine wpList_append_own _ rfl _ _ 86 rfl w.heap.size 5 i0 (.int .u8 0) 1 1 Tryz.underlying86 hi hz0 hz1 hz2 rfl (by decide) _ _ _ rfl (hown1.alloc _) ⟨w1.heap.size, 0, none⟩ 1 1 [.int .u8 (b.toNat : Int)] rfl rfl ?c1 ?c2 ?c3 ?c4 ?c5 ?_)
              case c1 =>
                intro j u hj
                match j, hj with
                | 0, hj => simp at hj; subst hj; simp [Addr.add]
              case c2 => intro u hu; simp at hu; subst hu; rfl
              case c3 => unfold maxLen; omega
              case c4 => omega
              case c5 => simp; omega
              intro v' w2 hown' hgrow hnil
              have HNE' : Hid (v' ≠ .slice none 0 0) := by first | exact hnil | (intro e; have := (hnil.1 e).2; cases this)
              have hbel2 : Below w.heap.size w w2 := (hbel1.alloc hz1'' _).grown hgrow (by simp; omega) (fun k hk => (hown1.lt k hk).1)
              have hown2 : w2.ownsRow w.heap.size 5 1 v' (acc ++ [b]).length (Lib.byteCells (acc ++ [b])) := by
                rw [List.length_append, Lib.byteCells_append]
                exact hown'
              clear hown' hgrow hown1 hbel1 hz1'' HNE hnil
              go_wp2_with fail
              go_roundw
              case rel => exact ⟨pos + 1 + k, acc ++ [b], by go_num, by omega, by omega, by simp; omega, HNE', hown2, hbel2, HN⟩
              case measure => simp [intOf]; omega
          · have g92 : ((s[pos].toNat : Int) != 92) = true := by simp; omega
            rw [if_neg h92] at hsc
            have HN : Hid (RS = (Sp.strAt s[0] (s.data.toList.drop (pos + 1))).map fun x => ((acc ++ [s[pos]]) ++ x.1, x.2 + (pos + 1 - 1))) := by
              show _ = _
              rw [HS.out, hsc]
              cases Sp.strAt s[0] (s.data.toList.drop (pos + 1)) with
              | none => rfl
              | some y => simp; omega
            clear hsc hcq hd HS h92
            go_wp2_with (at_builtin; refine wpList_append_own _ rfl _ _ 86 rfl w.heap.size 5 i0 (.int .u8 0) 1 1 Tryz.underlying86 hi hz0 hz1 hz2 rfl (by decide) _ _ _ rfl (hown.alloc _) ⟨wr.heap.size, 0, none⟩ 1 1 [.int .u8 (s[pos].toNat : Int)] rfl rfl ?c1 ?c2 ?c3 ?c4 ?c5 ?_)
            case c1 =>
              intro j u hj
              match j, hj with
              | 0, hj => simp at hj; subst hj; simp [Addr.add]
            case c2 => intro u hu; simp at hu; subst hu; rfl
            case c3 => unfold maxLen; omega
            case c4 => omega
            case c5 => simp; omega
            intro v' w2 hown' hgrow hnil
            have HNE' : Hid (v' ≠ .slice none 0 0) := by first | exact hnil | (intro e; have := (hnil.1 e).2; cases this)
            have hbel2 : Below w.heap.size w w2 := (hbel.alloc hz1' _).grown hgrow (by simp; omega) (fun k hk => (hown.lt k hk).1)
            have hown2 : w2.ownsRow w.heap.size 5 1 v' (acc ++ [s[pos]]).length (Lib.byteCells (acc ++ [s[pos]])) := by
              rw [List.length_append, Lib.byteCells_append]
              exact hown'
            clear hown' hgrow hown hbel hz1' HNE hnil
            go_wp2_with fail
            go_roundw
            case rel => exact ⟨pos + 1, acc ++ [s[pos]], by go_num, by omega, by omega, by simp; omega, HNE', hown2, hbel2, HN⟩
            case measure => simp [intOf]; omega
    · have HN : Hid (RS = none) := by
        show _ = _
        rw [HS.out, List.drop_of_length_le (by rw [size_list]; omega), Sp.strAt_nil]
        rfl
      clear HS hown HNE
      go_wp2_with fail
      go_ret3
      refine ⟨?_, hbel⟩
      rw [HN.out]
      rfl

theorem rstr_none {s : ByteArray} (h0 : 0 < s.size) (h : Hid (Sp.strAt s[0] (s.data.toList.drop 1) = none)) (hs : s.size ≤ 60000) (w : World) : Calls Tryz.prog 48 #[.string s] w fun e w' => e = .returned (.tuple #[.string ⟨#[]⟩, .int .i64 0, .bool false]) ∧ Below w.heap.size w w' := by
  refine (rstr_any s hs h0 w).mono ?_
  rintro e w' ⟨rfl, hb⟩
  rw [h.out]
  exact ⟨rfl, hb⟩
theorem rstr_some {s tb : ByteArray} {n : Nat} (h0 : 0 < s.size) (h : Hid (Sp.strAt s[0] (s.data.toList.drop 1) = some (tb.data.toList, n))) (hs : s.size ≤ 60000) (w : World) : Calls Tryz.prog 48 #[.string s] w fun e w' => e = .returned (.tuple #[.string tb, .int .i64 ((n : Int) + 1), .bool true]) ∧ Below w.heap.size w w' := by
  refine (rstr_any s hs h0 w).mono ?_
  rintro e w' ⟨rfl, hb⟩
  rw [h.out, strEnd_some, toArray_data]
  exact ⟨rfl, hb⟩

def unqV : Option Sp.Bs → Value
  | some t => .tuple #[.string ⟨t.toArray⟩, .bool true]
  | none => .tuple #[.string ⟨#[]⟩, .bool false]

theorem unqV_some (t : Sp.Bs) : unqV (some t) = .tuple #[.string ⟨t.toArray⟩, .bool true] := rfl
end Go.Proofs.YtbdjccmcdifjcaaGreatDoor
