/-
  For every text: what is told of its first thousand bytes as a source (the tokens, or the first error and its place) is what the document's reference tells: the tied card of LayoutTells. (Ten texts in one file.)
-/
import Derived.Test.YtbdjccmcdifjcaaGreatDoorLay
import Derived.Test.YtbdjccmcdifjcaaGreatDoorFitW
import Derived.Deep.QuietTactic
import Derived.BigQuiet
import Derived.Test.YtbdjccmcdifjcaaGreatDoorRefG
import Derived.Test.YtbdjccmcdifjcaaGreatDoorLain
import Derived.Maps.AppendAt
import Derived.Laws.AppendOwnNone
import Derived.Test.YtbdjccmcdifjcaaGreatDoorLayP
import Derived.Test.YtbdjccmcdifjcaaGreatDoorLayT
import Derived.Deep.DeepCutAuto
import Derived.Deep.CutBlock
import Derived.StillTailTactics
import Derived.Deep.RegionHeld3
import Derived.Deep.AppendLies
import Derived.Test.YtbdjccmcdifjcaaGreatDoorF
import Derived.Below
import Derived.ChangeSame
import Derived.Test.YtbdjccmcdifjcaaGreatDoorCards
import Derived.Test.YtbdjccmcdifjcaaGreatDoorTie
import Derived.SevenTiedAt
/-
  The reference's small answers for a source's layout, at this program.
-/
set_option linter.unusedVariables false
set_option linter.unusedSimpArgs false
namespace Go.Proofs.YtbdjccmcdifjcaaGreatDoor
open Go.RowKit Go.Shelf

set_option maxHeartbeats 4000000 in
theorem kind2_any (k a n : Int) (sb : ByteArray) (w : World) : Calls Tryz.prog 43 #[.agg #[.int .i64 k, .int .i64 a, .string sb, .int .i64 n]] w fun e w' => e = .returned (.int .i64 (Sp.bk (k, a, sb.data.toList, n))) ∧ Below w.heap.size w w' := by
  have hbel0 : Below w.heap.size w (w.alloc (Obj.cells #[.int .i64 k, .int .i64 a, .string sb, .int .i64 n] 37)) := (Below.refl _ w).alloc (Nat.le_refl _) _
  go_enter Tryz.func43, Tryz.ntmps43
  go_wp2_with fail
  all_goals
    go_ret
    refine ⟨ret_int ?_, hbel0⟩
    simp only [Sp.bk]
    simp_all [Sp.toList_data]

theorem mark2_any (k a : Int) (w : World) : Calls Tryz.prog 27 #[.int .i64 k, .int .i64 a] w fun e w' => e = .returned (.agg #[.int .i64 k, .int .i64 a, .string ⟨#[]⟩, .int .i64 0]) ∧ Below w.heap.size w w' := by
  go_enter Tryz.func27, Tryz.ntmps27
  go_wp2
  refine bodyPost_ret (v := .agg #[.int .i64 k, .int .i64 a, .string ⟨#[]⟩, .int .i64 0]) (by simp [results, Tryz.results27, go_sem]) rfl ⟨rfl, ?_⟩
  exact (Below.refl _ w).alloc (Nat.le_refl _) _

set_option maxHeartbeats 2000000 in
theorem blanks2_any (n : Nat) (hn : n ≤ 1000000) (w : World) : Calls Tryz.prog 15 #[.int .i64 (n : Int)] w fun e w' => e = .returned (.string ⟨(List.replicate n 32).toArray⟩) ∧ w = w' := by
  go_enter Tryz.func15, Tryz.ntmps15
  go_wp2_with fail
  go_loop [3, 4] (fun v3 v4 => ∃ (k : Nat) (b : ByteArray), v3 = .string b ∧ v4 = .int .i64 k ∧ k ≤ n ∧ b.size = k ∧ Hid (b.data.toList = List.replicate k 32)) (fun _ v4 => n - (intOf v4).toNat)
  case atStart => exact ⟨0, ⟨#[]⟩, rfl, rfl, Nat.zero_le _, rfl, rfl⟩
  case round =>
    obtain ⟨k, b, rfl, rfl, hk, hb, HB⟩ := hrel
    by_cases hlt : k < n
    · have HN : Hid ((b ++ (⟨#[32]⟩ : ByteArray)).data.toList = List.replicate (k + 1) 32) := by
        show _ = _
        rw [List.replicate_succ']
        simp [HB.out]
      have hsz : (b ++ (⟨#[32]⟩ : ByteArray)).size = k + 1 := by
        rw [ByteArray.size_append]
        show b.size + 1 = k + 1
        omega
      clear HB
      go_wp2_with fail
      exact ⟨⟨k + 1, _, rfl, by go_num, by omega, hsz, HN⟩, by simp [intOf]; omega⟩
    · have HN : Hid ((⟨(List.replicate n 32).toArray⟩ : ByteArray) = b) := by
        show _ = _
        have : k = n := by omega
        rw [← this, ← HB.out, toArray_data]
      clear HB
      go_wp2_with fail
      go_ret
      exact ⟨ret_str HN.out.symm, rfl⟩

set_option maxHeartbeats 2000000 in
theorem same2_any (B B' : Nat) (va vb : Value) (l m : List T4) (w : World) (ha : Row4 B va l w) (hb : Row4 B' vb m w) (hl : l.length ≤ 1000000) (hm : m.length ≤ 1000000) :
    Calls Tryz.prog 17 #[va, vb] w fun e w' => e = .returned (.bool (decide (l = m))) ∧ Below w.heap.size w w' := by
  obtain ⟨pa, ca, rfl, fa⟩ := ha.form
  obtain ⟨pb, cb, rfl, fb⟩ := hb.form
  by_cases hlen : l.length = m.length
  · have gl : ((l.length : Int) != (m.length : Int)) = false := by simp; omega
    have hlm : Hid (l.length = m.length) := hlen
    have hle : l.length ≤ m.length := by omega
    have FA := Lib.hid fa
    have FB := Lib.hid fb
    clear fa fb hlen ha hb
    go_enter Tryz.func17, Tryz.ntmps17
    go_wp2_with fail
    go_loopw [5] (fun i wr => ∃ k : Nat, i = .int .i64 k ∧ k ≤ l.length ∧ Hid (l.take k = m.take k) ∧ ∃ q, wr = w.drewN q) (fun i wr => l.length - (intOf i).toNat)
    case atStart => exact ⟨0, rfl, Nat.zero_le _, rfl, 0, rfl⟩
    case round =>
      obtain ⟨k, rfl, hk, HT, q, rfl⟩ := hrel
      by_cases hlt : k < l.length
      · have hkm : k < m.length := by omega
        obtain ⟨x, hx⟩ : ∃ x, l[k]? = some x := ⟨_, List.getElem?_eq_getElem hlt⟩
        obtain ⟨y, hy⟩ : ∃ y, m[k]? = some y := ⟨_, List.getElem?_eq_getElem hkm⟩
        obtain ⟨ga, rfl, hga, _, a0, a1, a2, a3⟩ := FA.out k x hx
        obtain ⟨gb, rfl, hgb, _, b0, b1, b2, b3⟩ := FB.out k y hy
        have hcmp := fun w => same_cmp x y w
        cases hxy : decide (x = y) with
        | true =>
          rw [hxy] at hcmp
          have HN : Hid (l.take (k + 1) = m.take (k + 1)) := by
            have e : x = y := by simpa using hxy
            show _ = _
            rw [List.take_add_one, List.take_add_one, HT.out, hx, hy, e]
          clear hxy hx hy FA FB HT hga hgb
          go_wp2_with fail
          go_quiet (fail)
          go_wp2_with fail
          refine ⟨⟨k + 1, by go_num, by omega, HN, _, rfl⟩, by simp [intOf]; omega⟩
        | false =>
          rw [hxy] at hcmp
          have HN : Hid (decide (l = m) = false) := by
            have e : x ≠ y := by simpa using hxy
            show _ = _
            simp
            intro h
            rw [h, hy] at hx
            exact e (Option.some.inj hx).symm
          clear hxy hx hy FA FB HT hga hgb
          go_wp2_with fail
          go_quiet (fail)
          go_wp2_with fail
          go_ret
          exact ⟨ret_bool HN.out.symm, below_drewN (below_drewN (Below.refl _ _) _) _⟩
      · have HN : Hid (decide (l = m) = true) := by
          show _ = _
          have h1 := HT.out
          rw [List.take_of_length_le (by omega), List.take_of_length_le (by have := hlm.out; omega)] at h1
          simp [h1]
        clear FA FB HT
        go_wp2_with fail
        go_ret
        exact ⟨ret_bool HN.out.symm, below_drewN (Below.refl _ _) _⟩
  · have gl : ((l.length : Int) != (m.length : Int)) = true := by simp; omega
    have hne : Hid (decide (l = m) = false) := by show _ = _; simp; intro h; exact hlen (by rw [h])
    rw [hne.out]
    clear hlen fa fb ha hb
    go_enter Tryz.func17, Tryz.ntmps17
    go_wp2_with fail
    go_ret
    exact ⟨rfl, Below.refl _ _⟩
end Go.Proofs.YtbdjccmcdifjcaaGreatDoor

/-
  The reference's lines of a source, and how rows of tokens are held against each other but for places, at this program.
-/
set_option linter.unusedVariables false
set_option linter.unusedSimpArgs false
namespace Go.Proofs.YtbdjccmcdifjcaaGreatDoor
open Go.RowKit Go.Shelf

def strCells (l : List (Nat × Sp.Bs)) : List Value := l.map fun x => .string ⟨x.2.toArray⟩
def intCells (l : List (Nat × Sp.Bs)) : List Value := l.map fun x => .int .i64 (x.1 : Int)

theorem Sp.lines_next (s : Sp.Bs) (from_ i : Nat) (c : UInt8) (h : s[i]? = some c) (hf : from_ ≤ i) : Sp.linesGo from_ ((s.take i).drop from_) i (s.drop i) = if c.toNat = 10 then (from_, (s.take i).drop from_) :: Sp.linesGo (i + 1) ((s.take (i + 1)).drop (i + 1)) (i + 1) (s.drop (i + 1)) else Sp.linesGo from_ ((s.take (i + 1)).drop from_) (i + 1) (s.drop (i + 1)) := by
  have hlt := (List.getElem?_eq_some_iff.1 h).1
  have hd : s.drop i = c :: s.drop (i + 1) := by
    rw [List.drop_eq_getElem_cons hlt]
    congr 1
    exact (List.getElem?_eq_some_iff.1 h).2
  have e1 : (s.take (i + 1)).drop (i + 1) = [] := List.drop_of_length_le (by simp; omega)
  have e2 : (s.take (i + 1)).drop from_ = (s.take i).drop from_ ++ [c] := by
    rw [List.take_add_one, h, List.drop_append_of_le_length (by simp; omega)]
    rfl
  rw [hd, Sp.linesGo, e1, e2]

set_option maxHeartbeats 8000000 in
set_option maxRecDepth 100000 in
theorem lines2_any (s : ByteArray) (hs : s.size ≤ 60000) (w : World) : Calls Tryz.prog 26 #[.string s] w fun e w' => (∃ vl va, e = .returned (.tuple #[vl, va]) ∧ w'.ownsRow w.heap.size 9 1 vl (Sp.linesL s.data.toList).length (strCells (Sp.linesL s.data.toList)) ∧ w'.ownsRow w.heap.size 3 1 va (Sp.linesL s.data.toList).length (intCells (Sp.linesL s.data.toList))) ∧ Below w.heap.size w w' := by
  obtain ⟨iS, hiS, hS0, hS1, hS2⟩ := info_parts infoStr
  obtain ⟨iI, hiI, hI0, hI1, hI2⟩ := info_parts infoInt
  obtain ⟨L, HL⟩ := hid_ex (Sp.linesL s.data.toList)
  rw [HL.out]
  go_enter Tryz.func26, Tryz.ntmps26
  go_wp2_with fail
  go_loopw [4, 5, 6, 7] (fun v4 v5 v6 v7 wr => ∃ (i from_ : Nat) (ls : List (Nat × Sp.Bs)), v7 = .int .i64 i ∧ v6 = .int .i64 from_ ∧ i ≤ s.size + 1 ∧ from_ ≤ i ∧ ls.length ≤ i ∧ wr.ownsRow w.heap.size 9 1 v4 ls.length (strCells ls) ∧ wr.ownsRow w.heap.size 3 1 v5 ls.length (intCells ls) ∧ Below w.heap.size w wr ∧ Hid (L = ls ++ (if i ≤ s.size then Sp.linesGo from_ ((s.data.toList.take i).drop from_) i (s.data.toList.drop i) else []))) (fun _ _ _ v7 _ => s.size + 1 - (intOf v7).toNat)
  case atStart =>
    refine ⟨0, 0, [], rfl, rfl, Nat.zero_le _, Nat.le_refl _, Nat.zero_le _, ?_, ?_, ((Below.refl _ w).alloc (Nat.le_refl _) _).alloc (by simp) _, ?_⟩
    · have h := World.ownsRow_lit (base := w.heap.size) (e := 9) (size := 1) w #[] 0 (Nat.le_refl _) (Nat.zero_le _) rfl
      exact h.alloc _
    · have h := World.ownsRow_lit (base := w.heap.size) (e := 3) (size := 1) (w.alloc (Obj.cells #[] 9)) #[] 0 (by simp) (Nat.zero_le _) rfl
      simp at h
      exact h
    · show _ = _
      rw [← HL.out, if_pos (Nat.zero_le _)]
      rfl
  case round =>
    obtain ⟨i, from_, ls, rfl, rfl, hi1, hfi, hlsi, hl, ha, hbel, HX⟩ := hrel
    by_cases hle : i ≤ s.size
    · have hz1' : w.heap.size ≤ wr.heap.size := hbel.size
      have hcur : (s.extract from_ i).data.toList = (s.data.toList.take i).drop from_ := by
        rw [extract_list, List.drop_take]
      by_cases hcut : i = s.size ∨ ∃ h : i < s.size, s[i].toNat = 10
      · have HN : Hid (L = (ls ++ [(from_, (s.data.toList.take i).drop from_)]) ++ (if i + 1 ≤ s.size then Sp.linesGo (i + 1) ((s.data.toList.take (i + 1)).drop (i + 1)) (i + 1) (s.data.toList.drop (i + 1)) else [])) := by
          show _ = _
          rw [HX.out, if_pos hle, List.append_assoc]
          congr 1
          rcases hcut with h | ⟨h, h10⟩
          · rw [if_neg (by omega), List.drop_of_length_le (l := s.data.toList) (by rw [size_list]; omega), Sp.linesGo]
            rfl
          · rw [Sp.lines_next _ _ _ _ (byte_get s i h) hfi, if_pos h10, if_pos (by omega)]
            rfl
        have g : ((i : Int) == (s.size : Int)) = true ∨ (((i : Int) == (s.size : Int)) = false ∧ ∃ h : i < s.size, ((s[i].toNat : Int) == 10) = true) := by
          rcases hcut with h | ⟨h, h10⟩
          · left; simp; omega
          · right; exact ⟨by simp; omega, h, by simp; omega⟩
        obtain ⟨xb, HXB⟩ := hid_ex (s.extract from_ i)
        have hxl : xb.data.toList = (s.data.toList.take i).drop from_ := by rw [← HXB.out]; exact hcur
        have hxe : s.extract from_ i = xb := HXB.out
        have hrun : ∀ w, (Instr.slice 9 (.string s) (some (.int .i64 (from_ : Int))) (some (.int .i64 (i : Int))) none).run Tryz.prog w = .ok (.string xb) w := by
          intro w
          rw [run_slice_string_if (h := Tryz.underlying9), if_pos (by omega), if_pos (by omega), Int.toNat_natCast, Int.toNat_natCast, hxe]
        have hap := own_apart ha hl (by decide)
        have hls : strCells (ls ++ [(from_, (s.data.toList.take i).drop from_)]) = strCells ls ++ [.string xb] := by
          unfold strCells
          rw [List.map_append, ← hxl]
          simp [toArray_data]
        have hla : intCells (ls ++ [(from_, (s.data.toList.take i).drop from_)]) = intCells ls ++ [.int .i64 (from_ : Int)] := by
          unfold intCells
          rw [List.map_append]
          rfl
        obtain ⟨ls', HLS⟩ := hid_ex (ls ++ [(from_, (s.data.toList.take i).drop from_)])
        have hlen' : ls'.length = ls.length + 1 := by rw [← HLS.out, List.length_append]; rfl
        rw [HLS.out] at HN hls hla
        have HAP := Lib.hid hap
        clear hcut hcur HXB hxl hxe HX HLS hap
        rcases g with g1 | ⟨g1, hlt, g2⟩
        all_goals
          go_wp2_with (at_builtin; refine wpList_append_own _ rfl _ _ 60 rfl w.heap.size 9 iS (.string ⟨#[]⟩) 1 16 Tryz.underlying60 hiS hS0 hS1 hS2 rfl (by decide) _ _ _ rfl (hl.alloc _) ⟨wr.heap.size, 0, none⟩ 1 1 [.string xb] rfl rfl ?c1 ?c2 ?c3 ?c4 ?c5 ?_)
          case c1 =>
            intro j u hj
            match j, hj with
            | 0, hj => simp at hj; subst hj; simp [Addr.add]
          case c2 => intro u hu; simp at hu; subst hu; rfl
          case c3 => unfold maxLen; omega
          case c4 => omega
          case c5 => simp; omega
          intro vl' w2 hl' hgrow _
          have ha2 := (ha.alloc _).kept hgrow HAP.out
          have hbel2 : Below w.heap.size w w2 := (hbel.alloc hz1' _).grown hgrow (by simp; omega) (fun k hk => (hl.lt k hk).1)
          have hz2' : w.heap.size ≤ w2.heap.size := hbel2.size
          have hap2 := own_apart hl' ha2 (by decide)
          clear hgrow hbel ha hl HAP
          go_wp2_with (at_builtin; refine wpList_append_own _ rfl _ _ 39 rfl w.heap.size 3 iI (.int .i64 0) 1 8 Tryz.underlying39 hiI hI0 hI1 hI2 rfl (by decide) _ _ _ rfl (ha2.alloc _) ⟨w2.heap.size, 0, none⟩ 1 1 [.int .i64 (from_ : Int)] rfl rfl ?d1 ?d2 ?d3 ?d4 ?d5 ?_)
          case d1 =>
            intro j u hj
            match j, hj with
            | 0, hj => simp at hj; subst hj; simp [Addr.add]
          case d2 => intro u hu; simp at hu; subst hu; rfl
          case d3 => unfold maxLen; omega
          case d4 => omega
          case d5 => simp; omega
          intro va' w3 ha' hgrow2 _
          have hl3 := (hl'.alloc _).kept hgrow2 hap2
          have hbel3 : Below w.heap.size w w3 := (hbel2.alloc hz2' _).grown hgrow2 (by simp; omega) (fun k hk => (ha2.lt k hk).1)
          rw [← hlen', ← hls] at hl3
          rw [← hlen', ← hla] at ha'
          clear hgrow2 hbel2 ha2 hl' hap2 hls hla
          go_wp2_with fail
          go_roundw
          case rel => exact ⟨i + 1, i + 1, ls', by go_num, by go_num, by omega, Nat.le_refl _, by omega, hl3, ha', hbel3, HN⟩
          case measure => simp [intOf]; omega
      · have hlt : i < s.size := by
          have : ¬ i = s.size := fun h => hcut (Or.inl h)
          omega
        have h10 : ¬ s[i].toNat = 10 := fun h => hcut (Or.inr ⟨hlt, h⟩)
        have g1 : ((i : Int) == (s.size : Int)) = false := by simp; omega
        have g2 : ((s[i].toNat : Int) == 10) = false := by simp; omega
        have HN : Hid (L = ls ++ (if i + 1 ≤ s.size then Sp.linesGo from_ ((s.data.toList.take (i + 1)).drop from_) (i + 1) (s.data.toList.drop (i + 1)) else [])) := by
          show _ = _
          rw [HX.out, if_pos hle, Sp.lines_next _ _ _ _ (byte_get s i hlt) hfi, if_neg h10, if_pos (by omega)]
        clear hcut hcur HX h10
        go_wp2_with fail
        go_roundw
        case rel => exact ⟨i + 1, from_, ls, by go_num, rfl, by omega, by omega, by omega, hl, ha, hbel, HN⟩
        case measure => simp [intOf]; omega
    · have HN : Hid (L = ls) := by
        show _ = _
        rw [HX.out, if_neg hle, List.append_nil]
      clear HX
      go_wp2_with fail
      go_ret2
      refine ⟨⟨_, _, rfl, ?_⟩, hbel⟩
      rw [HN.out]
      exact ⟨hl, ha⟩

def key3 (x : T4) : Int × Sp.Bs × Int := (x.1, x.2.2.1, x.2.2.2)
theorem key3_eq (x y : T4) : key3 x = key3 y ↔ x.1 = y.1 ∧ x.2.2.1 = y.2.2.1 ∧ x.2.2.2 = y.2.2.2 := by
  unfold key3
  simp

set_option maxHeartbeats 8000000 in
set_option maxRecDepth 100000 in
theorem alike2_any (B B' : Nat) (va vb : Value) (l m : List T4) (w : World) (ha : Row4 B va l w) (hb : Row4 B' vb m w) (hl : l.length ≤ 1000000) (hm : m.length ≤ 1000000) :
    Calls Tryz.prog 14 #[va, vb] w fun e w' => e = .returned (.bool (decide (l.map key3 = m.map key3))) ∧ Below w.heap.size w w' := by
  obtain ⟨pa, ca, rfl, fa⟩ := ha.form
  obtain ⟨pb, cb, rfl, fb⟩ := hb.form
  by_cases hlen : l.length = m.length
  · have gl : ((l.length : Int) != (m.length : Int)) = false := by simp; omega
    have hlm : Hid (l.length = m.length) := hlen
    have hle : l.length ≤ m.length := by omega
    have FA := Lib.hid fa
    have FB := Lib.hid fb
    clear fa fb hlen ha hb
    go_enter Tryz.func14, Tryz.ntmps14
    go_wp2_with fail
    go_loopw [5] (fun i wr => ∃ k : Nat, i = .int .i64 k ∧ k ≤ l.length ∧ Hid ((l.take k).map key3 = (m.take k).map key3) ∧ ∃ q, wr = w.drewN q) (fun i wr => l.length - (intOf i).toNat)
    case atStart => exact ⟨0, rfl, Nat.zero_le _, rfl, 0, rfl⟩
    case round =>
      obtain ⟨k, rfl, hk, HT, q, rfl⟩ := hrel
      by_cases hlt : k < l.length
      · have hkm : k < m.length := by omega
        obtain ⟨x, hx⟩ : ∃ x, l[k]? = some x := ⟨_, List.getElem?_eq_getElem hlt⟩
        obtain ⟨y, hy⟩ : ∃ y, m[k]? = some y := ⟨_, List.getElem?_eq_getElem hkm⟩
        obtain ⟨ga, rfl, hga, _, a0, a1, a2, a3⟩ := FA.out k x hx
        obtain ⟨gb, rfl, hgb, _, b0, b1, b2, b3⟩ := FB.out k y hy
        obtain ⟨sa, hsa⟩ : ∃ sa : ByteArray, sa = ⟨x.2.2.1.toArray⟩ := ⟨_, rfl⟩
        obtain ⟨sb, hsb⟩ : ∃ sb : ByteArray, sb = ⟨y.2.2.1.toArray⟩ := ⟨_, rfl⟩
        rw [← hsa] at a2
        rw [← hsb] at b2
        have hea : sa.toList = x.2.2.1 := by rw [Sp.toList_data, hsa]
        have heb : sb.toList = y.2.2.1 := by rw [Sp.toList_data, hsb]
        have HNE : Hid (¬ (x.1 = y.1 ∧ x.2.2.1 = y.2.2.1 ∧ x.2.2.2 = y.2.2.2) → decide (l.map key3 = m.map key3) = false) := by
          intro h
          simp
          intro e
          apply h
          rw [← key3_eq]
          have h1 : (l.map key3)[k]? = some (key3 x) := by rw [List.getElem?_map, hx]; rfl
          have h2 : (m.map key3)[k]? = some (key3 y) := by rw [List.getElem?_map, hy]; rfl
          rw [e, h2] at h1
          exact (Option.some.inj h1).symm
        have HEQ : Hid ((x.1 = y.1 ∧ x.2.2.1 = y.2.2.1 ∧ x.2.2.2 = y.2.2.2) → (l.take (k + 1)).map key3 = (m.take (k + 1)).map key3) := by
          intro h
          rw [List.take_add_one, List.take_add_one, List.map_append, List.map_append, HT.out, hx, hy]
          congr 1
          show [key3 x] = [key3 y]
          rw [(key3_eq x y).2 h]
        have fin : ∀ b : Bool, b = true ∨ b = false := by intro b; cases b <;> simp
        by_cases h0 : x.1 = y.1
        · have g0 : (x.1 != y.1) = false := by simp; exact h0
          by_cases h2 : x.2.2.1 = y.2.2.1
          · have g2 : (sa.toList == sb.toList) = true := by rw [hea, heb, h2]; simp
            have g2' : (sa.toList != sb.toList) = false := by simp [bne, g2]
            by_cases h3 : x.2.2.2 = y.2.2.2
            · have g3 : (x.2.2.2 != y.2.2.2) = false := by simp; exact h3
              have HN := Lib.hid (HEQ.out ⟨h0, h2, h3⟩)
              clear h0 h2 h3 hea heb hsa hsb HNE HEQ hx hy FA FB HT hga hgb fin
              go_wp2_with fail
              go_quiet (fail)
              go_wp2_with fail
              refine ⟨⟨k + 1, by go_num, by omega, HN, _, rfl⟩, by simp [intOf]; omega⟩
            · have g3 : (x.2.2.2 != y.2.2.2) = true := by simp; exact h3
              have HN := Lib.hid (HNE.out (fun h => h3 h.2.2))
              clear h0 h2 h3 hea heb hsa hsb HNE HEQ hx hy FA FB HT hga hgb fin
              go_wp2_with fail
              go_quiet (fail)
              go_wp2_with fail
              go_ret
              exact ⟨ret_bool HN.out.symm, below_drewN (below_drewN (Below.refl _ _) _) _⟩
          · have g2 : (sa.toList == sb.toList) = false := by rw [hea, heb]; simp; exact h2
            have g2' : (sa.toList != sb.toList) = true := by simp [bne, g2]
            have HN := Lib.hid (HNE.out (fun h => h2 h.2.1))
            clear h0 h2 hea heb hsa hsb HNE HEQ hx hy FA FB HT hga hgb fin
            go_wp2_with fail
            go_quiet (fail)
            go_wp2_with fail
            go_ret
            exact ⟨ret_bool HN.out.symm, below_drewN (below_drewN (Below.refl _ _) _) _⟩
        · have g0 : (x.1 != y.1) = true := by simp; exact h0
          have HN := Lib.hid (HNE.out (fun h => h0 h.1))
          clear h0 hea heb hsa hsb HNE HEQ hx hy FA FB HT hga hgb fin
          go_wp2_with fail
          go_quiet (fail)
          go_wp2_with fail
          go_ret
          exact ⟨ret_bool HN.out.symm, below_drewN (below_drewN (Below.refl _ _) _) _⟩
      · have HN : Hid (decide (l.map key3 = m.map key3) = true) := by
          show _ = _
          have h1 := HT.out
          rw [List.take_of_length_le (by omega), List.take_of_length_le (by have := hlm.out; omega)] at h1
          simp [h1]
        clear FA FB HT
        go_wp2_with fail
        go_ret
        exact ⟨ret_bool HN.out.symm, below_drewN (Below.refl _ _) _⟩
  · have gl : ((l.length : Int) != (m.length : Int)) = true := by simp; omega
    have hne : Hid (decide (l.map key3 = m.map key3) = false) := by
      show _ = _
      simp
      intro h
      have := congrArg List.length h
      rw [List.length_map, List.length_map] at this
      exact hlen this
    rw [hne.out]
    clear hlen fa fb ha hb
    go_enter Tryz.func14, Tryz.ntmps14
    go_wp2_with fail
    go_ret
    exact ⟨rfl, Below.refl _ _⟩
end Go.Proofs.YtbdjccmcdifjcaaGreatDoor

/-
  The reference's answer for brackets, at this program.
-/
set_option linter.unusedVariables false
set_option linter.unusedSimpArgs false
namespace Go.Proofs.YtbdjccmcdifjcaaGreatDoor
open Go.RowKit Go.Shelf

def BrkEnd (B : Nat) (x : Except Int (List T4)) (e : Ending) (w' : World) : Prop :=
  match x with
  | .ok o => ∃ v, e = .returned (.tuple #[v, .int .i64 0, .bool true]) ∧ v ≠ .slice none 0 0 ∧ Row4 B v o.reverse w'
  | .error p => e = .returned (.tuple #[.slice none 0 0, .int .i64 p, .bool false])
set_option maxHeartbeats 8000000 in
set_option maxRecDepth 100000 in
theorem brackets2_any (B0 B1 : Nat) (vo vt : Value) (opn ts : List T4) (w : World) (ho : Row4 B0 vo opn.reverse w) (hne : vo ≠ .slice none 0 0) (ht : Row4 B1 vt ts w) (hol : opn.length ≤ 100000) (htl : ts.length ≤ 100000) :
    Calls Tryz.prog 28 #[vo, vt] w fun e w' => BrkEnd w.heap.size (Sp.brk opn ts) e w' ∧ Below w.heap.size w w' := by
  obtain ⟨i0, hi, hz0, hz1, hz2⟩ := info_parts infoTok
  obtain ⟨go, co, rfl, _, hgo, _, hco⟩ := ho.laid2 hne
  obtain ⟨pt, ct, rfl, ft⟩ := ht.form
  have FT := Lib.hid ft
  have HCO := Lib.hid hco
  have hrl : opn.reverse.length = opn.length := List.length_reverse
  rw [hrl]
  have hrow0 : (w.alloc (Obj.cells #[] 37)).ownsRow w.heap.size 37 4 (.slice (some ⟨w.heap.size, 0, none⟩) 0 0) 0 [] := row_lit w [] #[] rfl (by decide)
  clear ft hco ho hne ht
  go_enter Tryz.func28, Tryz.ntmps28
  go_wp2_with (at_builtin; refine wpList_append_own _ rfl _ _ 25 rfl w.heap.size 37 i0 (.agg #[.int .i64 0, .int .i64 0, .string ⟨#[]⟩, .int .i64 0]) 4 40 Tryz.underlying25 hi hz0 hz1 hz2 rfl (by decide) _ _ _ rfl hrow0 ⟨go, 0, none⟩ opn.length co (opn.reverse.flatMap c4) rfl ?c0 ?c1 ?c2 ?c3 ?c4 ?c5 ?_)
  case c0 => rw [c4_len2, List.length_reverse]
  case c1 =>
    intro j u hj
    have h1 := HCO.out j u hj
    exact (((Below.refl w.heap.size w).alloc (Nat.le_refl _) _).cell (p := (⟨go, 0, none⟩ : Addr).add j) (by rw [Addr.add_lit]; exact hgo)).trans h1
  case c2 => exact c4_one2 _
  case c3 => unfold maxLen; omega
  case c4 => omega
  case c5 => simp
  intro v5 w5 hown5 hgrow5 hnil5
  have hbel5 : Below w.heap.size w w5 := ((Below.refl w.heap.size w).alloc (Nat.le_refl _) _).grown hgrow5 (by simp) (fun k hk => (hrow0.lt k hk).1)
  have HNE5 : Hid (v5 ≠ .slice none 0 0) := by
    first
      | exact hnil5
      | (intro e; have := (hnil5.1 e).1; cases this)
  have hR5 : Row4 w.heap.size v5 opn.reverse w5 := by
    unfold Row4
    rw [List.length_reverse]
    simpa using hown5
  clear hgrow5 hnil5 hown5 hrow0 HCO
  go_wp2_with fail
  go_loopw [7, 8] (fun v7 v8 wr => ∃ (k : Nat) (op : List T4), v8 = .int .i64 k ∧ k ≤ ts.length ∧ op.length ≤ opn.length + k ∧ Hid (v7 ≠ .slice none 0 0) ∧ Row4 w.heap.size v7 op.reverse wr ∧ Below w.heap.size w wr ∧ Hid (Sp.brk opn ts = Sp.brk op (ts.drop k))) (fun _ v8 _ => ts.length - (intOf v8).toNat)
  case atStart => exact ⟨0, opn, rfl, Nat.zero_le _, by omega, HNE5, hR5, hbel5, by show _ = _; rw [List.drop_zero]⟩
  case round =>
    clear HNE5 hR5 hbel5
    obtain ⟨k, op, rfl, hk, hopl, HNE, hrow, hbel, HB⟩ := hrel
    have hz1' : w.heap.size ≤ wr.heap.size := hbel.size
    by_cases hlt : k < ts.length
    · obtain ⟨x, hx⟩ : ∃ x, ts[k]? = some x := ⟨_, List.getElem?_eq_getElem hlt⟩
      have hd : ts.drop k = x :: ts.drop (k + 1) := by
        have e := List.drop_eq_getElem_cons hlt
        rw [e]
        congr 1
        rw [List.getElem?_eq_getElem hlt] at hx
        exact Option.some.inj hx
      rw [hd] at HB
      obtain ⟨g, rfl, hg, _, a0, a1, a2, a3⟩ := FT.out k x hx
      replace a0 := (hbel.cell (p := ⟨g, k * 4, none⟩) hg).trans a0
      replace a1 := (hbel.cell (p := ⟨g, k * 4 + 1, none⟩) hg).trans a1
      replace a2 := (hbel.cell (p := ⟨g, k * 4 + 2, none⟩) hg).trans a2
      replace a3 := (hbel.cell (p := ⟨g, k * 4 + 3, none⟩) hg).trans a3
      have hgr : g < wr.heap.size := Nat.lt_of_lt_of_le hg hbel.size
      have KIND : ∀ (y : T4) (w : World), Calls Tryz.prog 43 #[.agg #[.int .i64 y.1, .int .i64 y.2.1, .string ⟨y.2.2.1.toArray⟩, .int .i64 y.2.2.2]] w fun e w' => e = .returned (.int .i64 (Sp.bk y)) ∧ Below w.heap.size w w' := fun y w => kind2_any y.1 y.2.1 y.2.2.2 ⟨y.2.2.1.toArray⟩ w
      have HK := Lib.hid KIND
      have hbi := Sp.bk_in x
      obtain ⟨z, HZ⟩ := hid_ex (Sp.bk x)
      rw [HZ.out] at hbi
      clear KIND hx hd
      go_wp2_with fail
      refine (HK.out x wr).mono ?_
      rintro e w1 ⟨rfl, hb1⟩
      rw [HZ.out]
      replace a0 := (hb1.cell (p := ⟨g, k * 4, none⟩) hgr).trans a0
      replace a1 := (hb1.cell (p := ⟨g, k * 4 + 1, none⟩) hgr).trans a1
      replace a2 := (hb1.cell (p := ⟨g, k * 4 + 2, none⟩) hgr).trans a2
      replace a3 := (hb1.cell (p := ⟨g, k * 4 + 3, none⟩) hgr).trans a3
      have hrow1 := hrow.below hb1
      have hbel1 := hbel.trans (hb1.mono hbel.size)
      have hz2' : w.heap.size ≤ w1.heap.size := hbel1.size
      have hgr1 : g < w1.heap.size := Nat.lt_of_lt_of_le hgr hb1.size
      clear hb1 hrow hbel hz1' hgr
      by_cases hpos : 0 < z
      · have HN : Hid (Sp.brk opn ts = Sp.brk (x :: op) (ts.drop (k + 1))) := by
          show _ = _
          rw [HB.out, Sp.brk_pos (by rw [HZ.out]; exact hpos)]
        have hown : w1.ownsRow w.heap.size 37 4 _ op.reverse.length (op.reverse.flatMap c4) := hrow1
        have hrl' : op.reverse.length = op.length := List.length_reverse
        clear HB hrow1
        go_wp2_with (at_builtin; refine wpList_append_own _ rfl _ _ 25 rfl w.heap.size 37 i0 (.agg #[.int .i64 0, .int .i64 0, .string ⟨#[]⟩, .int .i64 0]) 4 40 Tryz.underlying25 hi hz0 hz1 hz2 rfl (by decide) _ _ _ rfl (hown.alloc _) ⟨w1.heap.size, 0, none⟩ 1 1 [.int .i64 x.1, .int .i64 x.2.1, .string ⟨x.2.2.1.toArray⟩, .int .i64 x.2.2.2] rfl rfl ?c1 ?c2 ?c3 ?c4 ?c5 ?_)
        case c1 =>
          intro j u hj
          match j, hj with
          | 0, hj => simp at hj; subst hj; simp [Addr.add]
          | 1, hj => simp at hj; subst hj; simp [Addr.add]
          | 2, hj => simp at hj; subst hj; simp [Addr.add]
          | 3, hj => simp at hj; subst hj; simp [Addr.add]
        case c2 => intro u hu; simp at hu; rcases hu with rfl | rfl | rfl | rfl <;> rfl
        case c3 => unfold maxLen; omega
        case c4 => omega
        case c5 => simp; omega
        intro v' w2 hown' hgrow hnil
        have HNE' : Hid (v' ≠ .slice none 0 0) := by
          first
            | exact hnil
            | (intro e; have := (hnil.1 e).2; cases this)
        have hbel2 : Below w.heap.size w w2 := (hbel1.alloc hz2' _).grown hgrow (by simp; omega) (fun k hk => (hown.lt k hk).1)
        have hrow2 : Row4 w.heap.size v' (x :: op).reverse w2 := by
          unfold Row4
          rw [List.reverse_cons, List.length_append, List.flatMap_append, hrl']
          exact hown'
        clear hown' hgrow hown hbel1 hz2' HNE hnil
        go_wp2_with fail
        go_roundw
        case rel => exact ⟨k + 1, x :: op, by go_num, by omega, by simp; omega, HNE', hrow2, hbel2, HN⟩
        case measure => simp [intOf]; omega
      · by_cases hneg : z < 0
        · cases op with
          | nil =>
            have HN : Hid (Sp.brk opn ts = .error x.2.1) := by
              show _ = _
              rw [HB.out, Sp.brk_none (by rw [HZ.out]; exact hneg)]
            obtain ⟨pa, ca, rfl, _⟩ := hrow1.form
            clear HB
            go_wp2_with fail
            go_quiet (fail)
            go_wp2_with fail
            go_ret3
            refine ⟨?_, by first | exact hbel1 | exact below_drewN hbel1 _⟩
            rw [HN.out]
            rfl
          | cons o os =>
            obtain ⟨m, hm⟩ : ∃ m, m = os.length := ⟨_, rfl⟩
            have hrl2 : (o :: os).reverse.length = m + 1 := by rw [List.length_reverse, List.length_cons, hm]
            have hlast : (o :: os).reverse[m]? = some o := by
              rw [List.reverse_cons, List.getElem?_append_right (by rw [List.length_reverse]; omega), List.length_reverse, hm]
              simp
            obtain ⟨pa, ca, rfl, fa⟩ := hrow1.form
            obtain ⟨g2, rfl, hg2, _, b0, b1, b2, b3⟩ := fa m o hlast
            rw [hrl2] at hrow1 HNE ⊢
            have hca : m + 1 ≤ ca := by
              obtain ⟨g', cap', he, hcap, _⟩ := hrow1.laid2 HNE.out
              rw [hrl2] at hcap
              simp only [Value.slice.injEq] at he
              have := he.2.2
              omega
            have hsh := Row4.shrink hrow1 hrl2
            have htk : (o :: os).reverse.take m = os.reverse := by
              rw [List.reverse_cons, List.take_left' (by rw [List.length_reverse, hm])]
            rw [htk] at hsh
            obtain ⟨y, HYO⟩ := hid_ex (Sp.bk o)
            have hyi := Sp.bk_in o
            rw [HYO.out] at hyi
            have hwn : IntKind.i64.wrap (-z) = -z := IntWalk.i64_in _ (by omega)
            have hml : m + 1 ≤ 300000 := by simp at hopl; omega
            have hwm : IntKind.i64.wrap (m : Int) = (m : Int) := IntWalk.i64_in _ (by omega)
            have hgm : ((m : Int) + 1 == 0) = false := by simp; omega
            have HM := Lib.hid hm
            clear hrl2 hlast fa htk hm
            by_cases hyz : y = -z
            · have HN : Hid (Sp.brk opn ts = Sp.brk os (ts.drop (k + 1))) := by
                show _ = _
                rw [HB.out, Sp.brk_shut (by rw [HZ.out]; exact hneg) (by rw [HZ.out, HYO.out]; exact hyz)]
              clear HB
              go_wp2_with fail
              refine (HK.out o w1).mono ?_
              rintro e w2 ⟨rfl, hb2⟩
              rw [HYO.out]
              have hgz : (y != -z) = false := by simp; exact hyz
              have hsh2 := hsh.below hb2
              have hbel2 := hbel1.trans (hb2.mono hbel1.size)
              clear hb2 hsh hrow1 hbel1
              go_wp2_with fail
              go_roundw
              case rel => exact ⟨k + 1, os, by go_num, by omega, by simp at hopl; omega, by show _ ≠ _; simp, hsh2, hbel2, HN⟩
              case measure => simp [intOf]; omega
            · have HN : Hid (Sp.brk opn ts = .error x.2.1) := by
                show _ = _
                rw [HB.out, Sp.brk_odd (by rw [HZ.out]; exact hneg) (by rw [HZ.out, HYO.out]; exact hyz)]
              clear HB
              go_wp2_with fail
              refine (HK.out o w1).mono ?_
              rintro e w2 ⟨rfl, hb2⟩
              rw [HYO.out]
              have hgz : (y != -z) = true := by simp; exact hyz
              replace a1 := (hb2.cell (p := ⟨g, k * 4 + 1, none⟩) hgr1).trans a1
              have hbel2 := hbel1.trans (hb2.mono hbel1.size)
              clear hb2 hsh hrow1 hbel1
              go_wp2_with fail
              go_quiet (fail)
              go_wp2_with fail
              go_ret3
              refine ⟨?_, by first | exact hbel2 | exact below_drewN hbel2 _⟩
              rw [HN.out]
              rfl
        · have HN : Hid (Sp.brk opn ts = Sp.brk op (ts.drop (k + 1))) := by
            show _ = _
            rw [HB.out, Sp.brk_zero (by rw [HZ.out]; omega)]
          clear HB
          go_wp2_with fail
          go_roundw
          case rel => exact ⟨k + 1, op, by go_num, by omega, by omega, HNE, hrow1, hbel1, HN⟩
          case measure => simp [intOf]; omega
    · have HN : Hid (Sp.brk opn ts = .ok op) := by
        show _ = _
        rw [HB.out, List.drop_of_length_le (by omega), Sp.brk]
      clear HB
      go_wp2_with fail
      go_ret3
      refine ⟨?_, hbel⟩
      rw [HN.out]
      exact ⟨_, rfl, HNE.out, hrow⟩
end Go.Proofs.YtbdjccmcdifjcaaGreatDoor

/-
  Where the rows lie while a source's tokens are gathered: what each step leaves; no walk is here.
-/
set_option linter.unusedVariables false
set_option linter.unusedSimpArgs false
namespace Go.Proofs.YtbdjccmcdifjcaaGreatDoor
open Go.RowKit Go.Shelf

structure Lay3 (B : Nat) (v5 v6 v7 vl va : Value) (st : Sp.LS) (L : List (Nat × Sp.Bs)) (w : World) : Prop where
  out : Row4 B v5 st.out w
  opn : Row4 B v6 st.opn.reverse w
  blk : RowI B v7 st.blk.reverse w
  str : w.ownsRow B 9 1 vl L.length (strCells L)
  plc : w.ownsRow B 3 1 va L.length (intCells L)
  n5 : v5 ≠ .slice none 0 0
  n6 : v6 ≠ .slice none 0 0
  n7 : v7 ≠ .slice none 0 0
  a56 : Apart v5 v6
  a7a : Apart v7 va

section
variable {B : Nat} {v5 v6 v7 vl va : Value} {st : Sp.LS} {L : List (Nat × Sp.Bs)} {w w' : World}

theorem Lay3.below (h : Lay3 B v5 v6 v7 vl va st L w) (hb : Below w.heap.size w w') : Lay3 B v5 v6 v7 vl va st L w' :=
  ⟨h.out.below hb, h.opn.below hb, own_below h.blk hb, own_below h.str hb, own_below h.plc hb, h.n5, h.n6, h.n7, h.a56, h.a7a⟩
theorem Lay3.out_more (h : Lay3 B v5 v6 v7 vl va st L w) {v' : Value} {ms : List T4} (hR : Row4 B v' (st.out ++ ms) w') (hg : w.grownBy w' v5.ownBlock) (hb : v'.ownBlock = v5.ownBlock ∨ v'.ownBlock = some w.heap.size) (hn : v' ≠ .slice none 0 0) :
    Lay3 B v' v6 v7 vl va ⟨st.out ++ ms, st.opn, st.blk⟩ L w' := by
  have a7 : Apart v5 v7 := Apart.types h.out h.blk (by decide)
  have al : Apart v5 vl := Apart.types h.out h.str (by decide)
  have aa : Apart v5 va := Apart.types h.out h.plc (by decide)
  exact ⟨hR, World.ownsRow.kept h.opn hg h.a56.ne, World.ownsRow.kept h.blk hg a7.ne, World.ownsRow.kept h.str hg al.ne, World.ownsRow.kept h.plc hg aa.ne, hn, h.n6, h.n7, h.a56.grow h.opn hb, h.a7a⟩
theorem Lay3.opn_set (h : Lay3 B v5 v6 v7 vl va st L w) (hb : Below w.heap.size w w') (hB : B ≤ w.heap.size) {v' : Value} {o : List T4} (hR : Row4 w.heap.size v' o.reverse w') (hn : v' ≠ .slice none 0 0) :
    Lay3 B v5 v' v7 vl va ⟨st.out, o, st.blk⟩ L w' := by
  have h' := h.below hb
  have hR' : Row4 B v' o.reverse w' := by
    refine ⟨hR.1, ?_⟩
    rcases hR.2 with hn | ⟨g, cap, cur, hv, hbg, rest⟩
    · exact .inl hn
    · exact .inr ⟨g, cap, cur, hv, Nat.le_trans hB hbg, rest⟩
  exact ⟨h'.out, hR', h'.blk, h'.str, h'.plc, h.n5, hn, h.n7, (Apart.later h.out hR).symm, h.a7a⟩
theorem Lay3.blk_more (h : Lay3 B v5 v6 v7 vl va st L w) {v' : Value} {n : Nat} (hR : RowI B v' (st.blk.reverse ++ [n]) w') (hg : w.grownBy w' v7.ownBlock) (hb : v'.ownBlock = v7.ownBlock ∨ v'.ownBlock = some w.heap.size) (hn : v' ≠ .slice none 0 0) :
    Lay3 B v5 v6 v' vl va ⟨st.out, st.opn, n :: st.blk⟩ L w' := by
  have a5 : Apart v7 v5 := Apart.types h.blk h.out (by decide)
  have a6 : Apart v7 v6 := Apart.types h.blk h.opn (by decide)
  have al : Apart v7 vl := Apart.types h.blk h.str (by decide)
  refine ⟨World.ownsRow.kept h.out hg a5.ne, World.ownsRow.kept h.opn hg a6.ne, ?_, World.ownsRow.kept h.str hg al.ne, World.ownsRow.kept h.plc hg h.a7a.ne, h.n5, h.n6, hn, h.a56, h.a7a.grow h.plc hb⟩
  show RowI B v' (n :: st.blk).reverse w'
  rw [List.reverse_cons]
  exact hR
end

theorem Lay3.blk_less {B g cap m : Nat} {v5 v6 vl va : Value} {st : Sp.LS} {L : List (Nat × Sp.Bs)} {w : World} {b : Nat} {bs : List Nat} (h : Lay3 B v5 v6 (.slice (some ⟨g, 0, none⟩) (m + 1) cap) vl va st L w) (hb : st.blk = b :: bs) (hl : bs.length = m) :
    Lay3 B v5 v6 (.slice (some ⟨g, 0, none⟩) m cap) vl va ⟨st.out, st.opn, bs⟩ L w := by
  have h1 : st.blk.reverse.length = m + 1 := by rw [hb, List.length_reverse, List.length_cons, hl]
  have h2 := RowI.shrink h.blk h1
  have h3 : st.blk.reverse.take m = bs.reverse := by
    rw [hb, List.reverse_cons, List.take_left' (by rw [List.length_reverse, hl])]
  rw [h3] at h2
  exact ⟨h.out, h.opn, h2, h.str, h.plc, h.n5, h.n6, by simp, h.a56, fun g' hg' => h.a7a g' hg'⟩
/-- What a line's row holds. -/
theorem Lay3.line {B : Nat} {v5 v6 v7 vl va : Value} {st : Sp.LS} {L : List (Nat × Sp.Bs)} {w : World} (h : Lay3 B v5 v6 v7 vl va st L w) (k : Nat) (x : Nat × Sp.Bs) (hx : L[k]? = some x) : ∃ g ga cl ca, vl = .slice (some ⟨g, 0, none⟩) L.length cl ∧ va = .slice (some ⟨ga, 0, none⟩) L.length ca ∧ g < w.heap.size ∧ ga < w.heap.size ∧
    w.cell? ⟨g, k, none⟩ = some (.string ⟨x.2.toArray⟩) ∧ w.cell? ⟨ga, k, none⟩ = some (.int .i64 (x.1 : Int)) := by
  have hk : k < L.length := (List.getElem?_eq_some_iff.1 hx).1
  have hs := fun g hg j u hj => World.ownsRow.cells h.str (g := g) hg j u hj
  have hp := fun g hg j u hj => World.ownsRow.cells h.plc (g := g) hg j u hj
  rcases h.str.2 with ⟨_, hn⟩ | ⟨g, cl, cur, rfl, _, hg, _⟩
  · omega
  · rcases h.plc.2 with ⟨_, hn⟩ | ⟨ga, ca, cura, rfl, _, hga, _⟩
    · omega
    · have h1 := hs g rfl k (.string ⟨x.2.toArray⟩) (by unfold strCells; rw [List.getElem?_map, hx]; rfl)
      have h2 := hp ga rfl k (.int .i64 (x.1 : Int)) (by unfold intCells; rw [List.getElem?_map, hx]; rfl)
      rw [Addr.add_lit, Nat.zero_add] at h1 h2
      exact ⟨g, ga, cl, ca, rfl, rfl, heap_of_some hg, heap_of_some hga, h1, h2⟩
end Go.Proofs.YtbdjccmcdifjcaaGreatDoor

/-
  What holds of all that is told of a source: its kinds, its places, its blocks: plain; nothing here speaks of a program.
-/
set_option linter.unusedVariables false
set_option linter.unusedSimpArgs false
namespace Go.Proofs.YtbdjccmcdifjcaaGreatDoor
open Go.RowKit Go.Shelf
namespace Sp

theorem tok1_kind {c : UInt8} {r : Bs} {t : Tk} (h : tok1 (c :: r) = .ok t) : 1 ≤ t.kind ∧ t.kind ≤ 4 ∧ (t.kind = 1 → ∃ u, t.text = c :: u) := by
  rw [tok1] at h
  split at h
  · unfold tokStr at h
    split at h
    · split at h
      · cases h; simp
      · cases h
    · cases h
  · split at h
    · unfold tokInt at h
      split at h
      · cases h
      · split at h
        · cases h; simp
        · cases h
    · split at h
      · rename_i hw
        unfold tokName at h
        cases h
        refine ⟨by simp, by simp, fun _ => ?_⟩
        rw [wordLen, if_pos hw]
        exact ⟨_, rfl⟩
      · unfold tokOp opsFrom at h
        split at h
        · cases h; simp
        · cases h

/-- What holds of each token of a line that begins at a place. -/
theorem lexAt_all : ∀ (f : Nat) (l : Bs) (pos : Nat) (ts : List (Nat × Tk)), l.length ≤ f → lexAt pos l = .ok ts → ∀ x ∈ ts, pos ≤ x.1 ∧ x.1 < pos + l.length ∧ 1 ≤ x.2.kind ∧ x.2.kind ≤ 4 ∧ (x.2.kind = 1 → ∃ c u, x.2.text = c :: u ∧ l[x.1 - pos]? = some c) := by
  intro f
  induction f with
  | zero =>
    intro l pos ts hl h
    have : l = [] := by cases l with | nil => rfl | cons => simp at hl
    subst this
    cases h
    simp
  | succ f ih =>
    intro l pos ts hl h
    cases l with
    | nil => cases h; simp
    | cons c r =>
      simp only [List.length_cons] at hl
      by_cases h32 : c.toNat = 32
      · rw [lexAt_blank _ _ _ h32] at h
        intro x hx
        obtain ⟨h1, h2, h3, h4, h5⟩ := ih r (pos + 1) ts (by omega) h x hx
        refine ⟨by omega, by simp; omega, h3, h4, fun hk => ?_⟩
        obtain ⟨d, u, hu, hd⟩ := h5 hk
        refine ⟨d, u, hu, ?_⟩
        rw [show x.1 - pos = (x.1 - (pos + 1)) + 1 by omega, List.getElem?_cons_succ]
        exact hd
      · by_cases h35 : c.toNat = 35
        · rw [lexAt_hash _ _ _ h35] at h; cases h; simp
        · cases ht : tok1 (c :: r) with
          | error e => rw [lexAt_err _ _ _ h32 h35 e ht] at h; cases h
          | ok t =>
            rw [lexAt_tok _ _ _ h32 h35 t ht] at h
            have hs := tok1_size ht
            cases hr : lexAt (pos + t.size) ((c :: r).drop t.size) with
            | error y => rw [hr] at h; cases h
            | ok us =>
              rw [hr] at h
              cases h
              simp only [List.length_cons] at hs
              intro x hx
              rcases List.mem_append.1 hx with hx | hx
              · simp at hx
                subst hx
                obtain ⟨h1, h2, h3⟩ := tok1_kind ht
                refine ⟨Nat.le_refl _, by simp, h1, h2, fun hk => ?_⟩
                obtain ⟨u, hu⟩ := h3 hk
                exact ⟨c, u, hu, by simp⟩
              · obtain ⟨h1, h2, h3, h4, h5⟩ := ih ((c :: r).drop t.size) (pos + t.size) us (by simp; omega) hr x hx
                simp only [List.length_drop, List.length_cons] at h2
                refine ⟨by omega, by simp; omega, h3, h4, fun hk => ?_⟩
                obtain ⟨d, u, hu, hd⟩ := h5 hk
                refine ⟨d, u, hu, ?_⟩
                rw [List.getElem?_drop] at hd
                rw [← hd]
                congr 1
                omega
theorem lex_some {c : UInt8} {r : Bs} {ts : List (Nat × Tk)} (h32 : ¬ c.toNat = 32) (h35 : ¬ c.toNat = 35) (h : lex (c :: r) = .ok ts) : ts ≠ [] := by
  have h' : lexAt 0 (c :: r) = .ok ts := h
  cases ht : tok1 (c :: r) with
  | error e => rw [lexAt_err _ _ _ h32 h35 e ht] at h'; cases h'
  | ok t =>
    rw [lexAt_tok _ _ _ h32 h35 t ht] at h'
    cases hr : lexAt (0 + t.size) ((c :: r).drop t.size) with
    | error y => rw [hr] at h'; cases h'
    | ok us =>
      rw [hr] at h'
      cases h'
      simp

theorem drop_blanks : ∀ l : Bs, ∀ c r, l.drop (blanksOf l) = c :: r → ¬ c.toNat = 32
  | [], c, r, h => by simp at h
  | b :: l, c, r, h => by
    unfold blanksOf at h
    split at h
    · rw [List.drop_succ_cons] at h
      exact drop_blanks l c r h
    · rename_i hb
      simp at h
      rw [← h.1]
      exact hb

/-- How a line that is well goes on. -/
theorem lineStep_shape {st st' : LS} {x : Nat × Bs} (h : lineStep st x = .ok st') :
    (st' = st ∧ st.opn = []) ∨ ∃ (m : List T4) (ts : List (Nat × Tk)), lex (x.2.drop (blanksOf x.2)) = .ok ts ∧
      brk st.opn (ts.map (abs4 ((x.1 + blanksOf x.2 : Nat) : Int))) = .ok st'.opn ∧
      st'.out = st.out ++ m ++ ts.map (abs4 ((x.1 + blanksOf x.2 : Nat) : Int)) ++ (if st'.opn = [] then [mark 5 ((x.1 + x.2.length : Nat) : Int)] else []) ∧
      ((st.opn ≠ [] ∧ m = [] ∧ st'.blk = st.blk) ∨ (st.opn = [] ∧ indent st.blk (blanksOf x.2) ((x.1 + blanksOf x.2 : Nat) : Int) = .ok (m, st'.blk) ∧ ts ≠ [])) := by
  have rest : ∀ {m : List T4} {blk : List Nat}, lineRest st m blk x = .ok st' → ∃ ts : List (Nat × Tk), lex (x.2.drop (blanksOf x.2)) = .ok ts ∧
      brk st.opn (ts.map (abs4 ((x.1 + blanksOf x.2 : Nat) : Int))) = .ok st'.opn ∧
      st'.out = st.out ++ m ++ ts.map (abs4 ((x.1 + blanksOf x.2 : Nat) : Int)) ++ (if st'.opn = [] then [mark 5 ((x.1 + x.2.length : Nat) : Int)] else []) ∧ st'.blk = blk := by
    intro m blk h
    unfold lineRest at h
    cases hl : lex (x.2.drop (blanksOf x.2)) with
    | error e => rw [hl] at h; cases h
    | ok ts =>
      rw [hl] at h
      simp only at h
      cases hb : brk st.opn (ts.map (abs4 ((x.1 + blanksOf x.2 : Nat) : Int))) with
      | error e => rw [hb] at h; cases h
      | ok o =>
        rw [hb] at h
        cases h
        exact ⟨ts, rfl, hb, rfl, rfl⟩
  unfold lineStep at h
  split at h
  · rename_i hop
    split at h
    · cases h; exact Or.inl ⟨rfl, hop⟩
    · rename_i c r hd
      split at h
      · cases h; exact Or.inl ⟨rfl, hop⟩
      · rename_i h35
        cases hi : indent st.blk (blanksOf x.2) ((x.1 + blanksOf x.2 : Nat) : Int) with
        | error e => rw [hi] at h; cases h
        | ok mb =>
          obtain ⟨m, b⟩ := mb
          rw [hi] at h
          obtain ⟨ts, h1, h2, h3, h4⟩ := rest h
          refine Or.inr ⟨m, ts, h1, h2, h3, Or.inr ⟨hop, by rw [h4], ?_⟩⟩
          rw [hd] at h1
          exact lex_some (drop_blanks _ _ _ hd) h35 h1
  · rename_i hop
    obtain ⟨ts, h1, h2, h3, h4⟩ := rest h
    exact Or.inr ⟨[], ts, h1, h2, h3, Or.inl ⟨hop, rfl, h4⟩⟩

/-- The blocks of what is told: the last kind, and how many go on. -/
def aut1 (s : Int × Nat) (t : T4) : Option (Int × Nat) :=
  if t.1 = 6 then (if s.1 = 0 ∨ s.1 = 5 then some (6, s.2 + 1) else none)
  else if t.1 = 7 then (if s.1 = 6 ∨ s.1 = 8 ∨ s.2 = 0 then none else some (7, s.2 - 1))
  else if t.1 = 8 then (if s.1 = 6 ∨ s.1 = 8 then none else some (8, s.2))
  else if t.1 = 5 then (if s.1 = 6 ∨ s.1 = 8 then none else some (5, s.2))
  else if 1 ≤ t.1 ∧ t.1 ≤ 4 then (if s.1 = 8 then none else some (t.1, s.2))
  else none
def aut : Int × Nat → List T4 → Option (Int × Nat)
  | s, [] => some s
  | s, t :: ts => (aut1 s t).bind fun s' => aut s' ts
theorem aut_append : ∀ (xs ys : List T4) (s : Int × Nat), aut s (xs ++ ys) = (aut s xs).bind fun s' => aut s' ys
  | [], ys, s => rfl
  | x :: xs, ys, s => by
    rw [List.cons_append, aut, aut]
    cases aut1 s x with
    | none => rfl
    | some s' => exact aut_append xs ys s'
theorem aut_toks (q : Int) : ∀ (ts : List (Nat × Tk)) (s : Int × Nat), (∀ x ∈ ts, 1 ≤ x.2.kind ∧ x.2.kind ≤ 4) → s.1 ≠ 8 → ∃ k, aut s (ts.map (abs4 q)) = some (k, s.2) ∧ k ≠ 8 ∧ (ts ≠ [] → 1 ≤ k ∧ k ≤ 4) ∧ (ts = [] → k = s.1)
  | [], s, _, h => ⟨s.1, rfl, h, fun h => absurd rfl h, fun _ => rfl⟩
  | x :: ts, s, hk, h => by
    obtain ⟨h1, h2⟩ := hk x (List.mem_cons_self ..)
    have e : aut1 s (abs4 q x) = some (x.2.kind, s.2) := by
      unfold aut1 abs4
      simp only
      rw [if_neg (by omega), if_neg (by omega), if_neg (by omega), if_neg (by omega), if_pos ⟨h1, h2⟩, if_neg h]
    obtain ⟨k, a1, a2, a3, a4⟩ := aut_toks q ts (x.2.kind, s.2) (fun y hy => hk y (List.mem_cons_of_mem _ hy)) (by simp; omega)
    rw [List.map_cons, aut, e]
    refine ⟨k, a1, a2, fun _ => ?_, fun h => by simp at h⟩
    cases ts with
    | nil => rw [a4 rfl]; exact ⟨h1, h2⟩
    | cons => exact a3 (by simp)
theorem aut_outs (q : Int) : ∀ (n : Nat) (s : Int × Nat), n ≤ s.2 → s.1 ≠ 6 → s.1 ≠ 8 → ∃ k, aut s (List.replicate n (mark 7 q)) = some (k, s.2 - n) ∧ k ≠ 6 ∧ k ≠ 8
  | 0, s, _, h1, h2 => ⟨s.1, rfl, h1, h2⟩
  | n + 1, s, hn, h1, h2 => by
    have e : aut1 s (mark 7 q) = some (7, s.2 - 1) := by
      unfold aut1 mark
      simp only
      rw [if_neg (by omega), if_pos trivial, if_neg (by omega)]
    obtain ⟨k, a1, a2, a3⟩ := aut_outs q n (7, s.2 - 1) (by simp; omega) (by simp) (by simp)
    rw [List.replicate_succ, aut, e]
    refine ⟨k, ?_, a2, a3⟩
    show aut (7, s.2 - 1) _ = _
    rw [a1]
    simp
    omega

/-- Blocks' own bottom: the source itself. -/
theorem pops_base (n : Nat) : ∀ l : List Nat, (∃ bs, l = bs ++ [0]) → ∃ bs, (pops n l).1 = bs ++ [0] := by
  rintro l ⟨bs, rfl⟩
  induction bs with
  | nil => exact ⟨[], rfl⟩
  | cons b bs ih =>
    rw [List.cons_append, pops]
    split
    · exact ih
    · exact ⟨b :: bs, rfl⟩
theorem indent_base {blk b : List Nat} {n : Nat} {q : Int} {m : List T4} (h : indent blk n q = .ok (m, b)) (hb : ∃ bs, blk = bs ++ [0]) : ∃ bs, b = bs ++ [0] := by
  unfold indent at h
  split at h
  · cases h
    obtain ⟨bs, rfl⟩ := hb
    exact ⟨n :: bs, rfl⟩
  · split at h
    · cases h; exact pops_base n blk hb
    · cases h

/-- What holds of the blocks while lines are read. -/
structure BInv (st : LS) : Prop where
  base : ∃ bs, st.blk = bs ++ [0]
  run : ∃ k, aut (0, 0) st.out = some (k, st.blk.length - 1) ∧ k ≠ 8 ∧ k ≠ 6 ∧ (st.opn = [] → (k = 0 ∨ k = 5)) ∧ (k = 0 → st.blk.length = 1)

theorem binv0 : BInv st0 := ⟨⟨[], rfl⟩, 0, rfl, by omega, by omega, fun _ => Or.inl rfl, fun _ => rfl⟩
theorem binv_step {st st' : LS} {x : Nat × Bs} (h : BInv st) (e : lineStep st x = .ok st') : BInv st' := by
  rcases lineStep_shape e with ⟨rfl, _⟩ | ⟨m, ts, hl, hb, ho, hm⟩
  · exact h
  · obtain ⟨k, hk, k8, k6, hko, hk0⟩ := h.run
    obtain ⟨bs, hbs⟩ := h.base
    have hkinds : ∀ y ∈ ts, 1 ≤ y.2.kind ∧ y.2.kind ≤ 4 := fun y hy => by
      have := lexAt_all _ _ _ _ (Nat.le_refl _) hl y hy
      exact ⟨this.2.2.1, this.2.2.2.1⟩
    -- what the indentation told
    have step : ∃ k1, aut (0, 0) (st.out ++ m) = some (k1, st'.blk.length - 1) ∧ k1 ≠ 8 ∧ (ts = [] → k1 = k ∧ st'.blk = st.blk) ∧ (∃ bs', st'.blk = bs' ++ [0]) := by
      rcases hm with ⟨_, rfl, hblk⟩ | ⟨hop, hi, hne⟩
      · rw [List.append_nil, hblk]
        exact ⟨k, hk, k8, fun _ => ⟨rfl, rfl⟩, h.base⟩
      · have hbase := indent_base hi h.base
        rw [aut_append, hk]
        unfold indent at hi
        split at hi
        · obtain ⟨rfl, hbb⟩ := Prod.mk.inj (Except.ok.inj hi)
          rw [← hbb] at hbase ⊢
          refine ⟨6, ?_, by omega, fun h => absurd h hne, hbase⟩
          show (aut1 (k, st.blk.length - 1) (mark 6 _)).bind _ = _
          have : aut1 (k, st.blk.length - 1) (mark 6 ((x.1 + blanksOf x.2 : Nat) : Int)) = some (6, st.blk.length - 1 + 1) := by
            unfold aut1 mark
            simp only
            rw [if_pos trivial, if_pos (hko hop)]
          rw [this]
          show aut _ [] = _
          rw [aut]
          congr 2
          rw [hbs]
          simp
        · split at hi
          · have hsum := pops_sum (blanksOf x.2) st.blk
            obtain ⟨bs', hb'⟩ := pops_base (blanksOf x.2) st.blk h.base
            have hlen : 1 ≤ (pops (blanksOf x.2) st.blk).1.length := by rw [hb']; simp
            obtain ⟨rfl, hbb⟩ := Prod.mk.inj (Except.ok.inj hi)
            rw [← hbb] at hbase ⊢
            obtain ⟨k2, a1, a2, a3⟩ := aut_outs ((x.1 + blanksOf x.2 : Nat) : Int) (pops (blanksOf x.2) st.blk).2 (k, st.blk.length - 1) (by simp; omega) k6 k8
            refine ⟨k2, ?_, a3, fun h => absurd h hne, hbase⟩
            show aut _ _ = _
            rw [a1]
            simp only [Option.some.injEq, Prod.mk.injEq, true_and]
            omega
          · cases hi
    obtain ⟨k1, h1, h18, h1e, hbase⟩ := step
    obtain ⟨k2, h2, h28, h2n, h2e⟩ := aut_toks ((x.1 + blanksOf x.2 : Nat) : Int) ts (k1, st'.blk.length - 1) hkinds h18
    have h3 : aut (0, 0) (st.out ++ m ++ ts.map (abs4 ((x.1 + blanksOf x.2 : Nat) : Int))) = some (k2, st'.blk.length - 1) := by
      rw [aut_append, h1]
      exact h2
    have h26 : k2 ≠ 6 := by
      by_cases hts : ts = []
      · rw [h2e hts]
        show k1 ≠ 6
        rw [(h1e hts).1]
        exact k6
      · have := h2n hts
        omega
    refine ⟨hbase, ?_⟩
    rw [ho]
    by_cases hop' : st'.opn = []
    · rw [if_pos hop', aut_append, h3]
      refine ⟨5, ?_, by omega, by omega, fun _ => Or.inr rfl, fun h => by omega⟩
      show (aut1 _ _).bind _ = _
      have : aut1 (k2, st'.blk.length - 1) (mark 5 ((x.1 + x.2.length : Nat) : Int)) = some (5, st'.blk.length - 1) := by
        unfold aut1 mark
        simp only
        rw [if_neg (by omega), if_neg (by omega), if_neg (by omega), if_pos trivial, if_neg (by omega)]
      rw [this]
      rfl
    · rw [if_neg hop', List.append_nil]
      refine ⟨k2, h3, h28, h26, fun h => absurd h hop', fun h0 => ?_⟩
      by_cases hts : ts = []
      · obtain ⟨e1, e2⟩ := h1e hts
        have := h2e hts
        simp only at this
        rw [e2]
        exact hk0 (by omega)
      · have := h2n hts
        omega
theorem binv_run : ∀ (xs : List (Nat × Bs)) (st st' : LS), BInv st → runL st xs = .ok st' → BInv st'
  | [], st, st', h, e => by rw [runL] at e; cases e; exact h
  | x :: xs, st, st', h, e => by
    rw [runL] at e
    cases hs : lineStep st x with
    | error y => rw [hs] at e; cases e
    | ok s2 => rw [hs] at e; exact binv_run xs s2 st' (binv_step h hs) e
/-- **All blocks that begin end, and the last token, it alone, says that the source ends.** -/
theorem layL_blocks {s : Bs} {ts : List T4} (h : layL s = .ok ts) : aut (0, 0) ts = some (8, 0) := by
  unfold layL at h
  cases hr : runL st0 (linesL s) with
  | error e => rw [hr] at h; cases h
  | ok st =>
    rw [hr] at h
    obtain ⟨⟨bs, hbs⟩, k, hk, k8, k6, hko, _⟩ := binv_run _ _ _ binv0 hr
    simp only at h
    unfold finish at h
    cases ho : st.opn with
    | cons o os => rw [ho] at h; cases h
    | nil =>
      rw [ho] at h
      cases h
      rw [aut_append, aut_append, hk]
      obtain ⟨k2, a1, a2, a3⟩ := aut_outs (s.length : Int) (st.blk.length - 1) (k, st.blk.length - 1) (Nat.le_refl _) k6 k8
      simp only [Option.bind_some]
      rw [a1]
      show (aut1 _ _).bind _ = _
      have : aut1 (k2, st.blk.length - 1 - (st.blk.length - 1)) (mark 8 (s.length : Int)) = some (8, 0) := by
        unfold aut1 mark
        simp only
        rw [if_neg (by omega), if_neg (by omega), if_pos trivial, if_neg (by omega), Nat.sub_self]
      rw [this]
      rfl

/-- What may be wrong. -/
def Code1 (e : Int) : Prop := e = 10 ∨ e = 11 ∨ e = 12 ∨ e = 20 ∨ e = 21
theorem lineStep_code {st : LS} {x : Nat × Bs} {p e : Int} (h : lineStep st x = .error (p, e)) : Code1 e := by
  have rest : ∀ {m : List T4} {blk : List Nat}, lineRest st m blk x = .error (p, e) → Code1 e := by
    intro m blk h
    unfold lineRest at h
    cases hl : lex (x.2.drop (blanksOf x.2)) with
    | error pe =>
      obtain ⟨q, er⟩ := pe
      rw [hl] at h
      cases h
      have := (lex_err hl).1
      unfold Code1
      omega
    | ok ts =>
      rw [hl] at h
      simp only at h
      cases hb : brk st.opn (ts.map (abs4 ((x.1 + blanksOf x.2 : Nat) : Int))) with
      | error q => rw [hb] at h; cases h; simp [Code1]
      | ok o => rw [hb] at h; cases h
  unfold lineStep at h
  split at h
  · split at h
    · cases h
    · split at h
      · cases h
      · split at h
        · rename_i er hi
          cases h
          unfold indent at hi
          split at hi
          · cases hi
          · split at hi
            · cases hi
            · cases hi; simp [Code1]
        · exact rest h
  · exact rest h
theorem runL_code : ∀ (xs : List (Nat × Bs)) (st : LS) (p e : Int), runL st xs = .error (p, e) → Code1 e
  | [], st, p, e, h => by cases h
  | x :: xs, st, p, e, h => by
    rw [runL] at h
    cases hs : lineStep st x with
    | error y => rw [hs] at h; cases h; exact lineStep_code hs
    | ok s2 => rw [hs] at h; exact runL_code xs s2 p e h
theorem layL_code {s : Bs} {p e : Int} (h : layL s = .error (p, e)) : Code1 e := by
  unfold layL at h
  cases hr : runL st0 (linesL s) with
  | error y => rw [hr] at h; cases h; exact runL_code _ _ _ _ hr
  | ok st =>
    rw [hr] at h
    simp only at h
    unfold finish at h
    split at h
    · cases h; simp [Code1]
    · cases h

theorem aut1_kind {s s' : Int × Nat} {t : T4} (h : aut1 s t = some s') : s'.1 = t.1 ∧ 1 ≤ t.1 ∧ t.1 ≤ 8 := by
  unfold aut1 at h
  split at h
  · rename_i e; split at h <;> cases h; exact ⟨e.symm, by omega, by omega⟩
  · split at h
    · rename_i e; split at h <;> cases h; exact ⟨e.symm, by omega, by omega⟩
    · split at h
      · rename_i e; split at h <;> cases h; exact ⟨e.symm, by omega, by omega⟩
      · split at h
        · rename_i e; split at h <;> cases h; exact ⟨e.symm, by omega, by omega⟩
        · split at h
          · rename_i e; split at h <;> cases h; exact ⟨rfl, by omega, by omega⟩
          · cases h
theorem aut_last : ∀ (xs : List T4) (z : T4) (s s' : Int × Nat), aut s (xs ++ [z]) = some s' → s'.1 = z.1 ∧ 1 ≤ z.1 := by
  intro xs z s s' h
  rw [aut_append] at h
  cases hx : aut s xs with
  | none => rw [hx] at h; cases h
  | some t =>
    rw [hx] at h
    simp only [Option.bind_some] at h
    rw [aut] at h
    cases ha : aut1 t z with
    | none => rw [ha] at h; cases h
    | some u =>
      rw [ha] at h
      cases h
      have := aut1_kind ha
      exact ⟨this.1, this.2.1⟩
/-- What a place in the middle says of what comes. -/
theorem aut_at {ts : List T4} {i : Nat} {x : T4} (h : aut (0, 0) ts = some (8, 0)) (hx : ts[i]? = some x) : ∃ k d k' d', aut (0, 0) (ts.take i) = some (k, d) ∧ aut1 (k, d) x = some (k', d') ∧ aut (0, 0) (ts.take (i + 1)) = some (k', d') ∧ aut (k', d') (ts.drop (i + 1)) = some (8, 0) := by
  have hi := (List.getElem?_eq_some_iff.1 hx).1
  have e : ts = ts.take i ++ x :: ts.drop (i + 1) := by
    conv => lhs; rw [← List.take_append_drop i ts]
    congr 1
    rw [List.drop_eq_getElem_cons hi]
    congr 1
    rw [List.getElem?_eq_getElem hi] at hx
    exact Option.some.inj hx
  have h0 := h
  rw [e, aut_append] at h
  cases h1 : aut (0, 0) (ts.take i) with
  | none => rw [h1] at h; cases h
  | some s =>
    rw [h1] at h
    simp only [Option.bind_some] at h
    rw [aut] at h
    cases h2 : aut1 s x with
    | none => rw [h2] at h; cases h
    | some s' =>
      rw [h2] at h
      refine ⟨s.1, s.2, s'.1, s'.2, rfl, h2, ?_, h⟩
      rw [List.take_add_one, hx, aut_append, h1]
      show aut s [x] = _
      rw [aut, h2]
      rfl
theorem aut_begin {d : Nat} {ts : List T4} (h : aut (6, d) ts = some (8, 0)) : ∃ y r, ts = y :: r ∧ 1 ≤ y.1 ∧ y.1 ≤ 4 := by
  cases ts with
  | nil => simp [aut] at h
  | cons y r =>
    refine ⟨y, r, rfl, ?_⟩
    rw [aut] at h
    cases ha : aut1 (6, d) y with
    | none => rw [ha] at h; cases h
    | some u =>
      unfold aut1 at ha
      simp at ha
      exact ha.2.2.2.2.1
theorem aut_none {d : Nat} {ts : List T4} (h : aut (8, d) ts = some (8, 0)) : ts = [] := by
  cases ts with
  | nil => rfl
  | cons y r =>
    exfalso
    rw [aut] at h
    have : aut1 (8, d) y = none := by
      unfold aut1
      simp
    rw [this] at h
    cases h
end Sp
end Go.Proofs.YtbdjccmcdifjcaaGreatDoor

/-
  What kraitref02.Tokens answers, at this program.
-/
set_option linter.unusedVariables false
set_option linter.unusedSimpArgs false
namespace Go.Proofs.YtbdjccmcdifjcaaGreatDoor
open Go.RowKit Go.Shelf

theorem mark2_is (k a : Int) (w : World) : Calls Tryz.prog 27 #[.int .i64 k, .int .i64 a] w fun e w' => e = .returned (.agg #[.int .i64 k, .int .i64 a, .string ⟨#[]⟩, .int .i64 0]) ∧ ∃ cs, w' = w.alloc (.cells cs 37) := by
  go_enter Tryz.func27, Tryz.ntmps27
  go_wp2
  refine bodyPost_ret (v := .agg #[.int .i64 k, .int .i64 a, .string ⟨#[]⟩, .int .i64 0]) (by simp [results, Tryz.results27, go_sem]) rfl ⟨rfl, ?_⟩
  exact ⟨_, rfl⟩
theorem own_base {w : World} {B B' T n k : Nat} {v : Value} {xs : List Value} (h : w.ownsRow B T n v k xs) (hb : B' ≤ B) : w.ownsRow B' T n v k xs := by
  refine ⟨h.1, ?_⟩
  rcases h.2 with hn | ⟨g, cap, cur, hv, hbg, rest⟩
  · exact .inl hn
  · exact .inr ⟨g, cap, cur, hv, Nat.le_trans hb hbg, rest⟩
theorem Lay3.tell {B : Nat} {v5 v6 v7 vl va : Value} {st : Sp.LS} {L : List (Nat × Sp.Bs)} {w w' : World} (h : Lay3 B v5 v6 v7 vl va st L w) {o : Obj} {k a : Int} {v' : Value}
    (hR : w'.ownsRow B 37 4 v' (st.out.length + 1) (st.out.flatMap c4 ++ [.int .i64 k, .int .i64 a, .string ⟨#[]⟩, .int .i64 0])) (hg : (w.alloc o).grownBy w' v5.ownBlock) (hat : v'.ownBlock = v5.ownBlock ∨ v'.ownBlock = some (w.heap.size + 1)) :
    Lay3 B v' v6 v7 vl va ⟨st.out ++ [Sp.mark k a], st.opn, st.blk⟩ L w' := by
  have h' := h.below ((Below.refl _ w).alloc (Nat.le_refl _) o)
  refine h'.out_more ?_ hg (by simpa using hat) ?_
  · unfold Row4
    rw [List.length_append, List.flatMap_append]
    exact hR
  · obtain ⟨g, cap, rfl⟩ := ownsRow_succ hR
    simp
theorem flat_len (l : List T4) : (l.flatMap c4).length = l.length * 4 := by
  induction l with
  | nil => rfl
  | cons x l ih => rw [List.flatMap_cons, List.length_append, ih]; simp [c4]; omega
theorem flat_one (l : List T4) : ∀ u ∈ l.flatMap c4, u.oneCell' = true := by
  intro u hu
  obtain ⟨x, _, hx⟩ := List.mem_flatMap.1 hu
  simp [c4] at hx
  rcases hx with rfl | rfl | rfl | rfl <;> rfl
def lenOf : Value → Nat
  | .slice _ n _ => n
  | _ => 0
theorem Sp.pops_base2 {n b : Nat} {l : List Nat} (h : n < b) (hb : ∃ bs, b :: l = bs ++ [0]) : ∃ bs, l = bs ++ [0] := by
  obtain ⟨bs, hbs⟩ := hb
  cases bs with
  | nil => simp at hbs; omega
  | cons y ys => simp at hbs; exact ⟨ys, hbs.2⟩

set_option maxHeartbeats 32000000 in
set_option maxRecDepth 100000 in
theorem tokens2_any (s : ByteArray) (hs : s.size ≤ 20000) (w : World) :
    Calls Tryz.prog 18 #[.string s] w fun e w' => LayEnd w.heap.size (Sp.layL s.data.toList) e w' ∧ Below w.heap.size w w' := by
  obtain ⟨iT, hiT, hT0, hT1, hT2⟩ := info_parts infoTok
  obtain ⟨iI, hiI, hI0, hI1, hI2⟩ := info_parts infoInt
  have HLI := Lib.hid (lines2_any s (by omega) (((w.alloc (Obj.cells #[] 37)).alloc (Obj.cells #[] 37)).alloc (Obj.cells #[.int .i64 0] 3)))
  obtain ⟨L, HL⟩ := hid_ex (Sp.linesL s.data.toList)
  rw [HL.out] at HLI
  have hLn : L.length ≤ s.size + 1 := by rw [← HL.out]; have := Sp.linesGo_len s.data.toList 0 [] 0; rw [size_list] at this; exact this
  have hLin : Hid (∀ x ∈ L, x.1 + x.2.length ≤ s.size) := by rw [← HL.out]; intro x hx; have := Sp.linesL_in s.data.toList x hx; rw [size_list] at this; exact this
  have hLsum : Hid (Sp.nextAt L = s.size + 1) := by show _ = _; rw [← HL.out, Sp.linesL_sum, size_list]
  obtain ⟨Z, HZ⟩ := hid_ex (Sp.layL s.data.toList)
  rw [HZ.out]
  have HZ2 : Hid (Z = match Sp.runL Sp.st0 L with
    | .error e => .error e
    | .ok st => Sp.finish s.size st) := by
    show _ = _
    rw [← HZ.out, ← HL.out]
    unfold Sp.layL
    rw [size_list]
    cases Sp.runL Sp.st0 (Sp.linesL s.data.toList) <;> rfl
  clear HZ
  go_enter Tryz.func18, Tryz.ntmps18
  go_wp2_with fail
  refine HLI.out.mono ?_
  rintro e w1 ⟨⟨vl, va, rfl, hsl, hpl⟩, hb1⟩
  have hz1 := hb1.size
  simp at hz1 hsl hpl hb1
  have HB1 : Hid (Below w.heap.size w w1) := (((((Below.refl _ w).alloc (Nat.le_refl _) _).alloc (by simp) _).alloc (by simp <;> omega) _).trans (hb1.mono (by omega)))
  have HLAY : Hid (Lay3 w.heap.size (.slice (some ⟨w.heap.size, 0, none⟩) 0 0) (.slice (some ⟨w.heap.size + 1, 0, none⟩) 0 0) (.slice (some ⟨w.heap.size + 2, 0, none⟩) 1 1) vl va Sp.st0 L w1) := by
    have r5 : w1.ownsRow w.heap.size 37 4 (.slice (some ⟨w.heap.size, 0, none⟩) 0 0) 0 [] := by
      have h := World.ownsRow_lit (base := w.heap.size) (e := 37) (size := 4) w #[] 0 (Nat.le_refl _) (Nat.zero_le _) rfl
      exact own_below ((h.alloc _).alloc _) (hb1.mono (by simp))
    have r6 : w1.ownsRow w.heap.size 37 4 (.slice (some ⟨w.heap.size + 1, 0, none⟩) 0 0) 0 [] := by
      have h := World.ownsRow_lit (base := w.heap.size) (e := 37) (size := 4) (w.alloc (Obj.cells #[] 37)) #[] 0 (by simp) (Nat.zero_le _) rfl
      simp at h
      exact own_below (h.alloc _) (hb1.mono (by simp))
    have r7 : w1.ownsRow w.heap.size 3 1 (.slice (some ⟨w.heap.size + 2, 0, none⟩) 1 1) 1 [.int .i64 0] := by
      have h := World.ownsRow_lit (base := w.heap.size) (e := 3) (size := 1) ((w.alloc (Obj.cells #[] 37)).alloc (Obj.cells #[] 37)) #[.int .i64 0] 1 (by simp; omega) (by decide) rfl
      simp at h
      exact own_below h (hb1.mono (by simp))
    refine ⟨r5, r6, r7, own_base hsl (by omega), own_base hpl (by omega), by simp, by simp, by simp, ?_, ?_⟩
    · intro g hg hg'
      simp [Value.ownBlock] at hg hg'
      omega
    · intro g hg hg'
      simp [Value.ownBlock] at hg
      have := (hpl.lt g hg').1
      omega
  clear hsl hpl hb1 HLI hz1
  go_wp2_with fail
  go_loopw [5, 6, 7, 10] (fun v5 v6 v7 v10 wr => ∃ (i : Nat) (st : Sp.LS), v10 = .int .i64 (i : Int) ∧ i ≤ L.length ∧ Hid (Lay3 w.heap.size v5 v6 v7 vl va st L wr) ∧ Hid (Below w.heap.size w wr) ∧ Hid (Sp.runL Sp.st0 (L.take i) = .ok st)) (fun _ _ _ v10 _ => L.length - (intOf v10).toNat)
  case atStart => exact ⟨0, Sp.st0, rfl, Nat.zero_le _, HLAY, HB1, rfl⟩
  case round =>
    clear HLAY HB1
    obtain ⟨i, st, rfl, hil, HLAY, HBW, HRUN⟩ := hrel
    have hbnd := Sp.runL_len _ _ _ HRUN.out
    have hsum : Sp.nextAt (L.take i) ≤ s.size + 1 := by
      have h1 := hLsum.out
      rw [← List.take_append_drop i L, Sp.nextAt_append] at h1
      omega
    simp only [Sp.st0, List.length_nil, List.length_cons, Nat.zero_add] at hbnd
    have hout : st.out.length + st.blk.length ≤ 61000 := by omega
    have hopn : st.opn.length ≤ 61000 := by omega
    have hbase : ∃ bs, st.blk = bs ++ [0] := (Sp.binv_run _ _ _ Sp.binv0 HRUN.out).base
    clear hbnd hsum
    by_cases hlt : i < L.length
    · obtain ⟨x, hx⟩ : ∃ x, L[i]? = some x := ⟨_, List.getElem?_eq_getElem hlt⟩
      have hxin := hLin.out x (List.mem_of_getElem? hx)
      have HNX : Hid (Sp.runL Sp.st0 (L.take (i + 1)) = Sp.lineStep st x) := by
        show _ = _
        rw [List.take_add_one, hx]
        exact Sp.runL_snoc _ x HRUN.out
      have HERR : Hid (∀ p, Sp.lineStep st x = .error p → Z = .error p) := by
        intro p hp
        have h1 : Sp.runL Sp.st0 L = .error p := by
          rw [← List.take_append_drop (i + 1) L, Sp.runL_append, HNX.out, hp]
        rw [HZ2.out, h1]
      obtain ⟨g, ga, cl, ca, rfl, rfl, hg, hga, hcl, hca⟩ := HLAY.out.line i x hx
      obtain ⟨at_, xl⟩ := x
      obtain ⟨lb, hlb⟩ : ∃ lb : ByteArray, lb = ⟨xl.toArray⟩ := ⟨_, rfl⟩
      have hlx : lb.data.toList = xl := by rw [hlb]
      simp only at hxin hcl hca
      rw [← hlb] at hcl
      subst hlx
      have HX := Lib.hid hx
      clear hx
      rw [size_list] at hxin
      have HCL := Lib.hid hcl
      have HCA := Lib.hid hca
      have i0' : (0 : Int) ≤ (i : Int) := by omega
      have i1 : (i : Int) < (L.length : Int) := by omega
      have hil2 : i ≤ 20001 := by omega
      have hlbz : lb.size ≤ 20000 := by omega
      obtain ⟨nb, HNB⟩ := hid_ex (Sp.blanksOf lb.data.toList)
      have hnb1 : nb ≤ lb.size := by rw [← HNB.out, ← size_list]; exact Sp.blanksOf_le _
      have HLT := Lib.hid hlt
      have HIL := Lib.hid hil
      clear hlb hLin hLsum HRUN hlt hil hLn
      go_upto_block 2 with (fail)
      go_cut [11] (fun v11 wx => v11 = .int .i64 (nb : Int) ∧ wx = wr)
      case first =>
        clear HCA HLAY HBW HNX HERR hout hopn hbase hxin HLT HIL
        go_wp2_with fail
        go_loopw [11] (fun v11 wx => ∃ b : Nat, v11 = .int .i64 (b : Int) ∧ b ≤ nb ∧ Hid (Sp.blanksOf (lb.data.toList.drop b) + b = nb) ∧ wx = wr) (fun v11 _ => lb.size - (intOf v11).toNat)
        case atStart => exact ⟨0, rfl, Nat.zero_le _, by show _ = _; rw [List.drop_zero, HNB.out]; rfl, rfl⟩
        case round =>
          obtain ⟨b, rfl, hb, HB, hw⟩ := hrel
          subst hw
          by_cases hbz : b < lb.size
          · have hd := get_drop lb b hbz
            by_cases h32 : lb[b].toNat = 32
            · have HN : Hid (Sp.blanksOf (lb.data.toList.drop (b + 1)) + (b + 1) = nb) := by
                show _ = _
                have h1 := HB.out
                rw [hd, Sp.blanksOf, if_pos h32] at h1
                omega
              have hbn : b + 1 ≤ nb := by have := HN.out; omega
              have b0 : (0 : Int) ≤ (b : Int) := by omega
              have b1 : (b : Int) < (lb.size : Int) := by omega
              have g32 : ((lb[b].toNat : Int) == 32) = true := by simp; omega
              clear hd HB HNB
              go_wp2_with fail
              exact ⟨⟨b + 1, by go_num, hbn, HN, by first | rfl | trivial⟩, by simp [intOf]; omega⟩
            · have hbe : b = nb := by
                have h1 := HB.out
                rw [hd, Sp.blanksOf, if_neg h32] at h1
                omega
              subst hbe
              have b0 : (0 : Int) ≤ (b : Int) := by omega
              have b1 : (b : Int) < (lb.size : Int) := by omega
              have g32 : ((lb[b].toNat : Int) == 32) = false := by simp; omega
              clear hd HB HNB
              go_wp2_with fail
              go_meet
              exact ⟨rfl, rfl⟩
          · have hbe : b = nb := by omega
            subst hbe
            have b1 : ¬ (b : Int) < (lb.size : Int) := by omega
            clear HB HNB
            go_wp2_with fail
            go_meet
            exact ⟨rfl, rfl⟩
      case rest =>
        obtain ⟨rfl, hw⟩ := hcut
        subst hw
        obtain ⟨q, hq⟩ : ∃ q : Nat, q = at_ + nb := ⟨_, rfl⟩
        have hqa : (at_ : Int) + (nb : Int) = (q : Int) := by omega
        have hql : q ≤ 20000 := by omega
        have HQ := Lib.hid hq
        clear hq
        obtain ⟨g6, c6, hu6, hc6, hg6, _, hcells6⟩ := HLAY.out.opn.laid2 HLAY.out.n6
        subst hu6
        have hl6 : st.opn.reverse.length = st.opn.length := List.length_reverse
        obtain ⟨k6, HK6⟩ := hid_ex st.opn.length
        rw [hl6, HK6.out] at HLAY ⊢
        have HCELL6 := Lib.hid hcells6
        have hk6 : k6 ≤ 61000 := by rw [← HK6.out]; exact hopn
        have HBASE := Lib.hid hbase
        clear hcells6 hl6 hc6 hbase
        go_upto_if 59 with (fail)
        go_cut [5, 7] (fun v5x v7x wx => ∃ (m : List T4) (bk : List Nat), Hid (Lay3 w.heap.size v5x (.slice (some ⟨g6, 0, none⟩) k6 c6) v7x (.slice (some ⟨g, 0, none⟩) L.length cl) (.slice (some ⟨ga, 0, none⟩) L.length ca) ⟨st.out ++ m, st.opn, bk⟩ L wx) ∧ Hid (Below w.heap.size w wx) ∧ m.length + bk.length ≤ st.blk.length + 2 ∧ Hid (Sp.lineStep st (at_, lb.data.toList) = Sp.lineRest st m bk (at_, lb.data.toList)))
        case first =>
          by_cases hop : st.opn = []
          · have hk0 : k6 = 0 := by rw [← HK6.out, hop]; rfl
            subst hk0
            have HLS : Hid (Sp.lineStep st (at_, lb.data.toList) = match lb.data.toList.drop nb with
                | [] => .ok st
                | c :: _ => if c.toNat = 35 then .ok st else match Sp.indent st.blk nb (q : Int) with
                  | .error e => .error e
                  | .ok (m, b) => Sp.lineRest st m b (at_, lb.data.toList)) := by
              show _ = _
              unfold Sp.lineStep
              rw [if_pos hop, HNB.out, HQ.out]
              cases lb.data.toList.drop nb <;> rfl
            have HGO : Hid (Sp.lineStep st (at_, lb.data.toList) = .ok st → Sp.runL Sp.st0 (L.take (i + 1)) = .ok st) := fun h => by rw [HNX.out, h]
            clear HNX hop
            by_cases hend : nb = lb.size
            · have HN : Hid (Sp.runL Sp.st0 (L.take (i + 1)) = .ok st) := HGO.out (by rw [HLS.out, hend, List.drop_of_length_le (by rw [size_list]; exact Nat.le_refl _)])
              have gend : ((nb : Int) == (lb.size : Int)) = true := by simp; omega
              clear HLS HGO
              go_wp2_with fail
              exact ⟨⟨i + 1, st, by go_num, by have := HLT.out; omega, HLAY, HBW, HN⟩, by have := HLT.out; simp [intOf]; omega⟩
            · have gend : ((nb : Int) == (lb.size : Int)) = false := by simp; omega
              have hnlt : nb < lb.size := by omega
              have hd := get_drop lb nb hnlt
              rw [hd] at HLS
              have n0 : (0 : Int) ≤ (nb : Int) := by omega
              have n1 : (nb : Int) < (lb.size : Int) := by omega
              by_cases h35 : lb[nb].toNat = 35
              · have HN : Hid (Sp.runL Sp.st0 (L.take (i + 1)) = .ok st) := HGO.out (by rw [HLS.out]; simp only; rw [if_pos h35])
                have g35 : ((lb[nb].toNat : Int) == 35) = true := by simp; omega
                clear HLS HGO hd
                go_wp2_with fail
                exact ⟨⟨i + 1, st, by go_num, by have := HLT.out; omega, HLAY, HBW, HN⟩, by have := HLT.out; simp [intOf]; omega⟩
              · have g35 : ((lb[nb].toNat : Int) == 35) = false := by simp; omega
                have HLI : Hid (Sp.lineStep st (at_, lb.data.toList) = match Sp.indent st.blk nb (q : Int) with
                  | .error e => .error e
                  | .ok (m, b) => Sp.lineRest st m b (at_, lb.data.toList)) := by
                  show _ = _
                  rw [HLS.out]
                  simp only
                  rw [if_neg h35]
                clear HLS HGO hd hend h35
                obtain ⟨b0, bl, hbl⟩ : ∃ b0 bl, st.blk = b0 :: bl := by
                  cases h : st.blk with
                  | nil => have := HBASE.out; rw [h] at this; obtain ⟨bs, hbs⟩ := this; simp at hbs
                  | cons b0 bl => exact ⟨b0, bl, rfl⟩
                obtain ⟨g7, c7, hu7, hc7, hg7, _, hcell7⟩ := RowI.form HLAY.out.blk HLAY.out.n7
                obtain ⟨m7, hm7⟩ : ∃ m7, m7 = bl.length := ⟨_, rfl⟩
                have hrl7 : st.blk.reverse.length = m7 + 1 := by rw [hbl, List.length_reverse, List.length_cons, hm7]
                have hlast7 : st.blk.reverse[m7]? = some b0 := by
                  rw [hbl, List.reverse_cons, List.getElem?_append_right (by rw [List.length_reverse]; omega), List.length_reverse, hm7]
                  simp
                have ht7 := hcell7 m7 b0 hlast7
                subst hu7
                rw [hrl7] at HLAY ⊢
                have hm7l : m7 ≤ 61000 := by
                  have : st.blk.length = m7 + 1 := by rw [hbl, List.length_cons, hm7]
                  omega
                have q0 : (0 : Int) ≤ (m7 : Int) := by omega
                have q1 : (m7 : Int) < (m7 : Int) + 1 := by omega
                have HM7 := Lib.hid hm7
                have HRL7 := Lib.hid hrl7
                have HBL := Lib.hid hbl
                clear hcell7 hlast7 hc7 hm7 hrl7 hbl
                go_upto_if 83 with (fail)
                go_cut [5, 7] (fun v5x v7x wx => ∃ (m1 : List T4) (bk1 : List Nat), Hid (Lay3 w.heap.size v5x (.slice (some ⟨g6, 0, none⟩) 0 c6) v7x (.slice (some ⟨g, 0, none⟩) L.length cl) (.slice (some ⟨ga, 0, none⟩) L.length ca) ⟨st.out ++ m1, st.opn, bk1⟩ L wx) ∧ Hid (Below w.heap.size w wx) ∧ m1.length ≤ 1 ∧ bk1.length + m1.length ≤ st.blk.length + 2 ∧ Hid (∃ bs, bk1 = bs ++ [0]) ∧ Hid (Sp.lineStep st (at_, lb.data.toList) = if (Sp.pops nb bk1).1.headD 0 = nb then Sp.lineRest st (m1 ++ List.replicate (Sp.pops nb bk1).2 (Sp.mark 7 (q : Int))) (Sp.pops nb bk1).1 (at_, lb.data.toList) else .error ((q : Int), 20)))
                case first =>
                  by_cases hgt : b0 < nb
                  · have ggt : ¬ ((nb : Int) ≤ (b0 : Int)) := by omega
                    have HN : Hid (Sp.lineStep st (at_, lb.data.toList) = if (Sp.pops nb (nb :: st.blk)).1.headD 0 = nb then Sp.lineRest st ([Sp.mark 6 (q : Int)] ++ List.replicate (Sp.pops nb (nb :: st.blk)).2 (Sp.mark 7 (q : Int))) (Sp.pops nb (nb :: st.blk)).1 (at_, lb.data.toList) else .error ((q : Int), 20)) := by
                      show _ = _
                      rw [HLI.out, Sp.pops_end (n := nb) (bs := nb :: st.blk) (by simp)]
                      unfold Sp.indent
                      rw [HBL.out, List.headD_cons, if_pos hgt]
                      simp
                    have HBS : Hid (∃ bs, nb :: st.blk = bs ++ [0]) := by
                      obtain ⟨bs, hbs⟩ := HBASE.out
                      exact ⟨nb :: bs, by rw [hbs]; rfl⟩
                    have hown7 := HLAY.out.blk
                    unfold RowI at hown7
                    rw [HRL7.out] at hown7
                    have hBz := HBW.out.size
                    clear HLI
                    go_wp2_with (at_builtin; refine wpList_append_own_at _ rfl _ _ 39 rfl w.heap.size 3 iI (.int .i64 0) 1 8 Tryz.underlying39 hiI hI0 hI1 hI2 rfl (by decide) _ _ _ rfl (hown7.alloc _) ⟨wc.heap.size, 0, none⟩ 1 1 [.int .i64 (nb : Int)] rfl rfl ?c1 ?c2 ?c3 ?c4 ?c5 ?_)
                    try (case c1 =>
                      intro j u hj
                      match j, hj with
                      | 0, hj => simp at hj; subst hj; simp [Addr.add])
                    case c2 => first | rfl | (intro u hu; simp at hu; subst hu; rfl)
                    case c3 => unfold maxLen; omega
                    case c4 => omega
                    case c5 => first | omega | (simp; omega)
                    intro v7n w2 hR7 hgrow7 hnil7 hat7
                    have HB2 : Hid (Below w.heap.size w w2) := (HBW.out.alloc hBz _).grown hgrow7 (by simp; omega) (fun j hj => (hown7.lt j hj).1)
                    have HL2 : Hid (Lay3 w.heap.size u5 (.slice (some ⟨g6, 0, none⟩) 0 c6) v7n (.slice (some ⟨g, 0, none⟩) L.length cl) (.slice (some ⟨ga, 0, none⟩) L.length ca) ⟨st.out, st.opn, nb :: st.blk⟩ L w2) := by
                      refine (HLAY.out.below ((Below.refl _ wc).alloc (Nat.le_refl _) _)).blk_more ?_ hgrow7 (by simpa using hat7) ?_
                      · unfold RowI intRow
                        rw [List.length_append, List.map_append, HRL7.out]
                        exact hR7
                      · obtain ⟨g', cap', rfl⟩ := ownsRow_succ hR7
                        simp
                    obtain ⟨g7n, c7n, rfl⟩ := ownsRow_succ hR7
                    clear hR7 hgrow7 hnil7 hat7 hown7 hBz HLAY HBW ht7
                    go_wp2_with fail
                    refine (mark2_any 6 (q : Int) w2).mono ?_
                    rintro e w3a ⟨rfl, hb3⟩
                    have HLa3 := Lib.hid (HL2.out.below hb3)
                    have HBa3 := Lib.hid (HB2.out.trans (hb3.mono HB2.out.size))
                    have hown3 : w3a.ownsRow w.heap.size 37 4 _ (st.out).length ((st.out).flatMap c4) := HLa3.out.out
                    have hBz3 : w.heap.size ≤ w3a.heap.size := HBa3.out.size
                    clear hb3 HL2 HB2
                    go_wp2_with (at_builtin; refine wpList_append_own_at _ rfl _ _ 25 rfl w.heap.size 37 iT (.agg #[.int .i64 0, .int .i64 0, .string ⟨#[]⟩, .int .i64 0]) 4 40 Tryz.underlying25 hiT hT0 hT1 hT2 rfl (by decide) _ _ _ rfl (hown3.alloc _) ⟨w3a.heap.size, 0, none⟩ 1 1 [.int .i64 6, .int .i64 (q : Int), .string ⟨#[]⟩, .int .i64 0] rfl rfl ?k13 ?k23 ?k33 ?k43 ?k53 ?_)
                    try (case k13 =>
                      intro j u hj
                      match j, hj with
                      | 0, hj => simp at hj; subst hj; simp [Addr.add]
                      | 1, hj => simp at hj; subst hj; simp [Addr.add]
                      | 2, hj => simp at hj; subst hj; simp [Addr.add]
                      | 3, hj => simp at hj; subst hj; simp [Addr.add])
                    try (case k23 => first | rfl | exact ⟨rfl, rfl, rfl, rfl⟩ | (intro u hu; simp at hu; rcases hu with rfl | rfl | rfl | rfl <;> rfl) | simp [Value.oneCell'])
                    try (case k33 => unfold maxLen; omega)
                    try (case k43 => omega)
                    try (case k53 => first | omega | (simp; omega))
                    intro v5n3 w3b hR3 hgrow3 hnil3 hat3
                    have HB3 : Hid (Below w.heap.size w w3b) := (HBa3.out.alloc hBz3 _).grown hgrow3 (by simp; omega) (fun j hj => (hown3.lt j hj).1)
                    have HL3 := Lib.hid (HLa3.out.tell hR3 hgrow3 (by simpa using hat3))
                    obtain ⟨g3, cap3, rfl⟩ := ownsRow_succ hR3
                    clear hR3 hgrow3 hnil3 hat3 hown3 hBz3 HLa3 HBa3
                    go_wp2_with fail
                    go_meet
                    exact ⟨[Sp.mark 6 (q : Int)], nb :: st.blk, HL3, HB3, by simp, by simp, HBS, HN⟩
                  · have ggt : (nb : Int) ≤ (b0 : Int) := by omega
                    have HN : Hid (Sp.lineStep st (at_, lb.data.toList) = if (Sp.pops nb st.blk).1.headD 0 = nb then Sp.lineRest st ([] ++ List.replicate (Sp.pops nb st.blk).2 (Sp.mark 7 (q : Int))) (Sp.pops nb st.blk).1 (at_, lb.data.toList) else .error ((q : Int), 20)) := by
                      show _ = _
                      rw [HLI.out]
                      unfold Sp.indent
                      rw [if_neg (by rw [HBL.out, List.headD_cons]; exact hgt), List.nil_append]
                      by_cases hh : (Sp.pops nb st.blk).1.headD 0 = nb
                      · rw [if_pos hh, if_pos hh]
                      · rw [if_neg hh, if_neg hh]
                    clear HLI
                    go_wp2_with fail
                    go_meet
                    exact ⟨[], st.blk, by simpa using HLAY, HBW, by simp, by simp, HBASE, HN⟩
                clear HLAY HBW ht7 hcl hca hg hga hg6 hg7 HLI HBL HRL7 HM7 HBASE
                obtain ⟨m1, bk1, HLAY, HBW, hm1, hbm1, HBASE, HLI⟩ := hcut
                have hbk1 : bk1.length ≤ 61100 := by omega
                go_wp2_with fail
                go_loopw [5, 7] (fun v5 v7 wx => ∃ (O : List T4) (bk : List Nat) (k : Nat), Hid (O = st.out ++ (m1 ++ List.replicate k (Sp.mark 7 (q : Int)))) ∧ Hid (∃ bs, bk = bs ++ [0]) ∧ bk.length + k = bk1.length ∧ O.length ≤ st.out.length + k + 1 ∧ Hid (Lay3 w.heap.size v5 (.slice (some ⟨g6, 0, none⟩) 0 c6) v7 (.slice (some ⟨g, 0, none⟩) L.length cl) (.slice (some ⟨ga, 0, none⟩) L.length ca) ⟨O, st.opn, bk⟩ L wx) ∧ Hid (Below w.heap.size w wx) ∧ Hid (Sp.pops nb bk1 = ((Sp.pops nb bk).1, (Sp.pops nb bk).2 + k))) (fun _ v7 _ => lenOf v7)
                case atStart => exact ⟨st.out ++ m1, bk1, 0, by show _ = _; simp, HBASE, by omega, by rw [List.length_append]; omega, HLAY, HBW, by show _ = _; rfl⟩
                case round =>
                  clear HLAY HBW
                  obtain ⟨O, bk, k, HO, HBS, hlen, hol, HLAY, HBW, HP⟩ := hrel
                  obtain ⟨b1, bl1, rfl⟩ : ∃ b1 bl1, bk = b1 :: bl1 := by
                    cases h : bk with
                    | nil => have := HBS.out; rw [h] at this; obtain ⟨bs, hbs⟩ := this; simp at hbs
                    | cons b1 bl1 => exact ⟨b1, bl1, rfl⟩
                  obtain ⟨g8, c8, hu8, hc8, hg8, _, hcell8⟩ := RowI.form HLAY.out.blk HLAY.out.n7
                  simp only at hu8 hcell8 hc8
                  obtain ⟨m8, hm8⟩ : ∃ m8, m8 = bl1.length := ⟨_, rfl⟩
                  have hrl8 : (b1 :: bl1).reverse.length = m8 + 1 := by rw [List.length_reverse, List.length_cons, hm8]
                  have ht8 := hcell8 m8 b1 (by
                    rw [List.reverse_cons, List.getElem?_append_right (by rw [List.length_reverse]; omega), List.length_reverse, hm8]
                    simp)
                  rw [hrl8] at hu8 hc8
                  subst hu8
                  have hm8l : m8 ≤ 61200 := by
                    rw [List.length_cons, ← hm8] at hlen
                    omega
                  have hol2 : O.length ≤ 130000 := by omega
                  have q0' : (0 : Int) ≤ (m8 : Int) := by omega
                  have q1' : (m8 : Int) < (m8 : Int) + 1 := by omega
                  have q2' : (m8 : Int) ≤ (c8 : Int) := by omega
                  have HM8 := Lib.hid hm8
                  clear hcell8 hc8 hrl8 hm8
                  by_cases hlt8 : nb < b1
                  · have hp := Sp.pops_step hlt8 (bs := bl1)
                    have HP2 : Hid (Sp.pops nb bk1 = ((Sp.pops nb bl1).1, (Sp.pops nb bl1).2 + (k + 1))) := by
                      show _ = _
                      rw [HP.out, hp]
                      simp only [Prod.mk.injEq, true_and]
                      omega
                    have HBS2 := Lib.hid (Sp.pops_base2 hlt8 HBS.out)
                    have HL2 := Lib.hid (Lay3.blk_less HLAY.out rfl HM8.out.symm)
                    have HO2 : Hid (O ++ [Sp.mark 7 (q : Int)] = st.out ++ (m1 ++ List.replicate (k + 1) (Sp.mark 7 (q : Int)))) := by
                      show _ = _
                      rw [HO.out, List.replicate_succ', List.append_assoc, List.append_assoc]
                    have g8' : (nb : Int) < (b1 : Int) := by omega
                    have hln : bl1.length + (k + 1) = bk1.length := by rw [List.length_cons] at hlen; omega
                    have hoo : (O ++ [Sp.mark 7 (q : Int)]).length ≤ st.out.length + (k + 1) + 1 := by rw [List.length_append]; simp; omega
                    clear hp HP HBS HLAY HO hlen hol
                    go_wp2_with fail
                    refine (mark2_any 7 (q : Int) wr).mono ?_
                    rintro e w4a ⟨rfl, hb4⟩
                    have HLa4 := Lib.hid (HL2.out.below hb4)
                    have HBa4 := Lib.hid (HBW.out.trans (hb4.mono HBW.out.size))
                    have hown4 : w4a.ownsRow w.heap.size 37 4 _ (O).length ((O).flatMap c4) := HLa4.out.out
                    have hBz4 : w.heap.size ≤ w4a.heap.size := HBa4.out.size
                    clear hb4 HL2 HBW
                    go_wp2_with (at_builtin; refine wpList_append_own_at _ rfl _ _ 25 rfl w.heap.size 37 iT (.agg #[.int .i64 0, .int .i64 0, .string ⟨#[]⟩, .int .i64 0]) 4 40 Tryz.underlying25 hiT hT0 hT1 hT2 rfl (by decide) _ _ _ rfl (hown4.alloc _) ⟨w4a.heap.size, 0, none⟩ 1 1 [.int .i64 7, .int .i64 (q : Int), .string ⟨#[]⟩, .int .i64 0] rfl rfl ?k14 ?k24 ?k34 ?k44 ?k54 ?_)
                    try (case k14 =>
                      intro j u hj
                      match j, hj with
                      | 0, hj => simp at hj; subst hj; simp [Addr.add]
                      | 1, hj => simp at hj; subst hj; simp [Addr.add]
                      | 2, hj => simp at hj; subst hj; simp [Addr.add]
                      | 3, hj => simp at hj; subst hj; simp [Addr.add])
                    try (case k24 => first | rfl | exact ⟨rfl, rfl, rfl, rfl⟩ | (intro u hu; simp at hu; rcases hu with rfl | rfl | rfl | rfl <;> rfl) | simp [Value.oneCell'])
                    try (case k34 => unfold maxLen; omega)
                    try (case k44 => omega)
                    try (case k54 => first | omega | (simp; omega))
                    intro v5n4 w4b hR4 hgrow4 hnil4 hat4
                    have HB4 : Hid (Below w.heap.size w w4b) := (HBa4.out.alloc hBz4 _).grown hgrow4 (by simp; omega) (fun j hj => (hown4.lt j hj).1)
                    have HL4 := Lib.hid (HLa4.out.tell hR4 hgrow4 (by simpa using hat4))
                    obtain ⟨g4, cap4, rfl⟩ := ownsRow_succ hR4
                    clear hR4 hgrow4 hnil4 hat4 hown4 hBz4 HLa4 HBa4
                    go_wp2_with fail
                    exact ⟨⟨O ++ [Sp.mark 7 (q : Int)], bl1, k + 1, HO2, HBS2, hln, hoo, HL4, HB4, HP2⟩, by simp [lenOf]⟩
                  · have hpe := Sp.pops_end (n := nb) (bs := b1 :: bl1) (by simpa using hlt8)
                    have g8' : (b1 : Int) ≤ (nb : Int) := by omega
                    by_cases heq : nb = b1
                    · have geq : ((nb : Int) != (b1 : Int)) = false := by simp; omega
                      have HN : Hid (Sp.lineStep st (at_, lb.data.toList) = Sp.lineRest st (m1 ++ List.replicate k (Sp.mark 7 (q : Int))) (b1 :: bl1) (at_, lb.data.toList)) := by
                        show _ = _
                        rw [HLI.out, HP.out, hpe]
                        simp only [List.headD_cons, Nat.zero_add]
                        rw [if_pos heq.symm]
                      have HLF : Hid (Lay3 w.heap.size u5 (.slice (some ⟨g6, 0, none⟩) 0 c6) (.slice (some ⟨g8, 0, none⟩) (m8 + 1) c8) (.slice (some ⟨g, 0, none⟩) L.length cl) (.slice (some ⟨ga, 0, none⟩) L.length ca) ⟨st.out ++ (m1 ++ List.replicate k (Sp.mark 7 (q : Int))), st.opn, b1 :: bl1⟩ L wr) := by
                        rw [← HO.out]
                        exact HLAY
                      have hlm : (m1 ++ List.replicate k (Sp.mark 7 (q : Int))).length + (b1 :: bl1).length ≤ st.blk.length + 2 := by rw [List.length_append, List.length_replicate]; omega
                      clear hpe HLI HP HO HLAY hlt8 heq
                      go_wp2_with fail
                      go_meet
                      exact ⟨_, _, HLF, HBW, hlm, HN⟩
                    · have geq : ((nb : Int) != (b1 : Int)) = true := by simp; omega
                      have HN : Hid (Z = .error ((q : Int), 20)) := by
                        apply HERR.out
                        rw [HLI.out, HP.out, hpe]
                        exact if_neg (fun h => heq (Eq.symm h))
                      clear hpe HLI HP HO hlt8 heq
                      go_wp2_with fail
                      go_ret3
                      refine ⟨?_, HBW.out⟩
                      rw [HN.out]
                      rfl
          · have gk : ((k6 : Int) == 0) = false := by
              have : k6 ≠ 0 := fun h => hop (List.eq_nil_of_length_eq_zero (HK6.out.trans h))
              simp
              omega
            have HN : Hid (Sp.lineStep st (at_, lb.data.toList) = Sp.lineRest st [] st.blk (at_, lb.data.toList)) := by
              show _ = _
              unfold Sp.lineStep
              rw [if_neg hop]
            clear hop
            go_wp2_with fail
            go_meet
            exact ⟨[], st.blk, by simpa using HLAY, HBW, by simp, HN⟩
        case rest =>
          clear HLAY HBW hcl hca hg hga hg6 HCL HCA HCELL6 HBASE
          obtain ⟨m, bk, HLAY, HBW, hmb, HN⟩ := hcut
          obtain ⟨_, _, _, _, e1, e2, hg, hga, hcl, hca⟩ := HLAY.out.line i _ HX.out
          cases e1
          cases e2
          simp only [toArray_data] at hcl hca
          obtain ⟨rb, HRB⟩ := hid_ex (lb.extract nb lb.size)
          have HRL : Hid (rb.data.toList = lb.data.toList.drop nb) := by
            show _ = _
            rw [← HRB.out, extract_list, List.take_of_length_le (by rw [List.length_drop, size_list]; omega)]
          have hrbs : rb.size ≤ 20000 := by
            have := congrArg List.length HRL.out
            rw [size_list, List.length_drop, size_list] at this
            omega
          have HLN := Lib.hid (rline_any rb (by omega) (q : Int) wc)
          obtain ⟨lx, HLX⟩ := hid_ex (Sp.lex rb.data.toList)
          rw [HLX.out] at HLN
          obtain ⟨q1, hq1'⟩ : ∃ q1 : Nat, q1 = at_ + lb.size := ⟨_, rfl⟩
          have hq1 : (at_ : Int) + (lb.size : Int) = (q1 : Int) := by omega
          have hq1l : q1 ≤ 20000 := by omega
          have HN2 : Hid (Sp.lineStep st (at_, lb.data.toList) = match (motive := Except (Nat × Int) (List (Nat × Sp.Tk)) → Except (Int × Int) Sp.LS) lx with
            | .error (p, e) => .error (wrap64 ((q : Int) + (p : Int)), e)
            | .ok ts => match Sp.brk st.opn (ts.map (abs4 (q : Int))) with
              | .error p => .error (p, 21)
              | .ok o => .ok ⟨st.out ++ m ++ ts.map (abs4 (q : Int)) ++ (if o = [] then [Sp.mark 5 (q1 : Int)] else []), o, bk⟩) := by
            show _ = _
            rw [HN.out]
            unfold Sp.lineRest
            simp only [HNB.out, ← HRL.out, HLX.out, ← HQ.out, size_list, hq1']
            cases lx <;> rfl
          have hre := HRB.out
          have n1 : (nb : Int) ≤ (lb.size : Int) := by omega
          have n0 : (0 : Int) ≤ (nb : Int) := by omega
          clear hq1' HN HNB HQ HRL HRB
          go_wp2_with fail
          refine HLN.out.mono ?_
          clear HLN hre
          rintro e w3 ⟨he, hb3⟩
          have HB3 : Hid (Below w.heap.size w w3) := HBW.out.trans (hb3.mono HBW.out.size)
          cases lx with
          | error pe =>
            obtain ⟨p, er⟩ := pe
            obtain rfl : e = _ := he
            have her := (lex_err HLX.out).1
            have ger : ((er : Int) != 0) = true := by rcases her with rfl | rfl | rfl <;> decide
            have HZE := Lib.hid (HERR.out _ HN2.out)
            clear her HLX hb3
            go_wp2_with fail
            go_ret3
            refine ⟨?_, HB3.out⟩
            rw [HZE.out]
            rfl
          | ok ts =>
            obtain ⟨vt, rfl, hT⟩ := he
            have hts : ts.length ≤ 60000 := by have := Sp.lex_count HLX.out; rw [size_list] at this; omega
            have hrow := hT.row4
            obtain ⟨T, HTT⟩ := hid_ex (ts.map (abs4 (q : Int)))
            have hTl : T.length ≤ 60000 := by rw [← HTT.out, List.length_map]; exact hts
            simp only at HN2
            rw [HTT.out] at hrow HN2
            have HLAY3 := Lib.hid (HLAY.out.below hb3)
            have HBK := Lib.hid (brackets2_any w.heap.size wc.heap.size (.slice (some ⟨g6, 0, none⟩) k6 c6) vt st.opn T w3 HLAY3.out.opn (by simp) hrow (by omega) (by omega))
            have hcl3 := (hb3.cell (p := ⟨g, i, none⟩) hg).trans hcl
            have hca3 := (hb3.cell (p := ⟨ga, i, none⟩) hga).trans hca
            have hg3 := Nat.lt_of_lt_of_le hg hb3.size
            have hga3 := Nat.lt_of_lt_of_le hga hb3.size
            obtain ⟨X, HXB⟩ := hid_ex (Sp.brk st.opn T)
            have hXl : ∀ o, X = .ok o → o.length ≤ 130000 := by
              intro o ho
              have := Sp.brk_len T st.opn o (HXB.out.trans ho)
              omega
            rw [HXB.out] at HBK HN2
            have HROW := Lib.hid hrow
            clear hT hrow hcl hca hg hga HLAY HBW hb3 HTT HLX HXB
            go_wp2_with fail
            refine HBK.out.mono ?_
            clear HBK
            rintro e w4 ⟨he, hb4⟩
            have HB4 : Hid (Below w.heap.size w w4) := HB3.out.trans (hb4.mono HB3.out.size)
            cases X with
            | error p =>
              obtain rfl : e = _ := he
              have HZE := Lib.hid (HERR.out _ HN2.out)
              clear hb4
              go_wp2_with fail
              go_ret3
              refine ⟨?_, HB4.out⟩
              rw [HZE.out]
              rfl
            | ok o =>
              obtain ⟨v6n, rfl, hn6, hR6⟩ := he
              have hol := hXl o rfl
              have HLAY4 := Lib.hid (HLAY3.out.opn_set hb4 HB3.out.size hR6 hn6)
              have HROW4 := Lib.hid (HROW.out.below hb4)
              have hcl4 := (hb4.cell (p := ⟨g, i, none⟩) hg3).trans hcl3
              have hca4 := (hb4.cell (p := ⟨ga, i, none⟩) hga3).trans hca3
              have hBz4 := HB4.out.size
              obtain ⟨g6n, c6n, hu6, _, _, _, _⟩ := HLAY4.out.opn.laid2 HLAY4.out.n6
              subst hu6
              have hml : m.length ≤ 61100 := by omega
              have hol1 : (st.out ++ m).length ≤ 130000 := by rw [List.length_append]; omega
              have hown5 : w4.ownsRow w.heap.size 37 4 _ (st.out ++ m).length ((st.out ++ m).flatMap c4) := HLAY4.out.out
              clear hR6 hn6 hb4 HLAY3 HROW hcl3 hca3 hg3 hga3 hXl HB3
              go_upto_region 29 with (fail)
              go_cut [5] (fun v5x wx => Hid (Lay3 w.heap.size v5x (.slice (some ⟨g6n, 0, none⟩) o.reverse.length c6n) u7 (.slice (some ⟨g, 0, none⟩) L.length cl) (.slice (some ⟨ga, 0, none⟩) L.length ca) ⟨st.out ++ m ++ T, o, bk⟩ L wx) ∧ Hid (Below w.heap.size w wx))
              case first =>
                by_cases hvt : vt = .slice none 0 0
                · subst hvt
                  have hT0 : T = [] := by
                    obtain ⟨pa, cap, h, _⟩ := HROW4.out.form
                    simp at h
                    exact List.eq_nil_of_length_eq_zero h.2.1.symm
                  subst hT0
                  go_wp2_with (at_builtin; refine wpList_append_own_none rfl _ _ 25 rfl w.heap.size 37 iT 4 Tryz.underlying25 hiT _ _ _ rfl hown5 rfl ?_)
                  go_meet
                  exact ⟨by simpa using HLAY4, HB4⟩
                · obtain ⟨gt, ct, hvt2, _, _, _, hct⟩ := HROW4.out.laid2 hvt
                  subst hvt2
                  have hTf : (T.flatMap c4).length = T.length * 4 := flat_len T
                  have hT1c : ∀ u ∈ T.flatMap c4, u.oneCell' = true := flat_one T
                  clear hvt
                  go_wp2_with (at_builtin; refine wpList_append_own_at _ rfl _ _ 25 rfl w.heap.size 37 iT (.agg #[.int .i64 0, .int .i64 0, .string ⟨#[]⟩, .int .i64 0]) 4 40 Tryz.underlying25 hiT hT0 hT1 hT2 rfl (by decide) _ _ _ rfl hown5 ⟨gt, 0, none⟩ T.length ct (T.flatMap c4) rfl hTf hct hT1c ?f1 ?f2 hBz4 ?_)
                  case f1 => unfold maxLen; omega
                  case f2 => omega
                  intro v5n w5 hR5 hgrow5 hnil5 hat5
                  have HB5 : Hid (Below w.heap.size w w5) := HB4.out.grown hgrow5 hBz4 (fun j hj => (hown5.lt j hj).1)
                  have hn5 : v5n ≠ .slice none 0 0 := fun h => HLAY4.out.n5 (hnil5.1 h).1
                  have HLF := Lib.hid (HLAY4.out.out_more (ms := T) (by
                    show w5.ownsRow w.heap.size 37 4 v5n (st.out ++ m ++ T).length ((st.out ++ m ++ T).flatMap c4)
                    rw [List.length_append, List.length_append, List.flatMap_append, List.flatMap_append, List.append_assoc]
                    exact hR5) hgrow5 hat5 hn5)
                  clear hR5 hgrow5 hnil5 hat5 hn5
                  go_wp2_with fail
                  go_meet
                  exact ⟨HLF, HB5⟩
              case rest =>
                have hol3 : (st.out ++ m ++ T).length ≤ 200000 := by rw [List.length_append]; omega
                clear HLAY4 HB4 hown5 HROW4 hcl4 hca4 hBz4
                obtain ⟨HLAY, HBW⟩ := hcut
                obtain ⟨_, _, _, _, e1, e2, hg, hga, hcl, hca⟩ := HLAY.out.line i _ HX.out
                cases e1
                cases e2
                simp only [toArray_data] at hcl hca
                have hrl : o.reverse.length = o.length := List.length_reverse
                obtain ⟨ko, HKO⟩ := hid_ex o.length
                try rw [hrl] at HLAY
                try rw [hrl]
                rw [HKO.out] at HLAY ⊢
                clear hrl
                by_cases ho : o = []
                · subst ho
                  obtain rfl : 0 = ko := HKO.out
                  have HN3 : Hid (Sp.runL Sp.st0 (L.take (i + 1)) = .ok ⟨st.out ++ m ++ T ++ [Sp.mark 5 (q1 : Int)], [], bk⟩) := by
                    show _ = _
                    rw [HNX.out, HN2.out, if_pos rfl]
                  obtain ⟨O5, HO5⟩ := hid_ex (st.out ++ m ++ T)
                  rw [HO5.out] at HLAY HN3 hol3
                  have hown8 : wc.ownsRow w.heap.size 37 4 u5 O5.length (O5.flatMap c4) := HLAY.out.out
                  have hBz8 := HBW.out.size
                  have i2 : (i : Int) < (L.length : Int) := i1
                  have hw1 : IntKind.i64.wrap (q1 : Int) = (q1 : Int) := IntWalk.i64_in _ (by omega)
                  have hw2 : IntKind.i64.wrap ((at_ : Int) + (lb.size : Int)) = (q1 : Int) := by rw [hq1]; exact hw1
                  have hnew : ∀ o1 o2 : Obj, ((wc.alloc o1).alloc o2).drew.heap[wc.heap.size + 1]? = some o2 := fun o1 o2 => by
                    have h1 := heap_alloc_new (wc.alloc o1) o2
                    have e1 : (wc.alloc o1).heap.size = wc.heap.size + 1 := by simp
                    rw [e1] at h1
                    exact h1
                  have aga : some ga ≠ u5.ownBlock := fun h => (Apart.types HLAY.out.out HLAY.out.plc (by decide)) ga h.symm rfl
                  have agl : some g ≠ u5.ownBlock := fun h => (Apart.types HLAY.out.out HLAY.out.str (by decide)) g h.symm rfl
                  have old8 : ∀ (o1 o2 : Obj) (a : Addr) (v : Value), a.block < wc.heap.size → wc.cell? a = some v → ((wc.alloc o1).alloc o2).drew.cell? a = some v := fun o1 o2 a v ha hv => by
                    rw [World.cell?_drew, World.cell?_alloc_lt _ _ _ (by simp; omega), World.cell?_alloc_lt _ _ _ ha]
                    exact hv
                  have hm63 : O5.length + 1 ≤ maxLen := by unfold maxLen; omega
                  have hby5 : (O5.length + 1) * 40 ≤ 140737488355328 := by omega
                  clear HNX HN2
                  go_wp2_with fail
                  go_region_held3 (fun w' => w'.cell? ⟨ga, i, none⟩ = some (.int .i64 (at_ : Int)) ∧ w'.cell? ⟨g, i, none⟩ = some (.string lb))
                    (first
                      | go_keep
                      | (refine ⟨?_, ?_⟩
                         · (rw [World.cell?_alloc_lt _ _ _ (by simpa using hga)]; assumption)
                         · (rw [World.cell?_alloc_lt _ _ _ (by simpa using hg)]; assumption))
                      | (refine ⟨?_, ?_⟩
                         · (rw [hgrow9.cell_far _ (by simp; omega) aga]; exact old8 _ _ _ _ hga hca)
                         · (rw [hgrow9.cell_far _ (by simp; omega) agl]; exact old8 _ _ _ _ hg hcl)))
                    ((first
                      | (go_at_call 27; refine (mark2_is 5 (q1 : Int) _).mono ?_; rintro e w5 ⟨rfl, cs5, rfl⟩)
                      | (refine step_append_lies _ (by rfl) _ _ _ (by rfl) w.heap.size 37 iT (.agg #[.int .i64 0, .int .i64 0, .string ⟨#[]⟩, .int .i64 0]) 4 40 Tryz.underlying25 hiT hT0 hT1 hT2 rfl (by decide) u5 O5.length (O5.flatMap c4) (by rfl) (((hown8.alloc _).alloc _).drew)
                          ⟨wc.heap.size + 1, 0, none⟩ 1 1 [.int .i64 5, .int .i64 (q1 : Int), .string ⟨#[]⟩, .int .i64 0] (by rfl) (by rfl) (World.news_of_block (cs := #[.int .i64 5, .int .i64 (q1 : Int), .string ⟨#[]⟩, .int .i64 0]) (t := 37) (fr := (0, 0)) (hnew _ _)) (by simp [Value.oneCell'])
                          (by omega) hm63 hby5 (by simp; omega) (wc.heap.size + 2) (by simp) ?_; intro g9 c9 w9 hR9 hgrow9 hat9 hlt9)))
                  have HB9 : Hid (Below w.heap.size w w9) := (((HBW.out.alloc hBz8 _).alloc (by simp; omega) _).drew).grown hgrow9 (by simp; omega) (fun j hj => (hown8.lt j hj).1)
                  have HL9 : Hid (Lay3 w.heap.size (.slice (some ⟨g9, 0, none⟩) (O5.length + 1) c9) (.slice (some ⟨g6n, 0, none⟩) 0 c6n) u7 (.slice (some ⟨g, 0, none⟩) L.length cl) (.slice (some ⟨ga, 0, none⟩) L.length ca) ⟨O5 ++ [Sp.mark 5 (q1 : Int)], [], bk⟩ L w9) := by
                    refine (HLAY.out.below ((((Below.refl wc.heap.size wc).alloc (Nat.le_refl _) _).alloc (by simp) _).drew)).out_more ?_ hgrow9 ?_ (by simp)
                    · show w9.ownsRow w.heap.size 37 4 _ (O5 ++ [Sp.mark 5 (q1 : Int)]).length ((O5 ++ [Sp.mark 5 (q1 : Int)]).flatMap c4)
                      rw [List.length_append, List.flatMap_append]
                      exact hR9
                    · rcases hat9 with h | h
                      · exact Or.inl h.symm
                      · right
                        rw [h]
                        simp [Value.ownBlock]
                  clear hR9 hgrow9 hat9 hlt9 hown8 HLAY HBW hw1 hw2 hcl hca hg hga hnew aga agl old8 hm63 hby5
                  go_wp2_with fail
                  exact ⟨⟨i + 1, ⟨O5 ++ [Sp.mark 5 (q1 : Int)], [], bk⟩, by go_num, by have := HLT.out; omega, HL9, HB9, HN3⟩, by have := HLT.out; simp [intOf]; omega⟩
                · have HN3 : Hid (Sp.runL Sp.st0 (L.take (i + 1)) = .ok ⟨st.out ++ m ++ T, o, bk⟩) := by
                    show _ = _
                    rw [HNX.out, HN2.out, if_neg ho, List.append_nil]
                  have gko : ((ko : Int) == 0) = false := by
                    have : ko ≠ 0 := fun h => ho (List.eq_nil_of_length_eq_zero (HKO.out.trans h))
                    rw [beq_eq_false_iff_ne]
                    omega
                  clear HNX HN2 ho hcl hca hg hga
                  go_wp2_with fail
                  exact ⟨⟨i + 1, ⟨st.out ++ m ++ T, o, bk⟩, by go_num, by have := HLT.out; omega, HLAY, HBW, HN3⟩, by have := HLT.out; simp [intOf]; omega⟩
    · obtain rfl : i = L.length := by omega
      have HZ3 : Hid (Z = Sp.finish s.size st) := by
        show _ = _
        have h1 := HRUN.out
        rw [List.take_length] at h1
        rw [HZ2.out, h1]
      have hLne : 0 < L.length := by
        have h1 := hLsum.out
        cases L with
        | nil => simp [Sp.nextAt] at h1
        | cons y ys => simp
      obtain ⟨x0, hx0⟩ : ∃ x0, L[0]? = some x0 := ⟨_, List.getElem?_eq_getElem hLne⟩
      obtain ⟨gl, gla, cll, cla, rfl, rfl, _, _, _, _⟩ := HLAY.out.line 0 x0 hx0
      clear HZ2 HRUN hil hlt hLin hLsum hLne hx0
      obtain ⟨pa, ca, hu6, fa⟩ := HLAY.out.opn.form
      have hl6 : st.opn.reverse.length = st.opn.length := List.length_reverse
      by_cases hop : st.opn = []
      · have HZ4 : Hid (Z = .ok (st.out ++ List.replicate (st.blk.length - 1) (Sp.mark 7 (s.size : Int)) ++ [Sp.mark 8 (s.size : Int)])) := by
          show _ = _
          rw [HZ3.out]
          unfold Sp.finish
          rw [hop]
        have hl0 : st.opn.reverse.length = 0 := by rw [hop]; rfl
        rw [hl0] at hu6
        have hbne : st.blk ≠ [] := by
          obtain ⟨bs, hbs⟩ := hbase
          rw [hbs]
          simp
        subst hu6
        clear HZ3 fa hl6 hop hl0 hbase
        go_wp2_with fail
        go_loopw [5, 7] (fun v5 v7 wx => ∃ (O : List T4) (bk : List Nat) (k : Nat), Hid (O = st.out ++ List.replicate k (Sp.mark 7 (s.size : Int))) ∧ Hid (bk ≠ []) ∧ bk.length + k = st.blk.length ∧ O.length ≤ st.out.length + k ∧ Hid (Lay3 w.heap.size v5 (.slice pa 0 ca) v7 (.slice (some ⟨gl, 0, none⟩) L.length cll) (.slice (some ⟨gla, 0, none⟩) L.length cla) ⟨O, st.opn, bk⟩ L wx) ∧ Hid (Below w.heap.size w wx)) (fun _ v7 _ => lenOf v7)
        case atStart => exact ⟨st.out, st.blk, 0, by show _ = _; simp, hbne, by omega, by omega, HLAY, HBW⟩
        case round =>
          clear HLAY HBW hbne
          obtain ⟨O, bk, k, HO, HBN, hlen, hol, HLAY, HBW⟩ := hrel
          obtain ⟨b1, bl1, rfl⟩ : ∃ b1 bl1, bk = b1 :: bl1 := by
            cases h : bk with
            | nil => exact absurd h HBN.out
            | cons b1 bl1 => exact ⟨b1, bl1, rfl⟩
          obtain ⟨g8, c8, hu8, hc8, hg8, _, hcell8⟩ := RowI.form HLAY.out.blk HLAY.out.n7
          simp only at hu8 hc8
          obtain ⟨m8, hm8⟩ : ∃ m8, m8 = bl1.length := ⟨_, rfl⟩
          have hrl8 : (b1 :: bl1).reverse.length = m8 + 1 := by rw [List.length_reverse, List.length_cons, hm8]
          rw [hrl8] at hu8 hc8
          subst hu8
          rw [List.length_cons, ← hm8] at hlen
          have hm8l : m8 ≤ 61200 := by omega
          have hol2 : O.length ≤ 200000 := by omega
          have HM8 := Lib.hid hm8
          clear hcell8 hrl8 hg8
          by_cases hz8 : m8 = 0
          · subst hz8
            have HZ5 : Hid (Z = .ok (O ++ [Sp.mark 8 (s.size : Int)])) := by
              show _ = _
              rw [HZ4.out, HO.out, show st.blk.length - 1 = k by omega]
            clear HO HM8 HZ4 hm8
            go_wp2_with fail
            go_wp2_with fail
            refine (mark2_any 8 (s.size : Int) wr).mono ?_
            rintro e w6a ⟨rfl, hb6⟩
            have HLa6 := Lib.hid (HLAY.out.below hb6)
            have HBa6 := Lib.hid (HBW.out.trans (hb6.mono HBW.out.size))
            have hown6 : w6a.ownsRow w.heap.size 37 4 _ (O).length ((O).flatMap c4) := HLa6.out.out
            have hBz6 : w.heap.size ≤ w6a.heap.size := HBa6.out.size
            clear hb6 HLAY HBW
            go_wp2_with (at_builtin; refine wpList_append_own_at _ rfl _ _ 25 rfl w.heap.size 37 iT (.agg #[.int .i64 0, .int .i64 0, .string ⟨#[]⟩, .int .i64 0]) 4 40 Tryz.underlying25 hiT hT0 hT1 hT2 rfl (by decide) _ _ _ rfl (hown6.alloc _) ⟨w6a.heap.size, 0, none⟩ 1 1 [.int .i64 8, .int .i64 (s.size : Int), .string ⟨#[]⟩, .int .i64 0] rfl rfl ?k16 ?k26 ?k36 ?k46 ?k56 ?_)
            try (case k16 =>
              intro j u hj
              match j, hj with
              | 0, hj => simp at hj; subst hj; simp [Addr.add]
              | 1, hj => simp at hj; subst hj; simp [Addr.add]
              | 2, hj => simp at hj; subst hj; simp [Addr.add]
              | 3, hj => simp at hj; subst hj; simp [Addr.add])
            try (case k26 => first | rfl | exact ⟨rfl, rfl, rfl, rfl⟩ | (intro u hu; simp at hu; rcases hu with rfl | rfl | rfl | rfl <;> rfl) | simp [Value.oneCell'])
            try (case k36 => unfold maxLen; omega)
            try (case k46 => omega)
            try (case k56 => first | omega | (simp; omega))
            intro v5n6 w6b hR6 hgrow6 hnil6 hat6
            have HB6 : Hid (Below w.heap.size w w6b) := (HBa6.out.alloc hBz6 _).grown hgrow6 (by simp; omega) (fun j hj => (hown6.lt j hj).1)
            have HL6 := Lib.hid (HLa6.out.tell hR6 hgrow6 (by simpa using hat6))
            obtain ⟨g6, cap6, rfl⟩ := ownsRow_succ hR6
            clear hR6 hgrow6 hnil6 hat6 hown6 hBz6 HLa6 HBa6
            go_wp2_with fail
            go_ret3
            refine ⟨?_, HB6.out⟩
            rw [HZ5.out]
            exact ⟨_, rfl, HL6.out.out⟩
          · obtain ⟨m9, rfl⟩ : ∃ m9, m8 = m9 + 1 := ⟨m8 - 1, by omega⟩
            have HL2 := Lib.hid (Lay3.blk_less HLAY.out rfl HM8.out.symm)
            have HO2 : Hid (O ++ [Sp.mark 7 (s.size : Int)] = st.out ++ List.replicate (k + 1) (Sp.mark 7 (s.size : Int))) := by
              show _ = _
              rw [HO.out, List.replicate_succ', List.append_assoc]
            have HBN2 : Hid (bl1 ≠ []) := by
              intro h
              rw [h] at hm8
              simp at hm8
            have hln : bl1.length + (k + 1) = st.blk.length := by omega
            have hoo : (O ++ [Sp.mark 7 (s.size : Int)]).length ≤ st.out.length + (k + 1) := by rw [List.length_append]; simp; omega
            have q0 : (0 : Int) ≤ (m9 : Int) + 1 := by omega
            have q2 : (m9 : Int) + 1 ≤ (c8 : Int) := by omega
            clear HO hlen hol HLAY HM8 hm8 HBN
            go_wp2_with fail
            go_wp2_with fail
            refine (mark2_any 7 (s.size : Int) wr).mono ?_
            rintro e w7a ⟨rfl, hb7⟩
            have HLa7 := Lib.hid (HL2.out.below hb7)
            have HBa7 := Lib.hid (HBW.out.trans (hb7.mono HBW.out.size))
            have hown7 : w7a.ownsRow w.heap.size 37 4 _ (O).length ((O).flatMap c4) := HLa7.out.out
            have hBz7 : w.heap.size ≤ w7a.heap.size := HBa7.out.size
            clear hb7 HL2 HBW
            go_wp2_with (at_builtin; refine wpList_append_own_at _ rfl _ _ 25 rfl w.heap.size 37 iT (.agg #[.int .i64 0, .int .i64 0, .string ⟨#[]⟩, .int .i64 0]) 4 40 Tryz.underlying25 hiT hT0 hT1 hT2 rfl (by decide) _ _ _ rfl (hown7.alloc _) ⟨w7a.heap.size, 0, none⟩ 1 1 [.int .i64 7, .int .i64 (s.size : Int), .string ⟨#[]⟩, .int .i64 0] rfl rfl ?k17 ?k27 ?k37 ?k47 ?k57 ?_)
            try (case k17 =>
              intro j u hj
              match j, hj with
              | 0, hj => simp at hj; subst hj; simp [Addr.add]
              | 1, hj => simp at hj; subst hj; simp [Addr.add]
              | 2, hj => simp at hj; subst hj; simp [Addr.add]
              | 3, hj => simp at hj; subst hj; simp [Addr.add])
            try (case k27 => first | rfl | exact ⟨rfl, rfl, rfl, rfl⟩ | (intro u hu; simp at hu; rcases hu with rfl | rfl | rfl | rfl <;> rfl) | simp [Value.oneCell'])
            try (case k37 => unfold maxLen; omega)
            try (case k47 => omega)
            try (case k57 => first | omega | (simp; omega))
            intro v5n7 w7b hR7 hgrow7 hnil7 hat7
            have HB7 : Hid (Below w.heap.size w w7b) := (HBa7.out.alloc hBz7 _).grown hgrow7 (by simp; omega) (fun j hj => (hown7.lt j hj).1)
            have HL7 := Lib.hid (HLa7.out.tell hR7 hgrow7 (by simpa using hat7))
            obtain ⟨g7, cap7, rfl⟩ := ownsRow_succ hR7
            clear hR7 hgrow7 hnil7 hat7 hown7 hBz7 HLa7 HBa7
            go_wp2_with fail
            exact ⟨⟨O ++ [Sp.mark 7 (s.size : Int)], bl1, k + 1, HO2, HBN2, hln, hoo, HL7, HB7⟩, by simp [lenOf]⟩
      · obtain ⟨o1, os, hos⟩ : ∃ o1 os, st.opn = o1 :: os := by
          cases h : st.opn with
          | nil => exact absurd h hop
          | cons o1 os => exact ⟨o1, os, rfl⟩
        have HZ4 : Hid (Z = .error (o1.2.1, 21)) := by
          show _ = _
          rw [HZ3.out]
          unfold Sp.finish
          rw [hos]
        obtain ⟨m6, hm6⟩ : ∃ m6, m6 = os.length := ⟨_, rfl⟩
        have hl61 : st.opn.reverse.length = m6 + 1 := by rw [hos, List.length_reverse, List.length_cons, hm6]
        have hlast : st.opn.reverse[m6]? = some o1 := by
          rw [hos, List.reverse_cons, List.getElem?_append_right (by rw [List.length_reverse]; omega), List.length_reverse, hm6]
          simp
        obtain ⟨g6, rfl, hg6, _, _, a1, _, _⟩ := fa m6 o1 hlast
        rw [hl61] at hu6
        subst hu6
        have hm6l : m6 ≤ 61000 := by
          have : st.opn.length = m6 + 1 := by rw [hos, List.length_cons, hm6]
          omega
        have q0 : (0 : Int) ≤ (m6 : Int) := by omega
        have q1 : (m6 : Int) < (m6 : Int) + 1 := by omega
        clear HZ3 fa hl6 hop hos hm6 hl61 hlast hbase
        go_wp2_with fail
        go_quiet (fail)
        go_wp2_with fail
        go_ret3
        refine ⟨?_, below_drewN HBW.out _⟩
        rw [HZ4.out]
        rfl
end Go.Proofs.YtbdjccmcdifjcaaGreatDoor

/-
  What must be in any case, at this program: it is.
-/
set_option linter.unusedVariables false
set_option linter.unusedSimpArgs false
namespace Go.Proofs.YtbdjccmcdifjcaaGreatDoor
open Go.RowKit Go.Shelf

abbrev toks1 : List T4 := [(1, 0, [105, 102], 0), (1, 3, [97], 0), (4, 4, [58], 0), (5, 5, [], 0), (6, 8, [], 0), (1, 8, [98], 0), (5, 9, [], 0), (7, 10, [], 0), (8, 10, [], 0)]
theorem lay1 : Sp.layL [105, 102, 32, 97, 58, 10, 32, 32, 98, 10] = .ok toks1 := by kernel_rfl
theorem lay2 : Sp.layL [97, 10, 32, 32, 32, 32, 98, 10, 32, 32, 99] = .error (10, 20) := by kernel_rfl
theorem lay3 : Sp.layL [102, 40, 49, 44, 10, 93] = .error (5, 21) := by kernel_rfl
def kinds1 : Nat → Int
  | 0 => 1 | 1 => 1 | 2 => 4 | 3 => 5 | 4 => 6 | 5 => 1 | 6 => 5 | _ => 7

set_option maxHeartbeats 8000000 in
set_option maxRecDepth 100000 in
theorem shown_any2 (w : World) (hE : Env w) : Calls Tryz.prog 11 #[] w fun e w' => e = .returned (.bool true) ∧ Below w.heap.size w w' := by
  have H1 := tokens_any ⟨#[105, 102, 32, 97, 58, 10, 32, 32, 98, 10]⟩ (by decide) w hE
  rw [show Sp.layL (⟨#[105, 102, 32, 97, 58, 10, 32, 32, 98, 10]⟩ : ByteArray).data.toList = .ok toks1 from lay1] at H1
  have H2 := fun W (hE : Env W) => tokens_any ⟨#[97, 10, 32, 32, 32, 32, 98, 10, 32, 32, 99]⟩ (by decide) W hE
  rw [show Sp.layL (⟨#[97, 10, 32, 32, 32, 32, 98, 10, 32, 32, 99]⟩ : ByteArray).data.toList = .error (10, 20) from lay2] at H2
  have H3 := fun W (hE : Env W) => tokens_any ⟨#[102, 40, 49, 44, 10, 93]⟩ (by decide) W hE
  rw [show Sp.layL (⟨#[102, 40, 49, 44, 10, 93]⟩ : ByteArray).data.toList = .error (5, 21) from lay3] at H3
  have HH1 := Lib.hid H1
  have HH2 := Lib.hid H2
  have HH3 := Lib.hid H3
  have HE := Lib.hid hE
  have hEs := hE.size
  clear H1 H2 H3 hE
  go_enter Tryz.func11, Tryz.ntmps11
  go_wp2_with fail
  refine HH1.out.mono ?_
  clear HH1
  rintro e w1 ⟨⟨v, rfl, hrow⟩, hb1⟩
  obtain ⟨pa, ca, rfl, fa⟩ := hrow.form
  obtain ⟨g, rfl, hg, _, k0, _, _, _⟩ := fa 0 _ rfl
  have ca : ∀ (k : Nat) (x : T4), toks1[k]? = some x → w1.cell? ⟨g, k * 4, none⟩ = some (.int .i64 x.1) ∧ w1.cell? ⟨g, k * 4 + 1, none⟩ = some (.int .i64 x.2.1) := by
    intro k x hx
    obtain ⟨g2, e, _, _, a0, a1, _⟩ := fa k x hx
    cases e
    exact ⟨a0, a1⟩
  have hlt1 : ∀ (o : Obj) (i : Nat), (w1.alloc o).cell? ⟨g, i, none⟩ = w1.cell? ⟨g, i, none⟩ := fun o i => World.cell?_alloc_lt _ _ _ hg
  have m8k : w1.cell? ⟨g, 32, none⟩ = some (.int .i64 8) := (ca 8 _ rfl).1
  have m8a : w1.cell? ⟨g, 33, none⟩ = some (.int .i64 10) := (ca 8 _ rfl).2
  have m3a : w1.cell? ⟨g, 13, none⟩ = some (.int .i64 5) := (ca 3 _ rfl).2
  have hk : ∀ k : Nat, k < 8 → w1.cell? ⟨g, k * 4, none⟩ = some (.int .i64 (kinds1 k)) := by
    intro k hk
    match k, hk with
    | 0, _ => exact (ca 0 _ rfl).1
    | 1, _ => exact (ca 1 _ rfl).1
    | 2, _ => exact (ca 2 _ rfl).1
    | 3, _ => exact (ca 3 _ rfl).1
    | 4, _ => exact (ca 4 _ rfl).1
    | 5, _ => exact (ca 5 _ rfl).1
    | 6, _ => exact (ca 6 _ rfl).1
    | 7, _ => exact (ca 7 _ rfl).1
  have HK := Lib.hid hk
  have HG := Lib.hid hg
  have HB1 := Lib.hid hb1
  clear ca hk fa hrow k0 hg hb1
  go_wp2_with fail
  have harr : ∀ k : Nat, k < 8 → (#[Value.int .i64 1, .int .i64 1, .int .i64 4, .int .i64 5, .int .i64 6, .int .i64 1, .int .i64 5, .int .i64 7] : Array Value)[k]? = some (.int .i64 (kinds1 k)) := by
    intro k hk
    match k, hk with
    | 0, _ => rfl
    | 1, _ => rfl
    | 2, _ => rfl
    | 3, _ => rfl
    | 4, _ => rfl
    | 5, _ => rfl
    | 6, _ => rfl
    | 7, _ => rfl
  have HARR := Lib.hid harr
  have HBA : Hid (Below w.heap.size w (w1.alloc (Obj.cells #[Value.int .i64 1, .int .i64 1, .int .i64 4, .int .i64 5, .int .i64 6, .int .i64 1, .int .i64 5, .int .i64 7] 45))) := HB1.out.alloc HB1.out.size _
  clear harr
  go_loopw [5] (fun v5 wr => ∃ k : Nat, v5 = .int .i64 (k : Int) ∧ k ≤ 8 ∧ ∃ q, wr = (w1.alloc (Obj.cells #[Value.int .i64 1, .int .i64 1, .int .i64 4, .int .i64 5, .int .i64 6, .int .i64 1, .int .i64 5, .int .i64 7] 45)).drewN q) (fun v5 _ => 8 - (intOf v5).toNat)
  case atStart => exact ⟨0, rfl, Nat.zero_le _, 0, rfl⟩
  case round =>
    obtain ⟨k, rfl, hk, q, rfl⟩ := hrel
    by_cases hlt : k < 8
    · have a0 := HK.out k hlt
      have b0 := HARR.out k hlt
      obtain ⟨z, HZ⟩ := hid_ex (kinds1 k)
      rw [HZ.out] at a0 b0
      have i0 : (0 : Int) ≤ (k : Int) := by omega
      have i1 : (k : Int) < 8 := by omega
      have i2 : (k : Int) < 9 := by omega
      have a1 : (w1.alloc (Obj.cells #[Value.int .i64 1, .int .i64 1, .int .i64 4, .int .i64 5, .int .i64 6, .int .i64 1, .int .i64 5, .int .i64 7] 45)).cell? ⟨g, k * 4, none⟩ = some (.int .i64 z) := by rw [hlt1]; exact a0
      have b1 : (w1.alloc (Obj.cells #[Value.int .i64 1, .int .i64 1, .int .i64 4, .int .i64 5, .int .i64 6, .int .i64 1, .int .i64 5, .int .i64 7] 45)).cell? ⟨w1.heap.size, k, none⟩ = some (.int .i64 z) := by rw [World.cell?_alloc_new]; exact b0
      go_wp2_with fail
      go_quiet (fail)
      go_wp2_with fail
      go_roundw
      case rel => exact ⟨k + 1, by go_num, by omega, _, rfl⟩
      case measure => simp [intOf]; omega
    · obtain rfl : k = 8 := by omega
      obtain ⟨W, hW⟩ : ∃ W, W = (w1.alloc (Obj.cells #[Value.int .i64 1, .int .i64 1, .int .i64 4, .int .i64 5, .int .i64 6, .int .i64 1, .int .i64 5, .int .i64 7] 45)).drewN q := ⟨_, rfl⟩
      have hbW : Below w.heap.size w W := by rw [hW]; exact below_drewN HBA.out _
      have hE2 := HE.out.below hbW hEs
      have HC2 := Lib.hid (HH2.out W hE2)
      rw [← hW]
      clear hW HBA HK HARR HH2 hE2 m8k m8a m3a hlt1
      go_wp2_with fail
      refine HC2.out.mono ?_
      rintro e w3 ⟨rfl, hb3⟩
      have hbW3 := hbW.trans (hb3.mono hbW.size)
      have HC3 := Lib.hid (HH3.out w3 (HE.out.below hbW3 hEs))
      clear HC2 hb3 hbW HH3
      go_wp2_with fail
      refine HC3.out.mono ?_
      rintro e w4 ⟨rfl, hb4⟩
      have hbW4 := hbW3.trans (hb4.mono hbW3.size)
      clear HC3 hb4 hbW3
      go_wp2_with fail
      go_ret
      exact ⟨rfl, hbW4⟩
end Go.Proofs.YtbdjccmcdifjcaaGreatDoor

/-
  From a walk that leaves all older memory as it was to what a row asks behind the call.
-/
set_option linter.unusedVariables false
set_option linter.unusedSimpArgs false
namespace Go.Proofs.YtbdjccmcdifjcaaGreatDoor
open Go.ChangeShapes Go.WideShapes Go.ChangeAt Go.WideMaps Go.WideElems Go.RowKit
open Go.ChangeMaps (open_string shut_string)

/-- The answer true, the arguments as they read before, no older cell turned: what a law's row asks. -/
theorem post_true {H : Type} {enc : TypeId × Value → H} {f : Func} {s : ChangeSpec} {W W' : World} {args : Array Value} {ds : List (DataW H)} {before : List MemPlace}
    (hW : DataW.Whole enc Tryz.prog f.params.toList s.vars false W args.toList ds [] before)
    (hrt : f.resultTypes = #[4]) (hres : (s.fn H (ds ++ [])).results = [.lit (.bool true)]) (hfa : (s.fn H (ds ++ [])).args = ds) (hfv : (s.fn H (ds ++ [])).vars = []) (hsv : s.vars = [])
    (hargs : ∀ sp : Nat → Bool, (∀ p ∈ before, sp p.block = true) → DataW.TrodAll enc Tryz.prog W' 0 sp true f.params.toList args.toList ds before)
    (hb : Below W.heap.size W W') :
    s.post enc Tryz.prog f false true false false W args (.bool true) W' := by
  have hlt : ∀ p ∈ before, p.block < W.heap.size := fun p hp => hW.lt p hp
  have hold : ∀ p ∈ before, (fun b => decide (b < W.heap.size)) p.block = true := fun p hp => by simpa using hlt p hp
  have hr : ∀ (b : Nat) (sp : Nat → Bool) (hd : Bool), DataW.TrodAll enc Tryz.prog W' b sp hd f.resultTypes.toList ((Value.bool true).resultList f.resultTypes.size) (s.fn H (ds ++ [])).results [] := by
    intro b sp hd
    rw [hrt, hres]
    exact trodAll_mk1 (shut_bool Tryz.underlying4 _)
  exact ⟨ds, [], before, [], before, [], hW, hr _ _ _, by rw [hfa]; exact hargs _ hold, by rw [hfv, hsv]; rfl, World.keptBut_mono (fun p hp => ⟨hp, Or.inr (Or.inl hp)⟩) (hb.frame (· ∈ before)), fun h => by cases h⟩

/-- An integer of eight bits without a sign is a byte. -/
theorem byte_of {n : Int} (h : (Lit.int .u8 n).wf = true) : ∃ c : UInt8, n = (c.toNat : Int) := by
  have hb := bounds_u8 h
  refine ⟨UInt8.ofNat n.toNat, ?_⟩
  simp
  omega
end Go.Proofs.YtbdjccmcdifjcaaGreatDoor

/-
  What is told of a source is what the reference tells: the walk of that statement, at this program.
-/
set_option linter.unusedVariables false
set_option linter.unusedSimpArgs false
namespace Go.Proofs.YtbdjccmcdifjcaaGreatDoor
open Go.RowKit Go.Shelf
namespace lawTold

/-- The three values of an answer. -/
theorem lay_value (X : Except (Int × Int) (List T4)) (hX : ∀ ts, X = .ok ts → ts.length ≤ 1000000) : ∃ (p er : Int) (l : List T4), l.length ≤ 1000000 ∧ ∀ B e w', LayEnd B X e w' → ∃ v, e = .returned (.tuple #[v, .int .i64 p, .int .i64 er]) ∧ Row4 B v l w' := by
  cases X with
  | error p =>
    refine ⟨p.1, p.2, [], by simp, fun B e w' h => ?_⟩
    obtain rfl : e = _ := h
    exact ⟨_, rfl, World.ownsRow_nil w' B 37 4⟩
  | ok ts => exact ⟨0, 0, ts, hX ts rfl, fun B e w' h => h⟩

set_option maxHeartbeats 16000000 in
set_option maxRecDepth 100000 in
theorem walk (s : ByteArray) (hs : s.size ≤ maxLen) (w : World) (hE : Env w) : Calls Tryz.prog 9 #[.string s] w fun e w' => e = .returned (.bool true) ∧ Below w.heap.size w w' := by
  obtain ⟨f, HF⟩ := hid_ex (s.extract 0 (min s.size 1000))
  have hf : f.size ≤ 1000 := by rw [← HF.out]; simp [ByteArray.size_extract]; omega
  have HSH := Lib.hid (shown_any2 w hE)
  have HE := Lib.hid hE
  have hEs := hE.size
  obtain ⟨X, HX⟩ := hid_ex (Sp.layL f.data.toList)
  obtain ⟨p, er, l, hl, hv⟩ := lay_value X (fun ts h => by have := Sp.layL_len (HX.out.trans h); rw [size_list] at this; omega)
  have HV := Lib.hid hv
  clear hE hv
  go_enter Tryz.func9, Tryz.ntmps9
  go_wp2_with fail
  refine HSH.out.mono ?_
  rintro e w1 ⟨rfl, hb1⟩
  clear HSH
  have HT := Lib.hid (tokens_any f (by omega) w1 (HE.out.below hb1 hEs))
  have hfe : Hid (s.extract 0 (min (s.size : Int) 1000).toNat = f) := by
    show _ = _
    rw [← HF.out]
    congr 1
    omega
  rw [HX.out] at HT
  go_wp2_with fail
  rw [hfe.out]
  refine HT.out.mono ?_
  clear HT
  rintro e w2 ⟨he, hb2⟩
  obtain ⟨v, rfl, hrow⟩ := HV.out _ _ _ he
  have HBW : Hid (Below w.heap.size w w2) := hb1.trans (hb2.mono hb1.size)
  have HT2 := Lib.hid (tokens2_any f (by omega) w2)
  rw [HX.out] at HT2
  have HROW := Lib.hid hrow
  clear he hb1 hb2 hrow HE hEs
  go_wp2_with fail
  refine HT2.out.mono ?_
  clear HT2
  rintro e w3 ⟨he, hb3⟩
  obtain ⟨v2, rfl, hrow2⟩ := HV.out _ _ _ he
  have HB3 : Hid (Below w.heap.size w w3) := HBW.out.trans (hb3.mono HBW.out.size)
  have HS := Lib.hid (same2_any w1.heap.size w2.heap.size v v2 l l w3 (HROW.out.below hb3) hrow2 hl hl)
  clear he hb3 hrow2 HROW HBW HV HX
  have hdl : decide (l = l) = true := by simp
  rw [hdl] at HS
  clear hdl
  go_wp2_with fail
  refine HS.out.mono ?_
  rintro e w4 ⟨rfl, hb4⟩
  have HB4 : Hid (Below w.heap.size w w4) := HB3.out.trans (hb4.mono HB3.out.size)
  clear HS hb4 HB3
  go_wp2_with fail
  go_ret
  exact ⟨rfl, HB4.out⟩
end lawTold
end Go.Proofs.YtbdjccmcdifjcaaGreatDoor

/-
  For every text: what is told of its first thousand bytes as a source (the tokens, or the first error and its place) is what the document's reference tells: the tied card of LayoutTells.
-/
set_option linter.unusedVariables false
set_option linter.unusedSimpArgs false
namespace Go.Proofs.YtbdjccmcdifjcaaGreatDoor
namespace lawTold
open Go.ChangeShapes Go.WideShapes Go.ChangeAt Go.WideMaps Go.WideElems Go.RowKit
open Go.ChangeMaps (open_string shut_string)


set_option maxRecDepth 100000 in
theorem lifted (os : Os) (started : os.Started) (H : Type) (enc : TypeId × Value → H) :
    ReturnsInHanded {} Tryz.checked os 9 .any (fun w args => (Rows.layoutTellsSpec.pre enc Tryz.prog Tryz.f9 [] false w args ∧ laidMetH Tryz.prog laidL w) ∧ sizedMet enc Tryz.prog Tryz.f9 (OpenSpec.ofChange Rows.layoutTellsSpec) false w args)
      (Rows.layoutTellsSpec.post enc Tryz.prog Tryz.f9 false true false false) := by
  refine handed_both (C := Tryz.checked) (X := fun w _ => laidMetH Tryz.prog laidL w) (fun _ _ _ hh h => h.of_heap hh) own started (by kernel_rfl) Tryz.func9
    (ChangeSpec.witness_shaped (enc := enc) (C := Tryz.checked) (os := os) (X := fun w _ => laidMetH Tryz.prog laidL w) false (World.laidAll Tryz.prog os laidL) #[.string ⟨#[]⟩] 8 (door_os os) (door_shaped os _) (by kernel_rfl) (by kernel_rfl) (by kernel_rfl) (door_met os _)) ?_
  intro W base args ds gs before hval0 hW _ _ hL hsh _
  have hval : ∀ (j : Nat) t v, Tryz.f9.params[j]? = some t → args[j]? = some v → Value.okWide Tryz.prog W .any base t v := hval0
  have hW' := hW
  obtain ⟨p, q, hA0, hV, rfl, hfz, hnd⟩ := hW
  have hA : DataW.TrodAll enc Tryz.prog W 0 (fun _ => true) true Tryz.f9.params.toList args.toList ds p := hA0
  rw [Tryz.params9] at hA hval
  obtain ⟨v0, d0, rfl, rfl, h0⟩ := trodAll_one hA
  obtain ⟨rfl, rfl⟩ := trodVars_none hV
  obtain ⟨x0, rfl, rfl, rfl, w0⟩ := open_string Tryz.underlying9 (hval 0 9 v0 rfl rfl) h0
  clear hA0 hval0
  simp only [List.append_nil] at hW'
  refine (walk x0 w0 W (env_of hL hsh)).mono fun e W' ⟨he, hb⟩ => ?_
  subst he
  exact ⟨_, rfl, post_true hW' (by kernel_rfl) rfl rfl rfl rfl (fun sp _ => trodAll_mk1 (shut_string Tryz.underlying9 w0)) hb⟩

theorem row_holds : Rows.LayoutTellsSaid :=
  OpenClaim.holds_of_wide 9 Tryz.f9 rfl rfl rfl rfl rfl rfl rfl ⟨rfl, rfl, rfl, rfl, rfl⟩ rfl rfl rfl rfl rfl (by kernel_rfl) Tryz.func9 (by kernel_rfl)
    (of_decide_eq_true (by kernel_rfl)) (by unfold Func.isWrapper; first | (rw [if_pos (by decide +kernel)]; kernel_rfl) | (rw [if_neg (by decide +kernel)]; exact ⟨rfl, rfl⟩))
    (fun os started H enc _ => lifted os started H enc)

theorem card_holds : Rows.LayoutTellsCardSaid :=
  Claim7.holds_tied_plain_at .later [] [.data, .data, .data, .data, .sentinel, .sentinel, .data, .pinned] true (true, "88ce31af55d7e15b8eb372d6691e0e677d11b1df154c7967afde70b805ca128e") true
    row_holds (fun _ h => by cases h) (by kernel_rfl) (fun _ h => by cases h) layoutTells_row_tie rfl ⟨rfl, rfl⟩ (by kernel_rfl) rfl
    (fun f fn hf hfn => by
      obtain rfl : f = 9 := Option.some.inj ((show Tryz.prog.funcNamed "krait/kraitlaw02.LayoutTells" = some 9 by kernel_rfl).symm.trans hf) |>.symm
      obtain rfl : fn = Tryz.f9 := (Option.some.inj (Tryz.func9.symm.trans hfn)).symm
      exact ⟨by kernel_rfl, fun j t ht => by
        rw [Tryz.params9] at ht
        have hm : t ∈ [9] := by simpa using Array.mem_of_getElem? ht
        have hall : ([9].all fun u => !Tryz.prog.wantsStandIn u) = true := by kernel_rfl
        exact (show Tryz.prog.wantsStandIn t = false by simpa using List.all_eq_true.1 hall t hm)⟩)
    (by kernel_rfl)
end lawTold
end Go.Proofs.YtbdjccmcdifjcaaGreatDoor
