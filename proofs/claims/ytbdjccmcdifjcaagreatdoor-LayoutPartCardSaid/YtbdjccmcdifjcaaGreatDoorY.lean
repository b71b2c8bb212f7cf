/-
  What the tokens of a line are, at this program.
-/
import Derived.Test.YtbdjccmcdifjcaaGreatDoorX
set_option linter.unusedVariables false
set_option linter.unusedSimpArgs false
namespace Go.Proofs.YtbdjccmcdifjcaaGreatDoor
open Go.RowKit Go.Shelf

theorem infoTok : (Tryz.prog.info? 37).map (fun i => (i.zero, i.size, i.bytes)) = some (some (.agg #[.int .i64 0, .int .i64 0, .string ⟨#[]⟩, .int .i64 0]), 4, 40) := by kernel_rfl

/-- A token's cells in a row: its place is that of the line and its own. -/
def tokCells (at_ : Int) (x : Nat × Sp.Tk) : List Value := [.int .i64 x.2.kind, .int .i64 (wrap64 (at_ + (x.1 : Int))), .string ⟨x.2.text.toArray⟩, .int .i64 x.2.num]
def rowCells (at_ : Int) (ts : List (Nat × Sp.Tk)) : List Value := ts.flatMap (tokCells at_)
/-- Value v is a row of these tokens, new from block B on. -/
def TokRow (B : Nat) (at_ : Int) (v : Value) (ts : List (Nat × Sp.Tk)) (w : World) : Prop := w.ownsRow B 37 4 v ts.length (rowCells at_ ts)

theorem TokRow.below {B : Nat} {at_ : Int} {v : Value} {ts : List (Nat × Sp.Tk)} {w w' : World} (h : TokRow B at_ v ts w) (k : Below w.heap.size w w') : TokRow B at_ v ts w' := by
  refine ⟨h.1, ?_⟩
  rcases h.2 with hn | ⟨g, cap, cur, hv, hbg, hg, rest⟩
  · exact .inl hn
  · exact .inr ⟨g, cap, cur, hv, hbg, (k.block g (heap_of_some hg)).trans hg, rest⟩

/-- What Line answers. -/
def LineEnd (B : Nat) (at_ : Int) (x : Except (Nat × Int) (List (Nat × Sp.Tk))) (e : Ending) (w' : World) : Prop :=
  match x with
  | .ok ts => ∃ v, e = .returned (.tuple #[v, .int .i64 0, .int .i64 0]) ∧ TokRow B at_ v ts w'
  | .error (p, er) => e = .returned (.tuple #[.slice none 0 0, .int .i64 (wrap64 (at_ + (p : Int))), .int .i64 er])

set_option maxHeartbeats 4000000 in
set_option maxRecDepth 100000 in
theorem line_any (s : ByteArray) (hs : s.size ≤ 60000) (at_ : Int) (w : World) (hE : Env w) :
    Calls Tryz.prog 39 #[.string s, .int .i64 at_] w fun e w' => LineEnd w.heap.size at_ (Sp.lex s.data.toList) e w' ∧ Below w.heap.size w w' := by
  obtain ⟨i0, hi, hz0, hz1, hz2⟩ := info_parts infoTok
  go_enter Tryz.func39, Tryz.ntmps39
  go_wp2_with fail
  go_step3
  go_wp2_with fail
  go_step3
  go_wp2_with fail
  go_loopw [7, 8] (fun v7 v8 wr => ∃ (pos : Nat) (ts : List (Nat × Sp.Tk)), v8 = .int .i64 pos ∧ pos ≤ s.size ∧ ts.length ≤ pos ∧ TokRow w.heap.size at_ v7 ts wr ∧ Below w.heap.size w wr ∧ Hid (Sp.lex s.data.toList = Sp.ahead ts (Sp.lexAt pos (s.data.toList.drop pos)))) (fun _ v8 wr => s.size - (intOf v8).toNat)
  case atStart =>
    refine ⟨0, [], rfl, Nat.zero_le _, Nat.le_refl _, World.ownsRow_nil w w.heap.size 37 4, Below.refl _ _, ?_⟩
    show _ = _
    rw [Sp.ahead_nil]
    rfl
  case round =>
    obtain ⟨pos, ts, rfl, hpos, htl, hrow, hbel, hx⟩ := hrel
    by_cases hlt : pos < s.size
    · have hd := get_drop s pos hlt
      by_cases h32 : s[pos].toNat = 32
      · have HN : Hid (Sp.lex s.data.toList = Sp.ahead ts (Sp.lexAt (pos + 1) (s.data.toList.drop (pos + 1)))) := by
          show _ = _
          rw [hx.out, hd, Sp.lexAt_blank _ _ _ h32]
        have g32 : ((s[pos].toNat : Int) == 32) = true := by simp; omega
        clear hx hd h32
        go_wp2_with fail
        go_roundw
        case rel => exact ⟨pos + 1, ts, by go_num, by omega, by omega, hrow, hbel, HN⟩
        case measure => simp [intOf]; omega
      · have g32 : ((s[pos].toNat : Int) == 32) = false := by simp; omega
        by_cases h35 : s[pos].toNat = 35
        · have HN : Hid (Sp.lex s.data.toList = .ok ts) := by
            show _ = _
            rw [hx.out, hd, Sp.lexAt_hash _ _ _ h35]
            simp [Sp.ahead]
          have g35 : ((s[pos].toNat : Int) == 35) = true := by simp; omega
          clear hx hd h32 h35
          go_wp2_with fail
          rw [Exit.noGoto_ret]
          go_ret3
          refine ⟨?_, hbel⟩
          rw [HN.out]
          exact ⟨_, rfl, hrow⟩
        · have g35 : ((s[pos].toNat : Int) == 35) = false := by simp; omega
          have hxl : (s.extract pos s.size).data.toList = s.data.toList.drop pos := Lib.extract_to_end s pos
          have hxs : (s.extract pos s.size).size = s.size - pos := by simp [ByteArray.size_extract]
          have hT := fun w hE => token_any (s.extract pos s.size) (by omega) (by omega) w hE
          rw [hxl, hd] at hT
          rw [hd] at hx
          have hEr := hE.below hbel hE.size
          cases ht : Sp.tok1 (s[pos] :: s.data.toList.drop (pos + 1)) with
          | error er =>
            rw [ht] at hT
            have her := Sp.tok1_err ht
            have HN : Hid (Sp.lex s.data.toList = .error (pos, er)) := by
              show _ = _
              rw [hx.out, Sp.lexAt_err _ _ _ h32 h35 _ ht]
              rfl
            have ger : ((er : Int) != 0) = true := by rcases her with rfl | rfl | rfl <;> decide
            have HT : Hid (Calls Tryz.prog 61 #[.string (s.extract pos s.size)] wr fun e w' => e = .returned (.tuple #[.agg #[.int .i64 0, .int .i64 0, .string ⟨#[]⟩, .int .i64 0], .int .i64 0, .int .i64 er]) ∧ Below wr.heap.size wr w') := hT wr hEr
            clear hx hd h32 h35 hxl hxs hT ht her hEr
            go_wp2_with fail
            refine HT.out.mono ?_
            clear HT
            rintro e w1 ⟨rfl, hb1⟩
            have hbel1 := hbel.trans (hb1.mono hbel.size)
            go_wp2_with fail
            rw [Exit.noGoto_ret]
            go_ret3
            refine ⟨?_, hbel1.alloc hbel1.size _⟩
            rw [HN.out]
            rfl
          | ok t =>
            rw [ht] at hT
            have hsz := Sp.tok1_size ht
            have hsl : (s[pos] :: s.data.toList.drop (pos + 1)).length = s.size - pos := by rw [← hd, List.length_drop, size_list]
            rw [hsl] at hsz
            obtain ⟨hsz1, hsz2⟩ := hsz
            have HN : Hid (Sp.lex s.data.toList = Sp.ahead (ts ++ [(pos, t)]) (Sp.lexAt (pos + t.size) (s.data.toList.drop (pos + t.size)))) := by
              show _ = _
              rw [hx.out, Sp.lexAt_tok _ _ _ h32 h35 _ ht, Sp.ahead_ahead, ← hd, List.drop_drop]
            obtain ⟨tb, HTB⟩ := hid_ex (⟨t.text.toArray⟩ : ByteArray)
            have HT : Hid (Calls Tryz.prog 61 #[.string (s.extract pos s.size)] wr fun e w' => e = .returned (.tuple #[.agg #[.int .i64 t.kind, .int .i64 0, .string tb, .int .i64 t.num], .int .i64 t.size, .int .i64 0]) ∧ Below wr.heap.size wr w') := by
              rw [← HTB.out]
              exact hT wr hEr
            clear hx hd h32 h35 hxl hxs hT ht hsl hEr
            go_wp2_with fail
            refine HT.out.mono ?_
            clear HT
            rintro e w1 ⟨rfl, hb1⟩
            have hbel1 := hbel.trans (hb1.mono hbel.size)
            have hrow1 := TokRow.below hrow hb1
            clear hrow hbel hb1
            have hown : w1.ownsRow w.heap.size 37 4 _ ts.length (rowCells at_ ts) := hrow1
            clear hrow1
            have hz1' : w.heap.size ≤ w1.heap.size := hbel1.size
            go_wp2_with (at_builtin; refine wpList_append_own _ rfl _ _ 25 rfl w.heap.size 37 i0 (.agg #[.int .i64 0, .int .i64 0, .string ⟨#[]⟩, .int .i64 0]) 4 40 Tryz.underlying25 hi hz0 hz1 hz2 rfl (by decide) _ _ _ rfl ((hown.alloc _).alloc _) ⟨w1.heap.size + 1, 0, none⟩ 1 1 [.int .i64 t.kind, .int .i64 (wrap64 (at_ + ↑pos)), .string tb, .int .i64 t.num] rfl rfl ?c1 ?c2 ?c3 ?c4 ?c5 ?_)
            case c1 =>
              intro j u hj
              match j, hj with
              | 0, hj => simp at hj; subst hj; simp [Addr.add]
              | 1, hj => simp at hj; subst hj; simp [Addr.add]
              | 2, hj => simp at hj; subst hj; simp [Addr.add]
              | 3, hj => simp at hj; subst hj; simp [Addr.add]
            case c2 => intro u hu; simp at hu; rcases hu with rfl | rfl | rfl | rfl <;> rfl
            case c3 => unfold maxLen; omega
            case c4 => omega
            case c5 => simp; omega
            intro v' w2 hown' hgrow _
            have hbel2 : Below w.heap.size w w2 := ((hbel1.alloc hz1' _).alloc (by simp; omega) _).grown hgrow (by simp; omega) (fun k hk => (hown.lt k hk).1)
            have hrow2 : TokRow w.heap.size at_ v' (ts ++ [(pos, t)]) w2 := by
              unfold TokRow
              rw [List.length_append]
              have e : rowCells at_ (ts ++ [(pos, t)]) = rowCells at_ ts ++ [.int .i64 t.kind, .int .i64 (wrap64 (at_ + ↑pos)), .string tb, .int .i64 t.num] := by
                simp [rowCells, List.flatMap_append, tokCells, HTB.out]
              rw [e]
              exact hown'
            clear hown' hgrow hown hbel1 hz1'
            go_wp2_with fail
            go_roundw
            case rel => exact ⟨pos + t.size, ts ++ [(pos, t)], by go_num, by omega, by simp; omega, hrow2, hbel2, HN⟩
            case measure => simp [intOf]; omega
    · have HN : Hid (Sp.lex s.data.toList = .ok ts) := by
        show _ = _
        rw [hx.out, List.drop_of_length_le (by rw [size_list]; omega), Sp.lexAt_nil]
        simp [Sp.ahead]
      clear hx
      go_wp2_with fail
      rw [Exit.noGoto_ret]
      go_ret3
      refine ⟨?_, hbel⟩
      rw [HN.out]
      exact ⟨_, rfl, hrow⟩
end Go.Proofs.YtbdjccmcdifjcaaGreatDoor
