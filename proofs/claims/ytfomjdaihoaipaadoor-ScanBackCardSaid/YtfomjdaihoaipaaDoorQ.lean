/-
  How a byte and a text are quoted, at this program.
-/
import Derived.Test.YtfomjdaihoaipaaDoorN
set_option linter.unusedVariables false
set_option linter.unusedSimpArgs false
namespace Go.Proofs.YtfomjdaihoaipaaDoor
open Go.RowKit Go.Shelf

/-- A builder that holds these bytes. -/
def Bld (B b : Nat) (l : Sp.Bs) (w : World) : Prop := Lib.IsBuilderF 60 5 B b (Lib.byteCells l) w
def Wrote (B b : Nat) (l : Sp.Bs) (w w' : World) : Prop := Bld B b l w' ∧ Below B w w' ∧ Lib.OthersKept 5 (some b) w w'

theorem wb (B b : Nat) (l : Sp.Bs) (c : UInt8) (w : World) (h : Bld B b l w) (hlen : l.length + 1 ≤ 140737488355328) (hBw : B ≤ w.heap.size) :
    Calls Tryd.prog 43 #[.pointer (some ⟨b, 0, none⟩), .int .u8 (c.toNat : Int)] w fun e w' => e = .returned .nilIface ∧ Wrote B b (l ++ [c]) w w' := by
  refine (write_byte B b _ _ w h (by rw [Lib.byteCells_length]; exact hlen) hBw).mono ?_
  rintro e w' ⟨rfl, h1, h2, h3⟩
  refine ⟨rfl, ?_, h2, h3⟩
  unfold Bld
  rw [Lib.byteCells_append]
  exact Or.inr h1
theorem ws (B b : Nat) (l : Sp.Bs) (s : ByteArray) (w : World) (h : Bld B b l w) (hlen : l.length + s.size ≤ 140737488355328) (hBw : B ≤ w.heap.size) :
    Calls Tryd.prog 59 #[.pointer (some ⟨b, 0, none⟩), .string s] w fun e w' => e = .returned (.tuple #[.int .i64 s.size, .nilIface]) ∧ Wrote B b (l ++ s.data.toList) w w' := by
  refine (write_string B b _ _ w h (by rw [Lib.byteCells_length]; exact hlen) hBw).mono ?_
  rintro e w' ⟨rfl, h1, h2, h3⟩
  refine ⟨rfl, ?_, h2, h3⟩
  unfold Bld
  rw [Lib.byteCells_append]
  exact Or.inr h1
theorem Wrote.trans {B b : Nat} {l l' : Sp.Bs} {w w1 w2 : World} (h : Wrote B b l w w1) (k : Wrote B b l' w1 w2) : Wrote B b l' w w2 := ⟨k.1, h.2.1.trans k.2.1, h.2.2.trans k.2.2⟩

theorem dig_hex (k : Nat) (h : k < (⟨#[48, 49, 50, 51, 52, 53, 54, 55, 56, 57, 97, 98, 99, 100, 101, 102]⟩ : ByteArray).size) : (⟨#[48, 49, 50, 51, 52, 53, 54, 55, 56, 57, 97, 98, 99, 100, 101, 102]⟩ : ByteArray)[k] = Sp.hexLow k := by
  have h' : k < 16 := h
  have : ∀ j : Fin 16, (⟨#[48, 49, 50, 51, 52, 53, 54, 55, 56, 57, 97, 98, 99, 100, 101, 102]⟩ : ByteArray)[j.val]'j.isLt = Sp.hexLow j.val := by decide
  exact this ⟨k, h'⟩

set_option maxHeartbeats 2000000 in
theorem quoteByte_hex (B b : Nat) (l : Sp.Bs) (c : UInt8) (w : World) (h : Bld B b l w) (hlen : l.length + 4 ≤ 140737488355328) (hBw : B ≤ w.heap.size)
    (g10 : ((c.toNat : Int) == 10) = false) (g9 : ((c.toNat : Int) == 9) = false) (g92 : ((c.toNat : Int) == 92) = false) (g39 : ((c.toNat : Int) == 39) = false) (hr : c.toNat < 32 ∨ 126 < c.toNat) :
    Calls Tryd.prog 44 #[.pointer (some ⟨b, 0, none⟩), .int .u8 (c.toNat : Int)] w fun e w' => e = .returned (.tuple #[]) ∧ Wrote B b (l ++ [92, 120, Sp.hexLow (c.toNat / 16), Sp.hexLow (c.toNat % 16)]) w w' := by
  have hb0 := c.toNat_lt
  rcases hr with hr | hr
  · have glo : decide ((c.toNat : Int) < 32) = true := by simp; omega
    go_enter Tryd.func44, Tryd.ntmps44
    go_wp2_with fail
    refine (ws B b l ⟨#[92, 120]⟩ w h (by show _ + 2 ≤ _; omega) hBw).mono ?_
    rintro e w1 ⟨rfl, hW1⟩
    have hs1 := hW1.2.1.size
    go_wp2_with fail
    refine (wb B b _ _ w1 hW1.1 (by simp; omega) (by omega)).mono ?_
    rintro e w2 ⟨rfl, hW2⟩
    have hs2 := hW2.2.1.size
    rw [dig_hex] at hW2
    go_wp2_with fail
    refine (wb B b _ _ w2 hW2.1 (by simp; omega) (by omega)).mono ?_
    rintro e w3 ⟨rfl, hW3⟩
    rw [dig_hex] at hW3
    go_wp2
    go_end0
    exact ⟨rfl, by simpa using (hW1.trans hW2).trans hW3⟩
  · have glo : decide ((c.toNat : Int) < 32) = false := by simp; omega
    have ghi : decide (126 < (c.toNat : Int)) = true := by simp; omega
    go_enter Tryd.func44, Tryd.ntmps44
    go_wp2_with fail
    refine (ws B b l ⟨#[92, 120]⟩ w h (by show _ + 2 ≤ _; omega) hBw).mono ?_
    rintro e w1 ⟨rfl, hW1⟩
    have hs1 := hW1.2.1.size
    go_wp2_with fail
    refine (wb B b _ _ w1 hW1.1 (by simp; omega) (by omega)).mono ?_
    rintro e w2 ⟨rfl, hW2⟩
    have hs2 := hW2.2.1.size
    rw [dig_hex] at hW2
    go_wp2_with fail
    refine (wb B b _ _ w2 hW2.1 (by simp; omega) (by omega)).mono ?_
    rintro e w3 ⟨rfl, hW3⟩
    rw [dig_hex] at hW3
    go_wp2
    go_end0
    exact ⟨rfl, by simpa using (hW1.trans hW2).trans hW3⟩

set_option maxHeartbeats 2000000 in
theorem quoteByte_any (B b : Nat) (l : Sp.Bs) (c : UInt8) (w : World) (h : Bld B b l w) (hlen : l.length + 4 ≤ 140737488355328) (hBw : B ≤ w.heap.size) :
    Calls Tryd.prog 44 #[.pointer (some ⟨b, 0, none⟩), .int .u8 (c.toNat : Int)] w fun e w' => e = .returned (.tuple #[]) ∧ Wrote B b (l ++ Sp.quoteB c) w w' := by
  have hb0 := c.toNat_lt
  by_cases k10 : c.toNat = 10
  · have HQ : Hid (Sp.quoteB c = [92, 110]) := by show _ = _; simp [Sp.quoteB, k10]
    have g10 : ((c.toNat : Int) == 10) = true := by simp; omega
    rw [HQ.out]
    clear k10
    go_enter Tryd.func44, Tryd.ntmps44
    go_wp2_with fail
    refine (ws B b l ⟨#[92, 110]⟩ w h (by show _ + 2 ≤ _; omega) hBw).mono ?_
    rintro e w1 ⟨rfl, hW1⟩
    go_wp2
    go_end0
    exact ⟨rfl, hW1⟩
  · have g10 : ((c.toNat : Int) == 10) = false := by simp; omega
    by_cases k9 : c.toNat = 9
    · have HQ : Hid (Sp.quoteB c = [92, 116]) := by show _ = _; simp [Sp.quoteB, k9]
      have g9 : ((c.toNat : Int) == 9) = true := by simp; omega
      rw [HQ.out]
      clear k9
      go_enter Tryd.func44, Tryd.ntmps44
      go_wp2_with fail
      refine (ws B b l ⟨#[92, 116]⟩ w h (by show _ + 2 ≤ _; omega) hBw).mono ?_
      rintro e w1 ⟨rfl, hW1⟩
      go_wp2
      go_end0
      exact ⟨rfl, hW1⟩
    · have g9 : ((c.toNat : Int) == 9) = false := by simp; omega
      by_cases k92 : c.toNat = 92
      · have HQ : Hid (Sp.quoteB c = [92, c]) := by show _ = _; simp [Sp.quoteB, k92]
        have g92 : ((c.toNat : Int) == 92) = true := by simp; omega
        rw [HQ.out]
        clear k92
        go_enter Tryd.func44, Tryd.ntmps44
        go_wp2_with fail
        refine (wb B b l 92 w h (by omega) hBw).mono ?_
        rintro e w1 ⟨rfl, hW1⟩
        have hs1 := hW1.2.1.size
        go_wp2_with fail
        refine (wb B b _ c w1 hW1.1 (by simp; omega) (by omega)).mono ?_
        rintro e w2 ⟨rfl, hW2⟩
        go_wp2
        go_end0
        exact ⟨rfl, by simpa using hW1.trans hW2⟩
      · have g92 : ((c.toNat : Int) == 92) = false := by simp; omega
        by_cases k39 : c.toNat = 39
        · have HQ : Hid (Sp.quoteB c = [92, c]) := by show _ = _; simp [Sp.quoteB, k39]
          have g39 : ((c.toNat : Int) == 39) = true := by simp; omega
          rw [HQ.out]
          clear k39
          go_enter Tryd.func44, Tryd.ntmps44
          go_wp2_with fail
          refine (wb B b l 92 w h (by omega) hBw).mono ?_
          rintro e w1 ⟨rfl, hW1⟩
          have hs1 := hW1.2.1.size
          go_wp2_with fail
          refine (wb B b _ c w1 hW1.1 (by simp; omega) (by omega)).mono ?_
          rintro e w2 ⟨rfl, hW2⟩
          go_wp2
          go_end0
          exact ⟨rfl, by simpa using hW1.trans hW2⟩
        · have g39 : ((c.toNat : Int) == 39) = false := by simp; omega
          by_cases hr : c.toNat < 32 ∨ 126 < c.toNat
          · have e : Sp.quoteB c = [92, 120, Sp.hexLow (c.toNat / 16), Sp.hexLow (c.toNat % 16)] := by
              unfold Sp.quoteB
              rw [if_neg k10, if_neg k9, if_neg (by omega), if_pos hr]
            rw [e]
            exact quoteByte_hex B b l c w h hlen hBw g10 g9 g92 g39 hr
          · have HQ : Hid (Sp.quoteB c = [c]) := by
              show _ = _
              unfold Sp.quoteB
              rw [if_neg k10, if_neg k9, if_neg (by omega), if_neg hr]
            rw [HQ.out]
            have glo : decide ((c.toNat : Int) < 32) = false := by simp; omega
            have ghi : decide (126 < (c.toNat : Int)) = false := by simp; omega
            clear k10 k9 k92 k39 hr
            go_enter Tryd.func44, Tryd.ntmps44
            go_wp2_with fail
            refine (wb B b l c w h (by omega) hBw).mono ?_
            rintro e w1 ⟨rfl, hW1⟩
            go_wp2
            go_end0
            exact ⟨rfl, hW1⟩

theorem flatMap_take (f : UInt8 → Sp.Bs) (s : ByteArray) (k : Nat) (h : k < s.size) : (s.data.toList.take (k + 1)).flatMap f = (s.data.toList.take k).flatMap f ++ f s[k] := by
  rw [List.take_succ_eq_append_getElem (by simpa using h), List.flatMap_append]
  simp
  rfl
theorem quoteB_len (c : UInt8) : (Sp.quoteB c).length ≤ 4 := by
  unfold Sp.quoteB
  repeat' split
  all_goals simp
theorem flatMap_len (l : Sp.Bs) : (l.flatMap Sp.quoteB).length ≤ 4 * l.length := by
  induction l with
  | nil => simp
  | cons c r ih =>
    have := quoteB_len c
    simp only [List.flatMap_cons, List.length_append, List.length_cons]
    omega

set_option maxHeartbeats 2000000 in
theorem quote_any (s : ByteArray) (w : World) (hs : s.size ≤ 1000000) :
    Calls Tryd.prog 26 #[.string s] w fun e w' => e = .returned (.string ⟨(Sp.quote s.data.toList).toArray⟩) ∧ Below w.heap.size w w' := by
  have hg := Tryd.Builder_Grow_fresh w.heap.size w.heap.size (s.size + 2) (w.alloc (Obj.cells #[Value.pointer none, Value.slice none 0 0] 60)) (Nat.le_refl _) (by unfold World.alloc; exact Array.getElem?_push_size) (by simp) (by omega)
  rw [show ((s.size + 2 : Nat) : Int) = (s.size : Int) + 2 from by omega] at hg
  have HG := Lib.hid hg
  clear hg
  go_enter Tryd.func26, Tryd.ntmps26
  go_wp2_with fail
  refine HG.out.mono ?_
  clear HG
  rintro e w1 ⟨rfl, hB1, hb1⟩
  have hlt1 := hb1.size
  have hbel1 : Below w.heap.size w w1 := ((Below.refl _ w).alloc (Nat.le_refl _) _).trans hb1
  have hI1 : Bld w.heap.size w.heap.size [] w1 := Lib.IsBuilderF.of (Or.inr hB1)
  clear hb1 hB1
  have hz1 : w.heap.size < w1.heap.size := by simp at hlt1; omega
  clear hlt1
  go_wp2_with fail
  refine (wb w.heap.size w.heap.size [] 39 w1 hI1 (by simp) (by omega)).mono ?_
  rintro e w2 ⟨rfl, hI2, hb2, hk2⟩
  have hz2 := hb2.size
  go_wp2_with fail
  go_loopw [12] (fun i wr => ∃ k : Nat, k ≤ s.size ∧ i = .int .i64 k ∧ Bld w.heap.size w.heap.size (39 :: (s.data.toList.take k).flatMap Sp.quoteB) wr ∧ Below w.heap.size w wr ∧ w.heap.size < wr.heap.size) (fun i wr => s.size - (intOf i).toNat)
  case atStart => exact ⟨0, Nat.zero_le _, rfl, by simpa using hI2, hbel1.trans hb2, by omega⟩
  case round =>
    clear hI1 hI2 hb2 hk2 hz2
    obtain ⟨k, hk, rfl, hI, hb, hz⟩ := hrel
    have hfl := flatMap_len (s.data.toList.take k)
    have hlk : (s.data.toList.take k).length ≤ k := List.length_take_le _ _
    by_cases hlt : k < s.size
    · go_wp2_with fail
      refine (quoteByte_any w.heap.size w.heap.size _ s[k] wr hI (by simp only [List.length_cons]; omega) (by omega)).mono ?_
      rintro e w3 ⟨rfl, hI3, hb3, hk3⟩
      have hz3 := hb3.size
      go_wp2_with fail
      go_roundw
      case rel => exact ⟨k + 1, by omega, by go_num, by rw [flatMap_take _ _ _ hlt]; exact hI3, hb.trans hb3, by omega⟩
      case measure => simp [intOf]; omega
    · have hk' : Hid (k = s.size) := by show _ = _; omega
      go_wp2_with fail
      refine (wb w.heap.size w.heap.size _ 39 wr hI (by simp only [List.length_cons]; omega) (by omega)).mono ?_
      rintro e w3 ⟨rfl, hI3, hb3, hk3⟩
      have hz3 := hb3.size
      go_wp2_with fail
      refine (Tryd.Builder_String_any_k w.heap.size w.heap.size _ w3 hI3 (by omega)).mono ?_
      rintro e w4 ⟨rfl, hI4, hb4, hk4⟩
      go_wp2_with fail
      go_ret
      refine ⟨?_, (hb.trans hb3).trans hb4⟩
      rw [hk'.out, List.take_of_length_le (by rw [size_list]; omega)]
      rfl
end Go.Proofs.YtfomjdaihoaipaaDoor
