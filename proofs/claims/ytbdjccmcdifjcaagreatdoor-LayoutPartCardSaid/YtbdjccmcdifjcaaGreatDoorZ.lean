/-
  How long a string between quotes is, at this program.
-/
import Derived.Test.YtbdjccmcdifjcaaGreatDoorV
set_option linter.unusedVariables false
set_option linter.unusedSimpArgs false
namespace Go.Proofs.YtbdjccmcdifjcaaGreatDoor
open Go.RowKit Go.Shelf

theorem getBang (s : ByteArray) (k : Nat) (h : k < s.size) : s.get! k = s[k] := by
  have := get_at s k h
  simpa using this

/-- The bytes of a rune that is none of ASCII are none of ASCII. -/
theorem decode_bytes (s : ByteArray) (pos : Nat) (h : pos < s.size) (ha : 128 ≤ s[pos].toNat) :
    1 ≤ (Utf8.decode s pos).2 ∧ ∀ j, j < (Utf8.decode s pos).2 → ∃ hj : pos + j < s.size, 128 ≤ (s[pos + j]'hj).toNat := by
  have hn : ¬ (s[pos]).toNat < 128 := by omega
  have cont : ∀ k, (decide (pos + k < s.size) && (s.get! (pos + k)).toNat / 64 == 2) = true → ∃ hj : pos + k < s.size, 128 ≤ (s[pos + k]'hj).toNat := by
    intro k hk
    simp at hk
    obtain ⟨h1, h2⟩ := hk
    refine ⟨h1, ?_⟩
    rw [getBang s _ h1] at h2
    omega
  have one : ∀ j, j < 1 → ∃ hj : pos + j < s.size, 128 ≤ (s[pos + j]'hj).toNat := by
    intro j hj
    obtain rfl : j = 0 := by omega
    exact ⟨h, ha⟩
  simp only [Utf8.decode, get_at s pos h, hn, if_false]
  split
  · rename_i h1
    simp only [Bool.and_eq_true] at h1
    have c1 := cont 1 (by simpa using h1.2)
    split
    · refine ⟨by simp, fun j hj => ?_⟩
      match j, hj with
      | 0, _ => exact one 0 (by decide)
      | 1, _ => exact c1
    · exact ⟨by simp, one⟩
  · split
    · rename_i h1
      simp only [Bool.and_eq_true] at h1
      have c1 := cont 1 (by simpa using h1.1.2)
      have c2 := cont 2 (by simpa using h1.2)
      split
      · refine ⟨by simp, fun j hj => ?_⟩
        match j, hj with
        | 0, _ => exact one 0 (by decide)
        | 1, _ => exact c1
        | 2, _ => exact c2
      · exact ⟨by simp, one⟩
    · split
      · rename_i h1
        simp only [Bool.and_eq_true] at h1
        have c1 := cont 1 (by simpa using h1.1.1.2)
        have c2 := cont 2 (by simpa using h1.1.2)
        have c3 := cont 3 (by simpa using h1.2)
        split
        · refine ⟨by simp, fun j hj => ?_⟩
          match j, hj with
          | 0, _ => exact one 0 (by decide)
          | 1, _ => exact c1
          | 2, _ => exact c2
          | 3, _ => exact c3
        · exact ⟨by simp, one⟩
      · exact ⟨by simp, one⟩

theorem high_run (q : UInt8) (hq : q.toNat < 128) (s : ByteArray) (pos : Nat) : ∀ (k : Nat) (e : Bool), (∀ j, j < k → ∃ hj : pos + j < s.size, 128 ≤ (s[pos + j]'hj).toNat) →
    Sp.sizeGo q e (s.data.toList.drop pos) = (Sp.sizeGo q (if k = 0 then e else false) (s.data.toList.drop (pos + k))).map (· + k) := by
  intro k
  induction k with
  | zero => intro e _; simp
  | succ k ih =>
    intro e hk
    rw [ih e (fun j hj => hk j (by omega))]
    obtain ⟨hj, hc⟩ := hk k (by omega)
    rw [get_drop s (pos + k) hj]
    have e1 : ∀ e', Sp.sizeGo q e' (s[pos + k] :: s.data.toList.drop (pos + k + 1)) = (Sp.sizeGo q false (s.data.toList.drop (pos + k + 1))).map (· + 1) := by
      intro e'
      rw [Sp.sizeGo, if_neg (by omega)]
      cases e' with
      | true => rw [if_pos rfl]
      | false =>
        rw [if_neg (by simp), if_neg (by omega), if_neg]
        intro h
        rw [h] at hc
        omega
    rw [e1]
    simp only [Nat.add_assoc, Nat.succ_ne_zero, if_false]
    cases Sp.sizeGo q false (List.drop (pos + (k + 1)) s.data.toList) with
    | none => rfl
    | some n => simp; omega

/-- One rune of a string behind its first quote. -/
theorem size_step (q : UInt8) (hq : q.toNat < 128) (s : ByteArray) (pos : Nat) (h : pos < s.size) (r wd : Nat) (hd : Utf8.decode s pos = (r, wd)) :
    (r < 32 → ∀ e, Sp.sizeGo q e (s.data.toList.drop pos) = none) ∧
    (¬ r < 32 → Sp.sizeGo q true (s.data.toList.drop pos) = (Sp.sizeGo q false (s.data.toList.drop (pos + wd))).map (· + wd)) ∧
    (r = 92 → Sp.sizeGo q false (s.data.toList.drop pos) = (Sp.sizeGo q true (s.data.toList.drop (pos + wd))).map (· + wd)) ∧
    (¬ r < 32 → ¬ r = 92 → r = q.toNat → Sp.sizeGo q false (s.data.toList.drop pos) = some 1) ∧
    (¬ r < 32 → ¬ r = 92 → ¬ r = q.toNat → Sp.sizeGo q false (s.data.toList.drop pos) = (Sp.sizeGo q false (s.data.toList.drop (pos + wd))).map (· + wd)) ∧
    1 ≤ wd ∧ pos + wd ≤ s.size := by
  rcases Nat.lt_or_ge s[pos].toNat 128 with hlo | hhi
  · have hda := decode_ascii s pos h hlo
    rw [hd] at hda
    obtain ⟨rfl, rfl⟩ := Prod.mk.injEq .. ▸ hda
    rw [get_drop s pos h]
    refine ⟨fun hr e => ?_, fun hr => ?_, fun hr => ?_, fun h1 h2 h3 => ?_, fun h1 h2 h3 => ?_, by omega, by omega⟩
    · rw [Sp.sizeGo, if_pos hr]
    · rw [Sp.sizeGo, if_neg hr, if_pos rfl]
    · rw [Sp.sizeGo, if_neg (by omega), if_neg (by simp), if_pos hr]
    · rw [Sp.sizeGo, if_neg h1, if_neg (by simp), if_neg h2, if_pos (UInt8.toNat_inj.1 h3)]
    · rw [Sp.sizeGo, if_neg h1, if_neg (by simp), if_neg h2, if_neg (fun e => h3 (by rw [e]))]
  · have hr128 := (decode_high s pos h hhi).1
    have hb := decode_bytes s pos h hhi
    rw [hd] at hr128 hb
    simp only at hr128 hb
    have hrun := fun e => high_run q hq s pos wd e hb.2
    have hw : ¬ wd = 0 := by omega
    have hle : pos + wd ≤ s.size := by
      obtain ⟨hj, _⟩ := hb.2 (wd - 1) (by omega)
      omega
    refine ⟨fun hr => by omega, fun hr => ?_, fun hr => by omega, fun h1 h2 h3 => by omega, fun h1 h2 h3 => ?_, by omega, hle⟩
    · have := hrun true; simpa [hw] using this
    · have := hrun false; simpa [hw] using this

def SizeEnd (r : Option Nat) (e : Ending) : Prop :=
  match r with
  | some n => e = .returned (.tuple #[.int .i64 ((n : Int) + 1), .bool true])
  | none => e = .returned (.tuple #[.int .i64 0, .bool false])

set_option maxHeartbeats 4000000 in
theorem strSize_any (s : ByteArray) (hs : s.size ≤ 1000000) (h0 : 0 < s.size) (hq : s[0].toNat < 128) (w : World) :
    Calls Tryz.prog 83 #[.string s] w fun e w' => SizeEnd (Sp.sizeGo s[0] false (s.extract 1 s.size).data.toList) e ∧ Below w.heap.size w w' := by
  have hts : (s.extract 1 s.size).size ≤ 1000000 := by simp [ByteArray.size_extract]; omega
  go_enter Tryz.func83, Tryz.ntmps83
  go_wp2
  go_loopw [4] (fun v wr => ∃ (e : Bool) (pos : Nat), v = .bool e ∧ pos ≤ (s.extract 1 s.size).size ∧ wr.heap[w.heap.size]? = some (.stringIter (s.extract 1 s.size) pos) ∧ Below w.heap.size w wr ∧
      Hid (Sp.sizeGo s[0] false (s.extract 1 s.size).data.toList = (Sp.sizeGo s[0] e ((s.extract 1 s.size).data.toList.drop pos)).map (· + pos))) (fun _ wr => (s.extract 1 s.size).size - wr.iterPos w.heap.size)
  case atStart =>
    refine ⟨false, 0, rfl, Nat.zero_le _, World.iter_heap w _ 0, (Below.refl _ w).alloc (Nat.le_refl _) _, ?_⟩
    show _ = _
    simp
  case round =>
    obtain ⟨e, pos, rfl, hpos, hit, hbw, hsz⟩ := hrel
    obtain ⟨t, ht⟩ : ∃ t, t = s.extract 1 s.size := ⟨_, rfl⟩
    rw [← ht] at hpos hit hsz hts ⊢
    have HT := Lib.hid ht
    clear ht
    by_cases hp : pos < t.size
    · obtain ⟨⟨r, wd⟩, hD⟩ : ∃ d, Utf8.decode t pos = d := ⟨_, rfl⟩
      have hnx : ∀ ty, (Instr.next (.pointer (some ⟨w.heap.size, 0, none⟩)) true ty).run Tryz.prog wr = _ := fun ty => Lib.run_next_any_at wr w.heap.size t pos ty hit hp
      have hd1 := decode_le t pos
      have hst := size_step s[0] hq t pos hp r wd hD
      rw [hD] at hnx hd1
      simp only at hnx hd1
      obtain ⟨s1, s2, s3, s4, s5, hw1, hw2⟩ := hst
      have hit2 := Lib.iterAt_heap wr w.heap.size t pos (pos + wd) hit
      have hbw2 := Lib.below_iterAt hbw (k := w.heap.size) (by omega) t (pos + wd)
      have mea : t.size - (wr.iterAt w.heap.size t (pos + wd)).iterPos w.heap.size < t.size - wr.iterPos w.heap.size := by
        have e1 : wr.iterPos w.heap.size = pos := by simp [World.iterPos, hit]
        have e2 : (wr.iterAt w.heap.size t (pos + wd)).iterPos w.heap.size = pos + wd := by simp [World.iterPos, hit2]
        rw [e1, e2]
        omega
      have MEA := Lib.hid mea
      have S1 := Lib.hid s1
      have S2 := Lib.hid s2
      have S3 := Lib.hid s3
      have S4 := Lib.hid s4
      have S5 := Lib.hid s5
      clear s1 s2 s3 s4 s5 hD mea hit
      by_cases hr : r < 32
      · have HN : Hid (Sp.sizeGo s[0] false t.data.toList = none) := by
          show _ = _
          rw [hsz.out, S1.out hr]
          rfl
        have gr : decide ((r : Int) < 32) = true := by simp; omega
        clear S1 S2 S3 S4 S5 hsz
        go_wp2
        go_ret2
        refine ⟨?_, hbw2⟩
        rw [← HT.out, HN.out]
        rfl
      · have gr : decide ((r : Int) < 32) = false := by simp; omega
        cases e with
        | true =>
          have HN : Hid (Sp.sizeGo s[0] false t.data.toList = (Sp.sizeGo s[0] false (t.data.toList.drop (pos + wd))).map (· + (pos + wd))) := by
            show _ = _
            rw [hsz.out, S2.out hr]
            cases Sp.sizeGo s[0] false (t.data.toList.drop (pos + wd)) with
            | none => rfl
            | some n => simp; omega
          clear S1 S2 S3 S4 S5 hsz hr
          go_wp2
          go_roundw
          case rel => exact ⟨false, pos + wd, rfl, hw2, hit2, hbw2, HN⟩
          case measure => exact MEA.out
        | false =>
          by_cases h92 : r = 92
          · have HN : Hid (Sp.sizeGo s[0] false t.data.toList = (Sp.sizeGo s[0] true (t.data.toList.drop (pos + wd))).map (· + (pos + wd))) := by
              show _ = _
              rw [hsz.out, S3.out h92]
              cases Sp.sizeGo s[0] true (t.data.toList.drop (pos + wd)) with
              | none => rfl
              | some n => simp; omega
            have g92 : ((r : Int) == 92) = true := by simp; omega
            clear S1 S2 S3 S4 S5 hsz hr h92
            go_wp2
            go_roundw
            case rel => exact ⟨true, pos + wd, rfl, hw2, hit2, hbw2, HN⟩
            case measure => exact MEA.out
          · have g92 : ((r : Int) == 92) = false := by simp; omega
            by_cases hrq : r = s[0].toNat
            · have HN : Hid (Sp.sizeGo s[0] false t.data.toList = some (1 + pos)) := by
                show _ = _
                rw [hsz.out, S4.out hr h92 hrq]
                rfl
              have gq : ((r : Int) == (s[0].toNat : Int)) = true := by simp; omega
              clear S1 S2 S3 S4 S5 hsz hr h92 hrq
              go_wp2
              go_ret2
              refine ⟨?_, hbw2⟩
              rw [← HT.out, HN.out]
              have e9 : ((1 + pos : Nat) : Int) + 1 = (pos : Int) + 2 := by omega
              show _ = Ending.returned (.tuple #[.int .i64 (((1 + pos : Nat) : Int) + 1), .bool true])
              rw [e9]
              rfl
            · have HN : Hid (Sp.sizeGo s[0] false t.data.toList = (Sp.sizeGo s[0] false (t.data.toList.drop (pos + wd))).map (· + (pos + wd))) := by
                show _ = _
                rw [hsz.out, S5.out hr h92 hrq]
                cases Sp.sizeGo s[0] false (t.data.toList.drop (pos + wd)) with
                | none => rfl
                | some n => simp; omega
              have gq : ((r : Int) == (s[0].toNat : Int)) = false := by simp; omega
              clear S1 S2 S3 S4 S5 hsz hr h92 hrq
              go_wp2
              go_roundw
              case rel => exact ⟨false, pos + wd, rfl, hw2, hit2, hbw2, HN⟩
              case measure => exact MEA.out
    · have hnx : ∀ ty, (Instr.next (.pointer (some ⟨w.heap.size, 0, none⟩)) true ty).run Tryz.prog wr = _ := fun ty => Lib.run_next_end_at wr w.heap.size t pos ty hit hp
      have HN : Hid (Sp.sizeGo s[0] false t.data.toList = none) := by
        show _ = _
        rw [hsz.out, List.drop_of_length_le (by rw [size_list]; omega)]
        rfl
      clear hsz
      go_wp2
      go_ret2
      refine ⟨?_, hbw⟩
      rw [← HT.out, HN.out]
      rfl
end Go.Proofs.YtbdjccmcdifjcaaGreatDoor
