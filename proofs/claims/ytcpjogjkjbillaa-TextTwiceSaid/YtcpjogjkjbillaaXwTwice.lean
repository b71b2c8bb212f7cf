/-
  TextTwice of layer 9: the walk, at this program (made by wip/tools/genLaw9.py).
-/
import Derived.Test.YtcpjogjkjbillaaTxV
set_option linter.unusedVariables false
set_option linter.unusedSimpArgs false
namespace Go.Proofs.Ytcpjogjkjbillaa
namespace lawTextTwice
open Go.RowKit

theorem times_nil : ∀ n, Tx.times [] n = []
  | 0 => rfl
  | n + 1 => by rw [Tx.times, times_nil n]; rfl
theorem rep_small {s : Tx.Bs} {n : Nat} (h : n * s.length ≤ 65536) : Tx.rep s (n : Int) = (Tx.times s n, []) := by
  unfold Tx.rep
  by_cases h0 : (n : Int) < 1 ∨ s = []
  · rw [if_pos h0]
    rcases h0 with g | g
    · obtain rfl : n = 0 := by omega
      rfl
    · subst g; rw [times_nil]
  · obtain ⟨P, hP⟩ : ∃ P, P = n * s.length := ⟨_, rfl⟩
    have e : (n : Int) * (s.length : Int) = (P : Int) := by rw [hP, Int.natCast_mul]
    rw [← hP] at h
    rw [if_neg h0, e, if_neg (by omega)]
    rfl
theorem rep_sum {s : Tx.Bs} {n m : Nat} (h1 : n * s.length ≤ 65536) (h2 : m * s.length ≤ 65536) : Tx.rep s ((n : Int) + (m : Int)) = Tx.cat (Tx.times s n) (Tx.times s m) := by
  have e : ((n : Int) + (m : Int)) = ((n + m : Nat) : Int) := by omega
  have hl : (Tx.times s n).length + (Tx.times s m).length = (n + m) * s.length := by rw [Tx.times_length, Tx.times_length, Nat.add_mul]
  obtain ⟨P, hP⟩ : ∃ P, P = (n + m) * s.length := ⟨_, rfl⟩
  unfold Tx.cat
  rw [hl, e, ← hP]
  by_cases hb : 65536 < P
  · rw [if_pos hb]
    have hne : ¬ (((n + m : Nat) : Int) < 1 ∨ s = []) := by
      rintro (g | g)
      · have g0 : n + m = 0 := by omega
        rw [g0, Nat.zero_mul] at hP
        omega
      · rw [g] at hP
        simp at hP
        omega
    have e2 : ((n + m : Nat) : Int) * (s.length : Int) = (P : Int) := by rw [hP, Int.natCast_mul]
    unfold Tx.rep
    rw [if_neg hne, e2, if_pos (by omega)]
  · rw [if_neg hb, rep_small (by omega), Tx.times_add]
set_option maxHeartbeats 16000000 in
set_option maxRecDepth 100000 in
theorem walk (x : ByteArray) (n : Int) (m : Int) (w : World) (hx : x.size ≤ 140737488351232) (hn : -9223372036854775808 ≤ n ∧ n ≤ 9223372036854775807) (hm : -9223372036854775808 ≤ m ∧ m ≤ 9223372036854775807) : Calls Try.prog 12 #[.string x, .int .i64 n, .int .i64 m] w fun e w' => e = .returned (.bool true) ∧ Below w.heap.size w w' := by
  by_cases hbad : n < 0 ∨ ¬ n < 0 ∧ (m < 0 ∨ ¬ m < 0 ∧ (1000 < n ∨ ¬ 1000 < n ∧ (1000 < m ∨ ¬ 1000 < m ∧ (60 : Int) < (x.size : Int))))
  · clear hn hm
    rcases hbad with g1 | ⟨g1, g2 | ⟨g2, g3 | ⟨g3, g4 | ⟨g4, g5⟩⟩⟩⟩
    all_goals
      go_enter Try.func12, Try.ntmps12
      go_wp2_with (first
        | (go_at_call 17; refine (said9 _).mono ?_; rintro e w0 ⟨rfl, b0⟩))
      go_ret
      exact ⟨rfl, b0⟩
  · have hn0 : 0 ≤ n ∧ n ≤ 1000 := by omega
    have hm0 : 0 ≤ m ∧ m ≤ 1000 := by omega
    have hs : x.size ≤ 60 := by omega
    clear hbad hn hm
    obtain ⟨i, rfl⟩ : ∃ i : Nat, n = (i : Int) := ⟨n.toNat, by omega⟩
    obtain ⟨j, rfl⟩ : ∃ j : Nat, m = (j : Int) := ⟨m.toNat, by omega⟩
    have h1 : i * x.data.toList.length ≤ 65536 := by
      rw [size_list]
      have : i * x.size ≤ 1000 * 60 := Nat.mul_le_mul (by omega) hs
      omega
    have h2 : j * x.data.toList.length ≤ 65536 := by
      rw [size_list]
      have : j * x.size ≤ 1000 * 60 := Nat.mul_le_mul (by omega) hs
      omega
    obtain ⟨A, hA⟩ : ∃ A, A = Tx.times x.data.toList i := ⟨_, rfl⟩
    obtain ⟨B, hB⟩ : ∃ B, B = Tx.times x.data.toList j := ⟨_, rfl⟩
    have HA : Hid (Tx.rep x.data.toList (i : Int) = (A, [])) := (show _ = _ by rw [rep_small h1, hA])
    have HB : Hid (Tx.rep x.data.toList (j : Int) = (B, [])) := (show _ = _ by rw [rep_small h2, hB])
    obtain ⟨⟨c, d⟩, hc⟩ : ∃ p, Tx.cat A B = p := ⟨_, rfl⟩
    have HS : Hid (Tx.rep x.data.toList ((i : Int) + (j : Int)) = (c, d)) := (show _ = _ by rw [rep_sum h1 h2, ← hA, ← hB, hc])
    have HC : Hid (Tx.cat (⟨A.toArray⟩ : ByteArray).data.toList (⟨B.toArray⟩ : ByteArray).data.toList = (c, d)) := (show _ = _ from hc)
    have sA : (⟨A.toArray⟩ : ByteArray).size ≤ 140737488351232 := by show A.toArray.size ≤ _; rw [List.size_toArray, hA, Tx.times_length]; omega
    have sB : (⟨B.toArray⟩ : ByteArray).size ≤ 140737488351232 := by show B.toArray.size ≤ _; rw [List.size_toArray, hB, Tx.times_length]; omega
    have hw : IntKind.i64.wrap ((i : Int) + (j : Int)) = (i : Int) + (j : Int) := IntWalk.i64_in _ (by omega)
    have SA := Lib.hid sA
    have SB := Lib.hid sB
    clear h1 h2 hA hB hc sA sB
    have g1 : ¬ (1000 : Int) < (i : Int) := by omega
    have g2 : ¬ (1000 : Int) < (j : Int) := by omega
    have g3 : ¬ (60 : Int) < (x.size : Int) := by omega
    go_enter Try.func12, Try.ntmps12
    go_wp2_with (first
      | (go_at_call 15; with_reducible (show Calls _ _ #[_, Value.int _ (i : Int)] _ _); refine (tRepeat_is HA hx ⟨by omega, by omega⟩ _).mono ?_; rintro e w1 ⟨rfl, b1⟩)
      | (go_at_call 15; with_reducible (show Calls _ _ #[_, Value.int _ (j : Int)] _ _); refine (tRepeat_is HB hx ⟨by omega, by omega⟩ _).mono ?_; rintro e w2 ⟨rfl, b2⟩)
      | (go_at_call 15; with_reducible (show Calls _ _ #[_, Value.int _ ((i : Int) + (j : Int))] _ _); refine (tRepeat_is HS hx ⟨by omega, by omega⟩ _).mono ?_; rintro e w3 ⟨rfl, b3⟩)
      | (go_at_call 13; refine (tConcat_is HC SA.out SB.out _).mono ?_; rintro e w4 ⟨rfl, b4⟩)
      | (go_at_call 17; refine (said9 _).mono ?_; rintro e w0 ⟨rfl, b0⟩))
    go_ret
    exact ⟨ret_bool (by first | rfl | (simp; done)), bseq (bseq (bseq (bseq b1 b2) b3) b4) b0⟩
end lawTextTwice
end Go.Proofs.Ytcpjogjkjbillaa
