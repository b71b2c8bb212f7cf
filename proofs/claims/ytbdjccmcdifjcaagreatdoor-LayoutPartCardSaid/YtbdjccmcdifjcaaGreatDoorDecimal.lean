/-
  How a number's digits are made, at this program.
-/
import Derived.Test.YtbdjccmcdifjcaaGreatDoorDigits
import Derived.IntWalk
set_option linter.unusedVariables false
set_option linter.unusedSimpArgs false
namespace Go.Proofs.YtbdjccmcdifjcaaGreatDoor
open Go.RowKit Go.Shelf

theorem digit_facts (m : Nat) (hm : m < 9223372036854775808) : ∃ (r q : Nat) (c : UInt8), Hid (q = m / 10) ∧ q ≤ m ∧ (0 < m → q < m) ∧ c = UInt8.ofNat (48 + m % 10) ∧ r < 10 ∧ (c.toNat : Int) = 48 + (r : Int) ∧ ((m : Int)).tmod 10 = (r : Int) ∧ (m : Int) % 10 = (r : Int) ∧ IntKind.u8.wrap (r : Int) = (r : Int) ∧ IntKind.u8.wrap (48 + (r : Int)) = 48 + (r : Int) ∧ ((m : Int)).tdiv 10 = (q : Int) ∧ (m : Int) / 10 = (q : Int) ∧
    ∀ wx : World, (convert 86 9 (.slice (some ⟨wx.heap.size, 0, none⟩) 1 1)).run Tryz.prog (wx.alloc (Obj.cells #[.int .u8 (48 + (r : Int))] 5)) = .ok (.string ⟨#[c]⟩) (wx.alloc (Obj.cells #[.int .u8 (48 + (r : Int))] 5)) := by
  have h := (Sp.dig_of m).2.2
  have hc : ((UInt8.ofNat (48 + m % 10)).toNat : Int) = 48 + ((m % 10 : Nat) : Int) := by rw [h]; omega
  refine ⟨m % 10, m / 10, _, rfl, by omega, by omega, rfl, by omega, hc, ?_, by omega, IntWalk.u8_in _ (by omega), IntWalk.u8_in _ (by omega), ?_, by omega, ?_⟩
  · rw [Int.tmod_eq_emod_of_nonneg (by omega)]; omega
  · rw [Int.tdiv_eq_ediv_of_nonneg (by omega)]; omega
  · intro wx
    have := lawNames.byte_str (UInt8.ofNat (48 + m % 10)) wx
    rw [hc] at this
    exact this

theorem Sp.decGo_ge : ∀ (f n : Nat) (acc : Sp.Bs), acc.length ≤ (Sp.decGo f n acc).length := by
  intro f
  induction f with
  | zero => intro n acc; exact Nat.le_refl _
  | succ f ih =>
    intro n acc
    rw [Sp.decGo]
    split
    · exact Nat.le_refl _
    · have := ih (n / 10) (UInt8.ofNat (48 + n % 10) :: acc)
      simp only [List.length_cons] at this
      omega
theorem dec_len (n : Nat) (h : n < 9223372036854775808) : (Sp.dec n).length ≤ 20 := by
  obtain ⟨c, r, e, _, _, _, h5⟩ := Sp.dec_said n h
  rw [e]; exact h5

set_option maxHeartbeats 2000000 in
theorem decimal_any (n : Nat) (hn : n < 9223372036854775808) (w : World) : Calls Tryz.prog 33 #[.int .i64 (n : Int)] w fun e w' => e = .returned (.string ⟨(Sp.dec n).toArray⟩) ∧ Below w.heap.size w w' := by
  obtain ⟨r, q, c, HQ, hqm, _, hc, hr, _, h1, h2, h3, h4, h5, hq, h6⟩ := digit_facts n hn
  have HD : Hid (Sp.dec n = Sp.decGo n q (⟨#[c]⟩ : ByteArray).data.toList) := by show _ = _; rw [hc, HQ.out]; rfl
  clear hc
  go_enter Tryz.func33, Tryz.ntmps33
  go_wp2_with fail
  go_loopw [0, 3] (fun v0 v3 wr => ∃ (m : Nat) (out : ByteArray), v0 = .int .i64 (m : Int) ∧ v3 = .string out ∧ m ≤ n ∧ Hid (Sp.dec n = Sp.decGo n m out.data.toList) ∧ Below w.heap.size w wr) (fun v0 _ wr => (intOf v0).toNat)
  case atStart =>
    refine ⟨q, _, by go_num, rfl, by omega, HD, (Below.refl _ w).alloc (Nat.le_refl _) _⟩
  case round =>
    clear h1 h2 h3 h4 h5 h6 hq HD
    obtain ⟨m, out, rfl, rfl, hm, HM, hbel⟩ := hrel
    have hos : out.size ≤ 20 := by
      have h1 := Sp.decGo_ge n m out.data.toList
      rw [← HM.out, size_list] at h1
      have := dec_len n hn
      omega
    by_cases hlt : 0 < m
    · obtain ⟨r', q', c', HQ, hqm', hqlt, hc, hr, _, h1, h2, h3, h4, h5, hq, h6⟩ := digit_facts m (by omega)
      have hqlt' := hqlt hlt
      have HN : Hid (Sp.dec n = Sp.decGo n q' ((⟨#[c']⟩ : ByteArray) ++ out).data.toList) := by
        show _ = _
        rw [HM.out, Sp.decGo_step n m _ hm (by omega), hc, HQ.out]
        simp
      clear hc HM hqlt
      go_wp2_with fail
      go_roundw
      case rel => exact ⟨q', _, by go_num, rfl, by omega, HN, hbel.alloc hbel.size _⟩
      case measure => simp [intOf]; omega
    · have h0 : m = 0 := by omega
      have HN : Hid ((⟨(Sp.dec n).toArray⟩ : ByteArray) = out) := by
        show _ = _
        rw [HM.out, h0]
        have : ∀ f acc, Sp.decGo f 0 acc = acc := by intro f acc; cases f <;> simp [Sp.decGo]
        rw [this, toArray_data]
      clear HM h0
      go_wp2_with fail
      go_ret
      exact ⟨ret_str HN.out.symm, hbel⟩
end Go.Proofs.YtbdjccmcdifjcaaGreatDoor
