/-
  A line of a source, and its end, at this program.
-/
import Derived.Test.YtbdjccmcdifjcaaGreatDoorRdB
import Derived.Test.YtbdjccmcdifjcaaGreatDoorPlaces
set_option linter.unusedVariables false
set_option linter.unusedSimpArgs false
namespace Go.Proofs.YtbdjccmcdifjcaaGreatDoor
open Go.RowKit Go.Shelf

/-- What the end of a source leaves. -/
def EndEnd (n B b : Nat) (len : Int) (out opn : List T4) (bs : List Nat) (w : World) (e : Ending) (w' : World) : Prop :=
  Kp n b B w w' ∧ match opn with
    | o :: _ => e = .panicked (wrongP (o.2.1, 21))
    | [] => e = .returned (.tuple #[]) ∧ ∃ v5 v6 v7, Rd B b v5 v6 v7 (out ++ List.replicate bs.length (Sp.mark 7 len) ++ [Sp.mark 8 len]) [] bs w'

set_option maxHeartbeats 8000000 in
set_option maxRecDepth 100000 in
theorem end_any (n B b : Nat) (v5 v6 v7 : Value) (out opn : List T4) (bs : List Nat) (len : Int) (w : World) (h : Rd B b v5 v6 v7 out opn bs w) (hn : n ≤ B) (hnb : n ≤ b) (hB : B ≤ w.heap.size) (hl : out.length ≤ 100000000) (hbl : bs.length ≤ 100000000) (hol : opn.length ≤ 100000000) :
    Calls Tryz.prog 25 #[.pointer (some ⟨b, 0, none⟩), .int .i64 len] w fun e w' => EndEnd n B b len out opn bs w e w' := by
  have hnot : ∀ (x : Bool) (w : World), (Op.unary .not (.bool x)).run Tryz.prog w = .ok (.bool (!x)) w := fun _ _ => rfl
  have hf0 := field_br0
  obtain ⟨u0, c1, c2, u2, u3, u4⟩ := h.cells
  clear u0 u2 u3 u4
  have HT := Lib.hid (emptyB_any B v6 opn w h.opn)
  have HP := Lib.hid (topB_any B v6 opn w h.opn (by omega))
  have HR := Lib.hid h
  cases opn with
  | cons o os =>
    rw [show decide (o :: os = []) = false by simp] at HT
    obtain ⟨cl, HCL⟩ := hid_ex (⟨((o :: os).head?.elim [] fun o => Sp.closer o).toArray⟩ : ByteArray)
    rw [HCL.out] at HP
    rw [show ((o :: os).head?.elim 0 fun o => o.2.1) = o.2.1 from rfl] at HP
    clear h c2
    go_enter Tryz.func25, Tryz.ntmps25
    go_wp2_with fail
    refine HT.out.mono ?_
    rintro e w1 ⟨rfl, rfl⟩
    clear HT
    go_wp2_with fail
    refine HP.out.mono ?_
    rintro e w2 ⟨rfl, hb2⟩
    have HK2 : Hid (Kp n b B w1 w2) := Kp.of_below hb2 (by omega)
    clear HP hb2
    go_wp2_with fail
    exact ⟨rfl, HK2.out, rfl⟩
  | nil =>
    rw [show decide (([] : List T4) = []) = true by simp] at HT
    obtain ⟨pa, cap, rfl, hcap, hcc⟩ := h.blk.any
    have hrl : bs.reverse.length = bs.length := List.length_reverse
    rw [hrl] at *
    clear h HP hcc
    go_enter Tryz.func25, Tryz.ntmps25
    go_wp2_with fail
    refine HT.out.mono ?_
    rintro e w1 ⟨rfl, rfl⟩
    clear HT
    go_wp2_with fail
    go_loopw [23] (fun v23 wr => ∃ (i : Nat) (v5' : Value), v23 = .int .i64 (i : Int) ∧ i ≤ bs.length ∧ Hid (Rd B b v5' v6 (.slice pa bs.length cap) (out ++ List.replicate i (Sp.mark 7 len)) [] bs wr) ∧ Hid (Kp n b B w1 wr)) (fun v23 wr => bs.length - (intOf v23).toNat)
    case atStart => exact ⟨0, v5, rfl, Nat.zero_le _, by simpa using HR, Kp.refl _ _⟩
    case round =>
      clear HR c1 c2
      obtain ⟨i, v5', rfl, hi, HR, HK⟩ := hrel
      by_cases hlt : i < bs.length
      · have g1 : (i : Int) < (bs.length : Int) := by omega
        go_wp2_with fail
        refine (tell_any n B b v5' v6 _ _ [] bs 7 len wr HR.out hn hnb (Nat.le_trans hB HK.out.1.size) (by rw [List.length_append, List.length_replicate]; omega)).mono ?_
        rintro e w2 ⟨rfl, v', hR2, hK2⟩
        rw [List.append_assoc, ← List.replicate_succ'] at hR2
        have HR2 := Lib.hid hR2
        have HK2 := Lib.hid (HK.out.trans hK2)
        clear hR2 hK2
        go_wp2_with fail
        go_roundw
        case rel => exact ⟨i + 1, v', by go_num, by omega, HR2, HK2⟩
        case measure => simp [intOf]; omega
      · have g1 : ¬ (i : Int) < (bs.length : Int) := by omega
        obtain rfl : i = bs.length := by omega
        go_wp2_with fail
        refine (tell_any n B b v5' v6 _ _ [] bs 8 len wr HR.out hn hnb (Nat.le_trans hB HK.out.1.size) (by rw [List.length_append, List.length_replicate]; omega)).mono ?_
        rintro e w2 ⟨rfl, v', hR2, hK2⟩
        have HR2 := Lib.hid hR2
        have HK2 := Lib.hid (HK.out.trans hK2)
        clear hR2 hK2
        go_wp2_with fail
        go_end0
        exact ⟨HK2.out, rfl, _, _, _, HR2.out⟩
end Go.Proofs.YtbdjccmcdifjcaaGreatDoor
