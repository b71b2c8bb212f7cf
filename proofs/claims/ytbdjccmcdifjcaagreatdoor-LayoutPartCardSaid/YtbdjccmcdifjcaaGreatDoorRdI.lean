/-
  What an indentation does to the reader, at this program.
-/
import Derived.Test.YtbdjccmcdifjcaaGreatDoorRdM
import Derived.Deep.DeepCutAuto
set_option linter.unusedVariables false
set_option linter.unusedSimpArgs false
namespace Go.Proofs.YtbdjccmcdifjcaaGreatDoor
open Go.RowKit Go.Shelf

namespace Sp
/-- As 'indent', of the blocks but the source itself. -/
def indentB (bs : List Nat) (n : Nat) (at_ : Int) : Except (Int × Int) (List T4 × List Nat) :=
  if bs.headD 0 < n then .ok ([mark 6 at_], n :: bs)
  else if (pops n bs).1.headD 0 = n then .ok (List.replicate (pops n bs).2 (mark 7 at_), (pops n bs).1)
  else .error (at_, 20)
theorem pops_zero (n : Nat) : ∀ bs : List Nat, pops n (bs ++ [0]) = ((pops n bs).1 ++ [0], (pops n bs).2)
  | [] => rfl
  | b :: bs => by
    rw [List.cons_append, pops, pops]
    split
    · rw [pops_zero n bs]
    · rfl
theorem headD_zero (bs : List Nat) : (bs ++ [0]).headD 0 = bs.headD 0 := by cases bs <;> rfl
theorem indent_zero (bs : List Nat) (n : Nat) (at_ : Int) : indent (bs ++ [0]) n at_ = match indentB bs n at_ with
    | .ok (m, b) => .ok (m, b ++ [0])
    | .error e => .error e := by
  unfold indent indentB
  rw [headD_zero, pops_zero]
  simp only [headD_zero]
  split
  · rfl
  · split <;> rfl
theorem pops_le (n : Nat) : ∀ bs : List Nat, (pops n bs).1.headD 0 ≤ n
  | [] => Nat.zero_le _
  | b :: bs => by
    rw [pops]
    split
    · exact pops_le n bs
    · simp; omega
theorem pops_step {n b : Nat} {bs : List Nat} (h : n < b) : pops n (b :: bs) = ((pops n bs).1, (pops n bs).2 + 1) := by rw [pops, if_pos h]
theorem pops_end {n : Nat} {bs : List Nat} (h : ¬ n < bs.headD 0) : pops n bs = (bs, 0) := by
  cases bs with
  | nil => rfl
  | cons b bs => rw [pops, if_neg (by simpa using h)]
end Sp

/-- The panic of what is wrong. -/
def wrongP (p : Int × Int) : List PanicEntry := [{ v := .iface 49 (.agg #[.int .i64 p.1, .int .i64 p.2]), recovered := false }]
def rdLen (b : Nat) (w : World) : Nat := match w.cell? ⟨b, 2, none⟩ with
  | some (.slice _ n _) => n
  | _ => 0
theorem Rd.len {B b : Nat} {v5 v6 v7 : Value} {out opn : List T4} {bs : List Nat} {w : World} (h : Rd B b v5 v6 v7 out opn bs w) : rdLen b w = bs.length := by
  obtain ⟨_, _, c, _⟩ := h.cells
  obtain ⟨pa, cap, rfl, _⟩ := h.blk.any
  unfold rdLen
  rw [c]
  exact List.length_reverse

/-- What an indentation leaves. -/
def IndEnd (n B b : Nat) (v6 : Value) (out opn : List T4) (x : Except (Int × Int) (List T4 × List Nat)) (w : World) (e : Ending) (w' : World) : Prop :=
  Kp n b B w w' ∧ match x with
    | .ok (m, bs') => e = .returned (.tuple #[]) ∧ ∃ v5 v7, Rd B b v5 v6 v7 (out ++ m) opn bs' w'
    | .error p => e = .panicked (wrongP p)

set_option maxHeartbeats 8000000 in
set_option maxRecDepth 100000 in
theorem indent_any (n B b nb : Nat) (v5 v6 v7 : Value) (out opn : List T4) (bs : List Nat) (at_ : Int) (w : World) (h : Rd B b v5 v6 v7 out opn bs w) (hn : n ≤ B) (hnb : n ≤ b) (hB : B ≤ w.heap.size) (hl : out.length ≤ 100000000) (hbl : bs.length ≤ 100000000) :
    Calls Tryz.prog 38 #[.pointer (some ⟨b, 0, none⟩), .int .i64 (nb : Int), .int .i64 at_] w fun e w' => IndEnd n B b v6 out opn (Sp.indentB bs nb at_) w e w' := by
  obtain ⟨u0, u1, c2, u2, u3, u4⟩ := h.cells
  clear u0 u1 u2 u3 u4
  have HT := Lib.hid (topI_any B v7 bs w h.blk (by omega))
  have HR := Lib.hid h
  obtain ⟨t0, HT0⟩ := hid_ex (bs.headD 0)
  rw [HT0.out] at HT
  by_cases hgt : t0 < nb
  · have g1 : ¬ ((nb : Int) ≤ (t0 : Int)) := by omega
    have HN : Hid (Sp.indentB bs nb at_ = .ok ([Sp.mark 6 at_], nb :: bs)) := by
      show _ = _
      unfold Sp.indentB
      rw [HT0.out, if_pos hgt]
    clear h
    go_enter Tryz.func38, Tryz.ntmps38
    go_wp2_with fail
    refine HT.out.mono ?_
    rintro e w1 ⟨rfl, rfl⟩
    clear HT
    go_wp2_with fail
    refine (pushI_any n B b nb v5 v6 v7 out opn bs w1 HR.out hn hnb hB (by omega)).mono ?_
    rintro e w2 ⟨rfl, v', hR2, hK2⟩
    have HR2 := Lib.hid hR2
    have HK2 := Lib.hid hK2
    clear hR2 hK2 c2
    go_wp2_with fail
    refine (tell_any n B b v5 v6 v' out opn (nb :: bs) 6 at_ w2 HR2.out hn hnb (Nat.le_trans hB HK2.out.1.size) (by omega)).mono ?_
    rintro e w3 ⟨rfl, v'', hR3, hK3⟩
    have HR3 := Lib.hid hR3
    have HK3 := Lib.hid (HK2.out.trans hK3)
    clear hR3 hK3
    go_wp2_with fail
    refine bodyPost_ret (results_none rfl _ _ _) rfl ?_
    refine ⟨HK3.out, ?_⟩
    rw [HN.out]
    exact ⟨rfl, _, _, HR3.out⟩
  · have g1 : (nb : Int) ≤ (t0 : Int) := by omega
    have HG := Lib.hid hgt
    clear h
    go_enter Tryz.func38, Tryz.ntmps38
    go_wp2_with fail
    refine HT.out.mono ?_
    rintro e w1 ⟨rfl, rfl⟩
    clear HT
    go_wp2_with fail
    go_loopw [27] (fun v27 wr => ∃ (v5' v7' : Value) (k : Nat) (bs' : List Nat), Hid (Rd B b v5' v6 v7' (out ++ List.replicate k (Sp.mark 7 at_)) opn bs' wr) ∧ Hid (Kp n b B w1 wr) ∧ bs'.length + k = bs.length ∧ Hid (Sp.pops nb bs = ((Sp.pops nb bs').1, (Sp.pops nb bs').2 + k))) (fun v27 wr => rdLen b wr)
    case atStart => exact ⟨v5, v7, 0, bs, by simpa using HR, Kp.refl _ _, rfl, rfl⟩
    case round =>
      clear HR c2
      obtain ⟨v5', v7', k, bs', HR, HK, hlen, HP⟩ := hrel
      obtain ⟨u0, u1, c2, u2, u3, u4⟩ := HR.out.cells
      clear u0 u1 u2 u3 u4
      have hBr := Nat.le_trans hB HK.out.1.size
      have HM : Hid (rdLen b wr = bs'.length) := HR.out.len
      have HT := Lib.hid (topI_any B v7' bs' wr HR.out.blk (by omega))
      obtain ⟨t1, HT1⟩ := hid_ex (bs'.headD 0)
      rw [HT1.out] at HT
      by_cases hlt : nb < t1
      · have g2 : (nb : Int) < (t1 : Int) := by omega
        cases bs' with
        | nil =>
          exfalso
          have := HT1.out
          simp at this
          omega
        | cons x xs =>
          have hx : x = t1 := HT1.out
          subst hx
          have HP' : Hid (Sp.pops nb bs = ((Sp.pops nb xs).1, (Sp.pops nb xs).2 + (k + 1))) := by
            show _ = _
            rw [HP.out, Sp.pops_step hlt]
            congr 1
            show _ + 1 + k = _
            omega
          have hlen' : xs.length + (k + 1) = bs.length := by rw [List.length_cons] at hlen; omega
          clear HP HT1 hlen hlt
          go_wp2_with fail
          refine HT.out.mono ?_
          rintro e w2 ⟨rfl, rfl⟩
          clear HT
          go_wp2_with fail
          refine (popI_any n B b x v5' v6 v7' _ opn xs w2 HR.out hnb (by omega)).mono ?_
          rintro e w3 ⟨rfl, v', hR2, hK2⟩
          have HR2 := Lib.hid hR2
          have HK2 := Lib.hid (HK.out.trans hK2)
          clear hR2 hK2 c2
          go_wp2_with fail
          refine (tell_any n B b v5' v6 v' _ opn xs 7 at_ w3 HR2.out hn hnb (Nat.le_trans hB HK2.out.1.size) (by rw [List.length_append, List.length_replicate]; omega)).mono ?_
          rintro e w4 ⟨rfl, v'', hR3, hK3⟩
          rw [List.append_assoc, ← List.replicate_succ'] at hR3
          have HR3 := Lib.hid hR3
          have HK3 := Lib.hid (HK2.out.trans hK3)
          have hm : rdLen b w4 < rdLen b w2 := by
            rw [HM.out, hR3.len, List.length_cons]
            omega
          clear hR3 hK3
          go_wp2_with fail
          go_roundw
          case rel => exact ⟨_, _, k + 1, xs, HR3, HK3, hlen', HP'⟩
          case measure => exact hm
      · have g2 : (t1 : Int) ≤ (nb : Int) := by omega
        have HP' : Hid (Sp.pops nb bs = (bs', k)) := by
          show _ = _
          rw [HP.out, Sp.pops_end (by rw [HT1.out]; exact hlt)]
          simp
        clear HP
        go_wp2_with fail
        refine HT.out.mono ?_
        rintro e w2 ⟨rfl, rfl⟩
        by_cases heq : t1 = nb
        · have g3 : (nb : Int) ≤ (t1 : Int) := by omega
          have HN : Hid (Sp.indentB bs nb at_ = .ok (List.replicate k (Sp.mark 7 at_), bs')) := by
            show _ = _
            unfold Sp.indentB
            rw [HT0.out, if_neg HG.out, HP'.out, HT1.out, if_pos heq]
          clear heq hlt
          go_wp2_with fail
          refine HT.out.mono ?_
          rintro e w3 ⟨rfl, rfl⟩
          go_wp2_with fail
          go_end0
          refine ⟨HK.out, ?_⟩
          rw [HN.out]
          exact ⟨rfl, _, _, HR.out⟩
        · have g3 : (t1 : Int) < (nb : Int) := by omega
          have HN : Hid (Sp.indentB bs nb at_ = .error (at_, 20)) := by
            show _ = _
            unfold Sp.indentB
            rw [HT0.out, if_neg HG.out, HP'.out, HT1.out, if_neg heq]
          clear heq hlt
          go_wp2_with fail
          refine HT.out.mono ?_
          rintro e w3 ⟨rfl, rfl⟩
          go_wp2_with fail
          refine ⟨rfl, HK.out, ?_⟩
          rw [HN.out]
          rfl
end Go.Proofs.YtbdjccmcdifjcaaGreatDoor
