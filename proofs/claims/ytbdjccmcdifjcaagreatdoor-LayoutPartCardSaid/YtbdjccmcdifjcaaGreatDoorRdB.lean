/-
  What a token does to the reader's brackets, at this program.
-/
import Derived.Test.YtbdjccmcdifjcaaGreatDoorRdI
set_option linter.unusedVariables false
set_option linter.unusedSimpArgs false
namespace Go.Proofs.YtbdjccmcdifjcaaGreatDoor
open Go.RowKit Go.Shelf

namespace Sp
/-- What one token does to the brackets that are open. -/
def brk1 (opn : List T4) (t : T4) : Except Int (List T4) :=
  if 0 < bk t then .ok (t :: opn)
  else if bk t < 0 then
    match opn with
    | [] => .error t.2.1
    | o :: os => if bk o = - bk t then .ok os else .error t.2.1
  else .ok opn
theorem brk_one (opn : List T4) (t : T4) (ts : List T4) : brk opn (t :: ts) = match brk1 opn t with
    | .ok o => brk o ts
    | .error p => .error p := by
  unfold brk1
  by_cases h : 0 < bk t
  · rw [brk_pos h, if_pos h]
  · by_cases h2 : bk t < 0
    · rw [if_neg h, if_pos h2]
      cases opn with
      | nil => rw [brk_none h2]
      | cons o os =>
        by_cases h3 : bk o = - bk t
        · rw [brk_shut h2 h3]
          simp only [if_pos h3]
        · rw [brk_odd h2 h3]
          simp only [if_neg h3]
    · rw [if_neg h, if_neg h2, brk_zero (by omega)]
/-- All that are open open. -/
def Opens (opn : List T4) : Prop := ∀ o ∈ opn, 0 < bk o
theorem Opens.one {opn opn' : List T4} {t : T4} (h : Opens opn) (e : brk1 opn t = .ok opn') : Opens opn' := by
  unfold brk1 at e
  split at e
  · rename_i hp
    cases e
    intro o ho
    rcases List.mem_cons.1 ho with rfl | ho
    · exact hp
    · exact h o ho
  · split at e
    · cases opn with
      | nil => cases e
      | cons o os =>
        simp only at e
        split at e
        · cases e
          exact fun o ho => h o (List.mem_cons_of_mem _ ho)
        · cases e
    · cases e
      exact h
theorem brk1_len {opn opn' : List T4} {t : T4} (e : brk1 opn t = .ok opn') : opn'.length ≤ opn.length + 1 := by
  unfold brk1 at e
  split at e
  · cases e; simp
  · split at e
    · cases opn with
      | nil => cases e
      | cons o os =>
        simp only at e
        split at e
        · cases e; simp; omega
        · cases e
    · cases e; omega
theorem bk_kind {t : T4} (h : ¬ t.1 = 4) : bk t = 0 := by unfold bk; rw [if_neg h]
end Sp

theorem field_br0 (z : Int) (s : ByteArray) (w : World) : (Instr.field 75 (.agg #[.int .i64 z, .string s]) 0).run Tryz.prog w = .ok (.int .i64 z) w := by
  simp [Instr.field, run_underlying Tryz.underlying75, go_sem, part, Tryz.isAgg3, Tryz.isAgg9, asAgg]
theorem field_br1 (z : Int) (s : ByteArray) (w : World) : (Instr.field 75 (.agg #[.int .i64 z, .string s]) 1).run Tryz.prog w = .ok (.string s) w := by
  simp [Instr.field, run_underlying Tryz.underlying75, go_sem, part, Tryz.isAgg3, Tryz.isAgg9, asAgg]

/-- What a token leaves of the brackets. -/
def Brk1End (n B b : Nat) (v5 v7 : Value) (out : List T4) (bs : List Nat) (x : Except Int (List T4)) (w : World) (e : Ending) (w' : World) : Prop :=
  Kp n b B w w' ∧ Kt w w' ∧ match x with
    | .ok o => e = .returned (.tuple #[]) ∧ ∃ v6, Rd B b v5 v6 v7 out o bs w'
    | .error p => e = .panicked (wrongP (p, 21))

set_option maxHeartbeats 16000000 in
set_option maxRecDepth 100000 in
theorem bracket_any (n B b : Nat) (v5 v6 v7 : Value) (out opn : List T4) (bs : List Nat) (k at_ num : Int) (sb : ByteArray) (w : World) (h : Rd B b v5 v6 v7 out opn bs w) (hn : n ≤ B) (hnb : n ≤ b) (hB : B ≤ w.heap.size) (hl : opn.length ≤ 100000000) (ho : Sp.Opens opn) :
    Calls Tryz.prog 40 #[.pointer (some ⟨b, 0, none⟩), .agg #[.int .i64 k, .int .i64 at_, .string sb, .int .i64 num]] w fun e w' => Brk1End n B b v5 v7 out bs (Sp.brk1 opn (k, at_, sb.data.toList, num)) w e w' := by
  have hf0 := field_br0
  have hf1 := field_br1
  have hlt := h.lt
  have hK0 : ∀ W : World, W.heap = (w.alloc (.cells #[.int .i64 k, .int .i64 at_, .string sb, .int .i64 num] 37)).heap → W.os = w.os → W.tape = w.tape → W.output = w.output → Kp n b B w W :=
    fun W e eo et eu => ((Kp.refl (b := b) (B := B) n w).alloc (by omega) (.cells #[.int .i64 k, .int .i64 at_, .string sb, .int .i64 num] 37)).of_heap e eo et eu
  have hT0 : ∀ W : World, W.heap = (w.alloc (.cells #[.int .i64 k, .int .i64 at_, .string sb, .int .i64 num] 37)).heap → Kt w W :=
    fun W e => (Kt.of_below ((Below.refl w.heap.size w).alloc (Nat.le_refl _) (.cells #[.int .i64 k, .int .i64 at_, .string sb, .int .i64 num] 37))).of_heap e
  have hR0 : ∀ W : World, W.heap = (w.alloc (.cells #[.int .i64 k, .int .i64 at_, .string sb, .int .i64 num] 37)).heap → Rd B b v5 v6 v7 out opn bs W ∧ B ≤ W.heap.size :=
    fun W e => ⟨(h.below ((Below.refl w.heap.size w).alloc (Nat.le_refl _) (.cells #[.int .i64 k, .int .i64 at_, .string sb, .int .i64 num] 37))).of_heap e, by rw [e]; simp; omega⟩
  obtain ⟨u0, b1, u1, u2, u3, u4⟩ := h.cells
  have b0 : ∀ o, (w.alloc o).cell? ⟨b, 1, none⟩ = some v6 := fun o => by rw [World.cell?_alloc_lt _ _ _ hlt]; exact b1
  clear u0 u1 u2 u3 u4 b1
  have HK := Lib.hid hK0
  have HR := Lib.hid hR0
  have HT := Lib.hid hT0
  have HO := Lib.hid ho
  clear hK0 hR0 hT0 ho
  by_cases hk : k = 4
  · subst hk
    by_cases hop : sb.data.toList = [40] ∨ sb.data.toList = [91] ∨ sb.data.toList = [123]
    · have HN : Hid (Sp.brk1 opn (4, at_, sb.data.toList, num) = .ok ((4, at_, sb.data.toList, num) :: opn)) := by
        show _ = _
        unfold Sp.brk1
        rw [if_pos (by unfold Sp.bk; rcases hop with e | e | e <;> simp [e])]
      have HP := fun (c : ByteArray) hcl W (hW : Rd B b v5 v6 v7 out opn bs W) hBW => pushB_any n B b (4, at_, sb.data.toList, num) c hcl v5 v6 v7 out opn bs W hW hn hnb hBW (by omega)
      have HCL : Hid (Sp.closer (4, at_, sb.data.toList, num) = if sb.data.toList = [40] then [41] else if sb.data.toList = [91] then [93] else [125]) := by
        show _ = _
        unfold Sp.closer Sp.bk
        rcases hop with e | e | e <;> simp [e]
      rcases hop with e | e | e
      · obtain rfl : sb = ⟨#[40]⟩ := Sp.bytes_ext e
        have HQ := Lib.hid (HP ⟨#[41]⟩ (by rw [HCL.out]; simp))
        clear e h HP HCL
        go_enter Tryz.func40, Tryz.ntmps40
        go_wp2_with fail
        go_region_with (go_at_call 62; refine (HQ.out _ (HR.out _ (by rfl)).1 (HR.out _ (by rfl)).2).mono ?_; rintro e w2 ⟨rfl, v', hR2, hK2, hT2⟩; have HR2 := Lib.hid hR2; have HK2 := Lib.hid ((HK.out _ (by rfl) (by rfl) (by rfl) (by rfl)).trans hK2); have HT2 := Lib.hid ((HT.out _ (by rfl)).trans hT2); clear hR2 hK2 hT2)
        all_goals
          go_wp2_with fail
          go_end0
          refine ⟨HK2.out, HT2.out, ?_⟩
          rw [HN.out]
          exact ⟨rfl, _, HR2.out⟩
      · obtain rfl : sb = ⟨#[91]⟩ := Sp.bytes_ext e
        have HQ := Lib.hid (HP ⟨#[93]⟩ (by rw [HCL.out]; simp))
        clear e h HP HCL
        go_enter Tryz.func40, Tryz.ntmps40
        go_wp2_with fail
        go_region_with (go_at_call 62; refine (HQ.out _ (HR.out _ (by rfl)).1 (HR.out _ (by rfl)).2).mono ?_; rintro e w2 ⟨rfl, v', hR2, hK2, hT2⟩; have HR2 := Lib.hid hR2; have HK2 := Lib.hid ((HK.out _ (by rfl) (by rfl) (by rfl) (by rfl)).trans hK2); have HT2 := Lib.hid ((HT.out _ (by rfl)).trans hT2); clear hR2 hK2 hT2)
        all_goals
          go_wp2_with fail
          go_end0
          refine ⟨HK2.out, HT2.out, ?_⟩
          rw [HN.out]
          exact ⟨rfl, _, HR2.out⟩
      · obtain rfl : sb = ⟨#[123]⟩ := Sp.bytes_ext e
        have HQ := Lib.hid (HP ⟨#[125]⟩ (by rw [HCL.out]; simp))
        clear e h HP HCL
        go_enter Tryz.func40, Tryz.ntmps40
        go_wp2_with fail
        go_region_with (go_at_call 62; refine (HQ.out _ (HR.out _ (by rfl)).1 (HR.out _ (by rfl)).2).mono ?_; rintro e w2 ⟨rfl, v', hR2, hK2, hT2⟩; have HR2 := Lib.hid hR2; have HK2 := Lib.hid ((HK.out _ (by rfl) (by rfl) (by rfl) (by rfl)).trans hK2); have HT2 := Lib.hid ((HT.out _ (by rfl)).trans hT2); clear hR2 hK2 hT2)
        all_goals
          go_wp2_with fail
          go_end0
          refine ⟨HK2.out, HT2.out, ?_⟩
          rw [HN.out]
          exact ⟨rfl, _, HR2.out⟩
    · by_cases hcl : sb.data.toList = [41] ∨ sb.data.toList = [93] ∨ sb.data.toList = [125]
      rcases hcl with e | e | e
      · obtain rfl : sb = ⟨#[41]⟩ := Sp.bytes_ext e
        have hbk : Sp.bk (4, at_, ([41] : Sp.Bs), num) = -1 := by unfold Sp.bk; simp
        have HTOP := Lib.hid (fun W (hW : Rd B b v5 v6 v7 out opn bs W) => topB_any B v6 opn W hW.opn (by omega))
        by_cases hm : ∃ o os, opn = o :: os ∧ Sp.bk o = 1
        · obtain ⟨o, os, rfl, hbo⟩ := hm
          have HN : Hid (Sp.brk1 (o :: os) (4, at_, (⟨#[41]⟩ : ByteArray).data.toList, num) = .ok os) := by
            show Sp.brk1 (o :: os) (4, at_, [41], num) = _
            unfold Sp.brk1
            rw [hbk, if_neg (by omega), if_pos (by omega)]
            simp only
            rw [if_pos (by rw [hbo]; rfl)]
          have hcl : Sp.closer o = [41] := by unfold Sp.closer; rw [hbo]; rfl
          rw [show ((o :: os).head?.elim [] fun o => Sp.closer o) = [41] from hcl] at HTOP
          obtain ⟨z, HZ⟩ := hid_ex ((o :: os).head?.elim 0 fun o => o.2.1)
          rw [HZ.out] at HTOP
          have hol : os.length ≤ 1000000000 := by simp at hl; omega
          clear e h hbk hbo hcl hl
          go_enter Tryz.func40, Tryz.ntmps40
          go_wp2_with fail
          go_region_with (go_at_call 42; refine (HTOP.out _ (HR.out _ (by rfl)).1).mono ?_; rintro e w2 ⟨rfl, hb2⟩; have a1 := (hb2.cell (p := ⟨w.heap.size, 1, none⟩) (by simp)).trans (show _ = some (.int .i64 at_) by simp); have a2 := (hb2.cell (p := ⟨w.heap.size, 2, none⟩) (by simp)).trans (show _ = some (.string ⟨#[41]⟩) by simp); have HR2 := Lib.hid ((HR.out _ (by rfl)).1.below hb2); have HK2 := Lib.hid ((HK.out _ (by rfl) (by rfl) (by rfl) (by rfl)).trans (Kp.of_below hb2 (by simp; omega))); have HT2 := Lib.hid ((HT.out _ (by rfl)).trans (Kt.of_below hb2)); clear hb2)
          all_goals
            go_wp2_with fail
            refine (popB_any n B b o v5 v6 v7 out os bs w2 HR2.out hnb hol).mono ?_
            rintro e w3 ⟨rfl, v', hR3, hK3, hT3⟩
            have HR3 := Lib.hid hR3
            have HK3 := Lib.hid (HK2.out.trans hK3)
            have HT3 := Lib.hid (HT2.out.trans hT3)
            clear hR3 hK3 hT3
            go_wp2_with fail
            go_end0
            refine ⟨HK3.out, HT3.out, ?_⟩
            rw [HN.out]
            exact ⟨rfl, _, HR3.out⟩
        · have HN : Hid (Sp.brk1 opn (4, at_, (⟨#[41]⟩ : ByteArray).data.toList, num) = .error at_) := by
            show Sp.brk1 opn (4, at_, [41], num) = _
            unfold Sp.brk1
            rw [hbk, if_neg (by omega), if_pos (by omega)]
            cases opn with
            | nil => rfl
            | cons o os =>
              simp only
              rw [if_neg (fun e => hm ⟨o, os, rfl, by rw [e]; rfl⟩)]
          obtain ⟨cl, HCL⟩ := hid_ex (⟨(opn.head?.elim [] fun o => Sp.closer o).toArray⟩ : ByteArray)
          have hne : ¬ cl.toList = [41] := by
            rw [Sp.toList_data, ← HCL.out]
            cases opn with
            | nil => simp
            | cons o os =>
              have hp := HO.out o (List.mem_cons_self ..)
              have hi := Sp.bk_in o
              have hbo : ¬ Sp.bk o = 1 := fun e => hm ⟨o, os, rfl, e⟩
              show ¬ Sp.closer o = [41]
              have h3 : Sp.bk o = 1 ∨ Sp.bk o = 2 ∨ Sp.bk o = 3 := by omega
              unfold Sp.closer
              rcases h3 with h1 | h1 | h1 <;> rw [h1] <;> first | exact absurd h1 hbo | decide
          have hne2 : (cl.toList == [41]) = false := by simp [hne]
          clear hne
          obtain ⟨z, HZ⟩ := hid_ex (opn.head?.elim 0 fun o => o.2.1)
          rw [HZ.out] at HTOP
          have HTOP2 : Hid (∀ W, Rd B b v5 v6 v7 out opn bs W → Calls Tryz.prog 42 #[v6] W fun e w' => e = .returned (.agg #[.int .i64 z, .string cl]) ∧ Below W.heap.size W w') := by
            rw [← HCL.out]
            exact HTOP.out
          clear e h hbk hm HTOP
          go_enter Tryz.func40, Tryz.ntmps40
          go_wp2_with fail
          go_region_with (go_at_call 42; refine (HTOP2.out _ (HR.out _ (by rfl)).1).mono ?_; rintro e w2 ⟨rfl, hb2⟩; have a1 := (hb2.cell (p := ⟨w.heap.size, 1, none⟩) (by simp)).trans (show _ = some (.int .i64 at_) by simp); have a2 := (hb2.cell (p := ⟨w.heap.size, 2, none⟩) (by simp)).trans (show _ = some (.string ⟨#[41]⟩) by simp); have HK2 := Lib.hid ((HK.out _ (by rfl) (by rfl) (by rfl) (by rfl)).trans (Kp.of_below hb2 (by simp; omega))); have HT2 := Lib.hid ((HT.out _ (by rfl)).trans (Kt.of_below hb2)); clear hb2)
          all_goals
            go_wp2_with fail
            refine ⟨rfl, HK2.out, HT2.out, ?_⟩
            rw [HN.out]
            rfl
      · obtain rfl : sb = ⟨#[93]⟩ := Sp.bytes_ext e
        have hbk : Sp.bk (4, at_, ([93] : Sp.Bs), num) = -2 := by unfold Sp.bk; simp
        have HTOP := Lib.hid (fun W (hW : Rd B b v5 v6 v7 out opn bs W) => topB_any B v6 opn W hW.opn (by omega))
        by_cases hm : ∃ o os, opn = o :: os ∧ Sp.bk o = 2
        · obtain ⟨o, os, rfl, hbo⟩ := hm
          have HN : Hid (Sp.brk1 (o :: os) (4, at_, (⟨#[93]⟩ : ByteArray).data.toList, num) = .ok os) := by
            show Sp.brk1 (o :: os) (4, at_, [93], num) = _
            unfold Sp.brk1
            rw [hbk, if_neg (by omega), if_pos (by omega)]
            simp only
            rw [if_pos (by rw [hbo]; rfl)]
          have hcl : Sp.closer o = [93] := by unfold Sp.closer; rw [hbo]; rfl
          rw [show ((o :: os).head?.elim [] fun o => Sp.closer o) = [93] from hcl] at HTOP
          obtain ⟨z, HZ⟩ := hid_ex ((o :: os).head?.elim 0 fun o => o.2.1)
          rw [HZ.out] at HTOP
          have hol : os.length ≤ 1000000000 := by simp at hl; omega
          clear e h hbk hbo hcl hl
          go_enter Tryz.func40, Tryz.ntmps40
          go_wp2_with fail
          go_region_with (go_at_call 42; refine (HTOP.out _ (HR.out _ (by rfl)).1).mono ?_; rintro e w2 ⟨rfl, hb2⟩; have a1 := (hb2.cell (p := ⟨w.heap.size, 1, none⟩) (by simp)).trans (show _ = some (.int .i64 at_) by simp); have a2 := (hb2.cell (p := ⟨w.heap.size, 2, none⟩) (by simp)).trans (show _ = some (.string ⟨#[93]⟩) by simp); have HR2 := Lib.hid ((HR.out _ (by rfl)).1.below hb2); have HK2 := Lib.hid ((HK.out _ (by rfl) (by rfl) (by rfl) (by rfl)).trans (Kp.of_below hb2 (by simp; omega))); have HT2 := Lib.hid ((HT.out _ (by rfl)).trans (Kt.of_below hb2)); clear hb2)
          all_goals
            go_wp2_with fail
            refine (popB_any n B b o v5 v6 v7 out os bs w2 HR2.out hnb hol).mono ?_
            rintro e w3 ⟨rfl, v', hR3, hK3, hT3⟩
            have HR3 := Lib.hid hR3
            have HK3 := Lib.hid (HK2.out.trans hK3)
            have HT3 := Lib.hid (HT2.out.trans hT3)
            clear hR3 hK3 hT3
            go_wp2_with fail
            go_end0
            refine ⟨HK3.out, HT3.out, ?_⟩
            rw [HN.out]
            exact ⟨rfl, _, HR3.out⟩
        · have HN : Hid (Sp.brk1 opn (4, at_, (⟨#[93]⟩ : ByteArray).data.toList, num) = .error at_) := by
            show Sp.brk1 opn (4, at_, [93], num) = _
            unfold Sp.brk1
            rw [hbk, if_neg (by omega), if_pos (by omega)]
            cases opn with
            | nil => rfl
            | cons o os =>
              simp only
              rw [if_neg (fun e => hm ⟨o, os, rfl, by rw [e]; rfl⟩)]
          obtain ⟨cl, HCL⟩ := hid_ex (⟨(opn.head?.elim [] fun o => Sp.closer o).toArray⟩ : ByteArray)
          have hne : ¬ cl.toList = [93] := by
            rw [Sp.toList_data, ← HCL.out]
            cases opn with
            | nil => simp
            | cons o os =>
              have hp := HO.out o (List.mem_cons_self ..)
              have hi := Sp.bk_in o
              have hbo : ¬ Sp.bk o = 2 := fun e => hm ⟨o, os, rfl, e⟩
              show ¬ Sp.closer o = [93]
              have h3 : Sp.bk o = 1 ∨ Sp.bk o = 2 ∨ Sp.bk o = 3 := by omega
              unfold Sp.closer
              rcases h3 with h1 | h1 | h1 <;> rw [h1] <;> first | exact absurd h1 hbo | decide
          have hne2 : (cl.toList == [93]) = false := by simp [hne]
          clear hne
          obtain ⟨z, HZ⟩ := hid_ex (opn.head?.elim 0 fun o => o.2.1)
          rw [HZ.out] at HTOP
          have HTOP2 : Hid (∀ W, Rd B b v5 v6 v7 out opn bs W → Calls Tryz.prog 42 #[v6] W fun e w' => e = .returned (.agg #[.int .i64 z, .string cl]) ∧ Below W.heap.size W w') := by
            rw [← HCL.out]
            exact HTOP.out
          clear e h hbk hm HTOP
          go_enter Tryz.func40, Tryz.ntmps40
          go_wp2_with fail
          go_region_with (go_at_call 42; refine (HTOP2.out _ (HR.out _ (by rfl)).1).mono ?_; rintro e w2 ⟨rfl, hb2⟩; have a1 := (hb2.cell (p := ⟨w.heap.size, 1, none⟩) (by simp)).trans (show _ = some (.int .i64 at_) by simp); have a2 := (hb2.cell (p := ⟨w.heap.size, 2, none⟩) (by simp)).trans (show _ = some (.string ⟨#[93]⟩) by simp); have HK2 := Lib.hid ((HK.out _ (by rfl) (by rfl) (by rfl) (by rfl)).trans (Kp.of_below hb2 (by simp; omega))); have HT2 := Lib.hid ((HT.out _ (by rfl)).trans (Kt.of_below hb2)); clear hb2)
          all_goals
            go_wp2_with fail
            refine ⟨rfl, HK2.out, HT2.out, ?_⟩
            rw [HN.out]
            rfl
      · obtain rfl : sb = ⟨#[125]⟩ := Sp.bytes_ext e
        have hbk : Sp.bk (4, at_, ([125] : Sp.Bs), num) = -3 := by unfold Sp.bk; simp
        have HTOP := Lib.hid (fun W (hW : Rd B b v5 v6 v7 out opn bs W) => topB_any B v6 opn W hW.opn (by omega))
        by_cases hm : ∃ o os, opn = o :: os ∧ Sp.bk o = 3
        · obtain ⟨o, os, rfl, hbo⟩ := hm
          have HN : Hid (Sp.brk1 (o :: os) (4, at_, (⟨#[125]⟩ : ByteArray).data.toList, num) = .ok os) := by
            show Sp.brk1 (o :: os) (4, at_, [125], num) = _
            unfold Sp.brk1
            rw [hbk, if_neg (by omega), if_pos (by omega)]
            simp only
            rw [if_pos (by rw [hbo]; rfl)]
          have hcl : Sp.closer o = [125] := by unfold Sp.closer; rw [hbo]; rfl
          rw [show ((o :: os).head?.elim [] fun o => Sp.closer o) = [125] from hcl] at HTOP
          obtain ⟨z, HZ⟩ := hid_ex ((o :: os).head?.elim 0 fun o => o.2.1)
          rw [HZ.out] at HTOP
          have hol : os.length ≤ 1000000000 := by simp at hl; omega
          clear e h hbk hbo hcl hl
          go_enter Tryz.func40, Tryz.ntmps40
          go_wp2_with fail
          go_region_with (go_at_call 42; refine (HTOP.out _ (HR.out _ (by rfl)).1).mono ?_; rintro e w2 ⟨rfl, hb2⟩; have a1 := (hb2.cell (p := ⟨w.heap.size, 1, none⟩) (by simp)).trans (show _ = some (.int .i64 at_) by simp); have a2 := (hb2.cell (p := ⟨w.heap.size, 2, none⟩) (by simp)).trans (show _ = some (.string ⟨#[125]⟩) by simp); have HR2 := Lib.hid ((HR.out _ (by rfl)).1.below hb2); have HK2 := Lib.hid ((HK.out _ (by rfl) (by rfl) (by rfl) (by rfl)).trans (Kp.of_below hb2 (by simp; omega))); have HT2 := Lib.hid ((HT.out _ (by rfl)).trans (Kt.of_below hb2)); clear hb2)
          all_goals
            go_wp2_with fail
            refine (popB_any n B b o v5 v6 v7 out os bs w2 HR2.out hnb hol).mono ?_
            rintro e w3 ⟨rfl, v', hR3, hK3, hT3⟩
            have HR3 := Lib.hid hR3
            have HK3 := Lib.hid (HK2.out.trans hK3)
            have HT3 := Lib.hid (HT2.out.trans hT3)
            clear hR3 hK3 hT3
            go_wp2_with fail
            go_end0
            refine ⟨HK3.out, HT3.out, ?_⟩
            rw [HN.out]
            exact ⟨rfl, _, HR3.out⟩
        · have HN : Hid (Sp.brk1 opn (4, at_, (⟨#[125]⟩ : ByteArray).data.toList, num) = .error at_) := by
            show Sp.brk1 opn (4, at_, [125], num) = _
            unfold Sp.brk1
            rw [hbk, if_neg (by omega), if_pos (by omega)]
            cases opn with
            | nil => rfl
            | cons o os =>
              simp only
              rw [if_neg (fun e => hm ⟨o, os, rfl, by rw [e]; rfl⟩)]
          obtain ⟨cl, HCL⟩ := hid_ex (⟨(opn.head?.elim [] fun o => Sp.closer o).toArray⟩ : ByteArray)
          have hne : ¬ cl.toList = [125] := by
            rw [Sp.toList_data, ← HCL.out]
            cases opn with
            | nil => simp
            | cons o os =>
              have hp := HO.out o (List.mem_cons_self ..)
              have hi := Sp.bk_in o
              have hbo : ¬ Sp.bk o = 3 := fun e => hm ⟨o, os, rfl, e⟩
              show ¬ Sp.closer o = [125]
              have h3 : Sp.bk o = 1 ∨ Sp.bk o = 2 ∨ Sp.bk o = 3 := by omega
              unfold Sp.closer
              rcases h3 with h1 | h1 | h1 <;> rw [h1] <;> first | exact absurd h1 hbo | decide
          have hne2 : (cl.toList == [125]) = false := by simp [hne]
          clear hne
          obtain ⟨z, HZ⟩ := hid_ex (opn.head?.elim 0 fun o => o.2.1)
          rw [HZ.out] at HTOP
          have HTOP2 : Hid (∀ W, Rd B b v5 v6 v7 out opn bs W → Calls Tryz.prog 42 #[v6] W fun e w' => e = .returned (.agg #[.int .i64 z, .string cl]) ∧ Below W.heap.size W w') := by
            rw [← HCL.out]
            exact HTOP.out
          clear e h hbk hm HTOP
          go_enter Tryz.func40, Tryz.ntmps40
          go_wp2_with fail
          go_region_with (go_at_call 42; refine (HTOP2.out _ (HR.out _ (by rfl)).1).mono ?_; rintro e w2 ⟨rfl, hb2⟩; have a1 := (hb2.cell (p := ⟨w.heap.size, 1, none⟩) (by simp)).trans (show _ = some (.int .i64 at_) by simp); have a2 := (hb2.cell (p := ⟨w.heap.size, 2, none⟩) (by simp)).trans (show _ = some (.string ⟨#[125]⟩) by simp); have HK2 := Lib.hid ((HK.out _ (by rfl) (by rfl) (by rfl) (by rfl)).trans (Kp.of_below hb2 (by simp; omega))); have HT2 := Lib.hid ((HT.out _ (by rfl)).trans (Kt.of_below hb2)); clear hb2)
          all_goals
            go_wp2_with fail
            refine ⟨rfl, HK2.out, HT2.out, ?_⟩
            rw [HN.out]
            rfl
      · have HN : Hid (Sp.brk1 opn (4, at_, sb.data.toList, num) = .ok opn) := by
          show _ = _
          have hbk : Sp.bk (4, at_, sb.data.toList, num) = 0 := by
            unfold Sp.bk
            simp only [if_true]
            rw [if_neg (fun e => hop (Or.inl e)), if_neg (fun e => hcl (Or.inl e)), if_neg (fun e => hop (Or.inr (Or.inl e))), if_neg (fun e => hcl (Or.inr (Or.inl e))), if_neg (fun e => hop (Or.inr (Or.inr e))), if_neg (fun e => hcl (Or.inr (Or.inr e)))]
          unfold Sp.brk1
          rw [hbk, if_neg (by omega), if_neg (by omega)]
        have n1 : (sb.toList == [40]) = false := by rw [Sp.toList_data]; simp; exact fun e => hop (Or.inl e)
        have n2 : (sb.toList == [91]) = false := by rw [Sp.toList_data]; simp; exact fun e => hop (Or.inr (Or.inl e))
        have n3 : (sb.toList == [123]) = false := by rw [Sp.toList_data]; simp; exact fun e => hop (Or.inr (Or.inr e))
        have n4 : (sb.toList == [41]) = false := by rw [Sp.toList_data]; simp; exact fun e => hcl (Or.inl e)
        have n5 : (sb.toList == [93]) = false := by rw [Sp.toList_data]; simp; exact fun e => hcl (Or.inr (Or.inl e))
        have n6 : (sb.toList == [125]) = false := by rw [Sp.toList_data]; simp; exact fun e => hcl (Or.inr (Or.inr e))
        clear hop hcl h
        go_enter Tryz.func40, Tryz.ntmps40
        go_wp2_with fail
        go_end0
        refine ⟨HK.out _ (by rfl) (by rfl) (by rfl) (by rfl), HT.out _ (by rfl), ?_⟩
        rw [HN.out]
        exact ⟨rfl, _, (HR.out _ (by rfl)).1⟩
  · have HN : Hid (Sp.brk1 opn (k, at_, sb.data.toList, num) = .ok opn) := by
      show _ = _
      unfold Sp.brk1
      rw [Sp.bk_kind hk, if_neg (by omega), if_neg (by omega)]
    clear h
    go_enter Tryz.func40, Tryz.ntmps40
    go_wp2_with fail
    refine bodyPost_ret (results_none rfl _ _ _) rfl ?_
    refine ⟨HK.out _ (by rfl) (by rfl) (by rfl) (by rfl), HT.out _ (by rfl), ?_⟩
    rw [HN.out]
    exact ⟨rfl, _, (HR.out _ (by rfl)).1⟩
end Go.Proofs.YtbdjccmcdifjcaaGreatDoor
