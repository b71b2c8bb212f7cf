/-
  Tokens written behind each other, with blanks between, are read as they were: the walk of the statement ScanBack.
-/
import Derived.Test.YtfomjdaihoaipaaDoorFitA
set_option linter.unusedVariables false
set_option linter.unusedSimpArgs false
namespace Go.Proofs.YtfomjdaihoaipaaDoor
open Go.RowKit Go.Shelf

/-- A row of bytes that came in. -/
def ArgB (v : Value) (l : Sp.Bs) (w : World) : Prop := ∃ pa cap, v = .slice pa l.length cap ∧ ∀ k c, l[k]? = some c → ∃ g o, pa = some ⟨g, o, none⟩ ∧ g < w.heap.size ∧ w.cell? ⟨g, o + k, none⟩ = some (.int .u8 (c.toNat : Int))
theorem ArgB.below {v : Value} {l : Sp.Bs} {w w' : World} (h : ArgB v l w) (hb : Below w.heap.size w w') : ArgB v l w' := by
  obtain ⟨pa, cap, e, hc⟩ := h
  refine ⟨pa, cap, e, fun k c hk => ?_⟩
  obtain ⟨g, o, e2, hg, a0⟩ := hc k c hk
  exact ⟨g, o, e2, Nat.lt_of_lt_of_le hg hb.size, (hb.cell (p := ⟨g, _, none⟩) hg).trans a0⟩
theorem c4_set (l : List T4) (k : Nat) (x : T4) (h : l[k]? = some x) (z : Int) : (l.flatMap c4).set (k * 4 + 1) (.int .i64 z) = (l.set k (x.1, z, x.2.2.1, x.2.2.2)).flatMap c4 := by
  induction l generalizing k with
  | nil => simp at h
  | cons y l ih =>
    cases k with
    | zero =>
      simp at h
      subst h
      simp [c4]
    | succ k =>
      rw [List.getElem?_cons_succ] at h
      have e : (k + 1) * 4 + 1 = (k * 4 + 1) + 1 + 1 + 1 + 1 := by omega
      rw [List.flatMap_cons, List.set_cons_succ, List.flatMap_cons, ← ih k h, e]
      simp [c4]
theorem Row4.stored {B g cap n : Nat} {l : List T4} {w : World} (h : Row4 B (.slice (some ⟨g, 0, none⟩) n cap) l w) (hn : n = l.length) (k : Nat) (x : T4) (hx : l[k]? = some x) (z : Int) :
    Row4 B (.slice (some ⟨g, 0, none⟩) n cap) (l.set k (x.1, z, x.2.2.1, x.2.2.2)) (w.setCell ⟨g, k * 4 + 1, none⟩ (.int .i64 z)) := by
  subst hn
  unfold Row4 at h ⊢
  rw [List.length_set, ← c4_set l k x hx z]
  exact (World.ownsRow.stored h (k * 4 + 1) (.int .i64 z)).1

/-- How many blanks more than one stand ahead of a token. -/
def nb (bl : Sp.Bs) (k : Nat) : Nat := match bl[k]? with
  | some c => c.toNat % 4
  | none => 0
theorem nb_lt (bl : Sp.Bs) (k : Nat) : nb bl k < 4 := by
  unfold nb
  split <;> omega
def spaced (bl : Sp.Bs) (F : List T4) : List (Nat × T4) := F.mapIdx fun i x => (nb bl i, x)
theorem spaced_at (bl : Sp.Bs) (F : List T4) (k : Nat) (x : T4) (h : F[k]? = some x) : (spaced bl F)[k]? = some (nb bl k, x) := by
  unfold spaced
  rw [List.getElem?_mapIdx, h]
  rfl
theorem spaced_len (bl : Sp.Bs) (F : List T4) : (spaced bl F).length = F.length := by unfold spaced; rw [List.length_mapIdx]
theorem spaced_good {bl : Sp.Bs} {F : List T4} (h : ∀ x ∈ F, Sp.good x) : ∀ x ∈ spaced bl F, Sp.good x.2 := by
  intro x hx
  obtain ⟨i, hi⟩ := List.mem_iff_getElem?.1 hx
  unfold spaced at hi
  rw [List.getElem?_mapIdx, Option.map_eq_some_iff] at hi
  obtain ⟨y, hy, rfl⟩ := hi
  exact h y (List.mem_of_getElem? hy)
/-- The row when k places have been laid. -/
def rowAt (at_ : Int) (ps : List (Nat × T4)) (F : List T4) (k : Nat) : List T4 := (Sp.toksB 0 (ps.take k)).map (abs4 at_) ++ F.drop k
theorem rowAt_step (at_ : Int) (bl : Sp.Bs) (F : List T4) (k : Nat) (x : T4) (h : F[k]? = some x) :
    (rowAt at_ (spaced bl F) F k)[k]? = some x ∧ (rowAt at_ (spaced bl F) F k).length = F.length ∧
    (rowAt at_ (spaced bl F) F k).set k (x.1, wrap64 (at_ + (((Sp.lineB ((spaced bl F).take k)).length + nb bl k + 1 : Nat) : Int)), x.2.2.1, x.2.2.2) = rowAt at_ (spaced bl F) F (k + 1) := by
  have hk : k < F.length := (List.getElem?_eq_some_iff.1 h).1
  have hl : ((Sp.toksB 0 ((spaced bl F).take k)).map (abs4 at_)).length = k := by
    rw [List.length_map, Sp.toksB_len, List.length_take, spaced_len]
    omega
  have hd : F.drop k = x :: F.drop (k + 1) := by
    have e := List.drop_eq_getElem_cons hk
    rw [e]
    congr 1
    rw [List.getElem?_eq_getElem hk] at h
    exact Option.some.inj h
  have ht : (spaced bl F).take (k + 1) = (spaced bl F).take k ++ [(nb bl k, x)] := by
    rw [List.take_add_one, spaced_at bl F k x h]
    rfl
  unfold rowAt
  refine ⟨?_, ?_, ?_⟩
  · rw [List.getElem?_append_right (by omega), hl, hd]
    simp
  · rw [List.length_append, hl, List.length_drop]
    omega
  · rw [List.set_append_right _ _ (by omega), hl, hd, Nat.sub_self, List.set_cons_zero, ht, Sp.toksB_snoc, List.map_append, List.append_assoc]
    congr 1
    show _ = abs4 at_ _ :: F.drop (k + 1)
    congr 1
    simp only [abs4]
    rw [Nat.zero_add]

theorem four_pad (b : Nat) (h : b < 4) (w : World) : (Instr.slice 9 (.string ⟨#[32, 32, 32, 32]⟩) none (some (.int .i64 (1 + (b : Int)))) none).run Tryd.prog w = .ok (.string ⟨(List.replicate (b + 1) 32).toArray⟩) w := by
  have e : ∀ j : Fin 4, (⟨#[32, 32, 32, 32]⟩ : ByteArray).extract 0 (j.val + 1) = ⟨(List.replicate (j.val + 1) 32).toArray⟩ := by decide +kernel
  have e2 : (1 + (b : Int)).toNat = b + 1 := by omega
  have h1 : 0 ≤ 1 + (b : Int) ∧ 1 + (b : Int) ≤ 4 := by omega
  have h3 := e ⟨b, h⟩
  simp only at h3
  have sz : (((⟨#[32, 32, 32, 32]⟩ : ByteArray).size : Nat) : Int) = 4 := rfl
  rw [run_slice_string_to_if (h := Tryd.underlying9), sz, if_pos h1, e2, h3]
theorem one_pad (w : World) : (Instr.slice 9 (.string ⟨#[32, 32, 32, 32]⟩) none (some (.int .i64 1)) none).run Tryd.prog w = .ok (.string ⟨(List.replicate (0 + 1) 32).toArray⟩) w := four_pad 0 (by decide) w

theorem row_self (l : List T4) : Hid (decide (l = l) = true) := by show _ = _; simp

namespace lawBack
set_option maxHeartbeats 16000000 in
set_option maxRecDepth 100000 in
theorem walk (va vb : Value) (l : List T4) (bl : Sp.Bs) (at_ : Int) (w : World) (ha : Arg4 va l w) (hl : l.length ≤ maxLen) (hts : ∀ x ∈ l, x.2.2.1.length ≤ maxLen) (hb : ArgB vb bl w) (hbl : bl.length ≤ maxLen) (hE : Env w) : Calls Tryd.prog 4 #[va, vb, .int .i64 at_] w fun e w' => e = .returned (.bool true) ∧ Below w.heap.size w w' := by
  obtain ⟨F, HFIT⟩ := hid_ex (Sp.fitL l)
  have hfg := Sp.fitL_good l
  rw [HFIT.out] at hfg
  obtain ⟨hF20, hFg⟩ := hfg
  have HFG := Lib.hid hFg
  obtain ⟨ps, HPS⟩ := hid_ex (spaced bl F)
  have hpsl : ps.length = F.length := by rw [← HPS.out]; exact spaced_len bl F
  unfold maxLen at hbl
  clear hFg
  go_enter Tryd.func4, Tryd.ntmps4
  go_wp2_with fail
  refine (shown_any w hE).mono ?_
  rintro e w1 ⟨rfl, hb1⟩
  have ha1 := ha.below hb1
  have hbb1 := hb.below hb1
  go_wp2_with fail
  refine (fit_any va l w1 ha1 hl hts).mono ?_
  rintro e w2 ⟨vF, rfl, hrF, hb2'⟩
  rw [HFIT.out] at hrF
  obtain ⟨pF, cF, rfl, _⟩ := hrF.form
  obtain ⟨pb, cb, rfl, fb⟩ := hbb1
  have FB := Lib.hid fb
  clear ha1 ha hb hts fb
  go_wp2_with fail
  go_loopw [9, 10] (fun v9 v10 wr => ∃ (k : Nat) (out : ByteArray), v9 = .string out ∧ v10 = .int .i64 k ∧ k ≤ F.length ∧ out.size ≤ 90 * k ∧ Hid (out.data.toList = Sp.lineB (ps.take k)) ∧ Row4 w1.heap.size (.slice pF F.length cF) (rowAt at_ ps F k) wr ∧ Below w1.heap.size w1 wr) (fun _ v10 _ => F.length - (intOf v10).toNat)
  case atStart => exact ⟨0, ⟨#[]⟩, rfl, rfl, Nat.zero_le _, by decide, rfl, by unfold rowAt; exact hrF, hb2'⟩
  case round =>
    clear hrF hb2'
    obtain ⟨k, out, rfl, rfl, hk, hos, HO, hrow, hbel⟩ := hrel
    by_cases hlt : k < F.length
    · obtain ⟨x, hx⟩ : ∃ x, F[k]? = some x := ⟨_, List.getElem?_eq_getElem hlt⟩
      have hxg := (HFG.out x (List.mem_of_getElem? hx)).1
      have hstep := rowAt_step at_ bl F k x hx
      rw [HPS.out] at hstep
      obtain ⟨hst1, hst2, hst3⟩ := hstep
      have hpk : ps[k]? = some (nb bl k, x) := by rw [← HPS.out]; exact spaced_at bl F k x hx
      obtain ⟨pF', cF', hvF, fF⟩ := hrow.form
      simp only [Value.slice.injEq] at hvF
      obtain ⟨rfl, hvl, rfl⟩ := hvF
      clear hvl
      obtain ⟨g, rfl, hg, hBg, a0, a1, a2, a3⟩ := fF k x hst1
      have hz : ∀ j, wr.frozen? ⟨g, j, none⟩ = false := by
        intro j
        have hr : wr.ownsRow w1.heap.size 36 4 (.slice (some ⟨g, 0, none⟩) (rowAt at_ ps F k).length cF) (rowAt at_ ps F k).length ((rowAt at_ ps F k).flatMap c4) := by rw [hst2]; have := hrow; unfold Row4 at this; rw [hst2] at this; exact this
        exact hr.frozenAt j
      have hz1 := hz (k * 4 + 1)
      obtain ⟨b, HB⟩ := hid_ex (nb bl k)
      have hb4 : b < 4 := by rw [← HB.out]; exact nb_lt bl k
      obtain ⟨bb, HBB⟩ := hid_ex (⟨(List.replicate (b + 1) 32).toArray⟩ : ByteArray)
      have hbbl : bb.data.toList = List.replicate (b + 1) 32 := by rw [← HBB.out]
      have hbbs : bb.size = b + 1 := by rw [← size_list, hbbl, List.length_replicate]
      have hfp := four_pad b hb4
      rw [HBB.out] at hfp
      have hxl := (Sp.textB_len hxg).2
      obtain ⟨sb, hsb⟩ : ∃ sb : ByteArray, sb = ⟨x.2.2.1.toArray⟩ := ⟨_, rfl⟩
      rw [← hsb] at a2
      have hsl : sb.data.toList = x.2.2.1 := by rw [hsb]
      have q0 : ∀ v, (wr.setCell ⟨g, k * 4 + 1, none⟩ v).cell? ⟨g, k * 4, none⟩ = some (.int .i64 x.1) := fun v => (World.cell?_setCell_other wr ⟨g, k * 4 + 1, none⟩ ⟨g, k * 4, none⟩ v (by simp)).trans a0
      have q2 : ∀ v, (wr.setCell ⟨g, k * 4 + 1, none⟩ v).cell? ⟨g, k * 4 + 2, none⟩ = some (.string sb) := fun v => (World.cell?_setCell_other wr ⟨g, k * 4 + 1, none⟩ ⟨g, k * 4 + 2, none⟩ v (by simp)).trans a2
      have q3 : ∀ v, (wr.setCell ⟨g, k * 4 + 1, none⟩ v).cell? ⟨g, k * 4 + 3, none⟩ = some (.int .i64 x.2.2.2) := fun v => (World.cell?_setCell_other wr ⟨g, k * 4 + 1, none⟩ ⟨g, k * 4 + 3, none⟩ v (by simp)).trans a3
      have HPK : Hid (ps.take (k + 1) = ps.take k ++ [(b, x)]) := by
        show _ = _
        rw [List.take_add_one, hpk, HB.out]
        rfl
      have HROW := Lib.hid (Row4.stored hrow hst2.symm k x hst1)
      have HRK : Hid (∀ z : Int, z = wrap64 (at_ + ((out.size : Int) + ((b : Int) + 1))) → ∀ w', Below (wr.setCell ⟨g, k * 4 + 1, none⟩ (.int .i64 z)).heap.size (wr.setCell ⟨g, k * 4 + 1, none⟩ (.int .i64 z)) w' → Row4 w1.heap.size (.slice (some ⟨g, 0, none⟩) F.length cF) (rowAt at_ ps F (k + 1)) w') := by
        intro z hz w' hb
        have h1 := (HROW.out z).below hb
        have h2 : z = wrap64 (at_ + (((Sp.lineB (ps.take k)).length + nb bl k + 1 : Nat) : Int)) := by
          rw [hz, ← HO.out, size_list, HB.out]
          congr 2
        rw [h2, hst3] at h1
        exact h1
      have HFIN : Hid (∀ tb : ByteArray, tb.data.toList = Sp.textB x → (out ++ bb ++ tb).data.toList = Sp.lineB (ps.take (k + 1)) ∧ (out ++ bb ++ tb).size ≤ 90 * (k + 1)) := by
        intro tb htb
        refine ⟨?_, ?_⟩
        · rw [HPK.out, Sp.lineB_snoc, ← HO.out, ← htb, ← hbbl]
          simp
        · have h1 : tb.size ≤ 82 := by rw [← size_list, htb]; exact hxl
          simp only [ByteArray.size_append]
          omega
      have hss : sb.size ≤ 1000 := by
        rw [← size_list, hsl]
        rcases hxg with ⟨_, _, _, h⟩ | ⟨_, h, _⟩ | ⟨_, h, _⟩ | ⟨_, h, _⟩
        · omega
        · rw [h]; simp
        · omega
        · have := List.all_eq_true.1 Sp.ref_sizes _ h
          simp only [Bool.and_eq_true, decide_eq_true_eq] at this
          omega
      have hkind : (x.1 = 2 ∧ ∃ tb : ByteArray, tb.data.toList = Sp.textB x ∧ tb.size ≤ 82 ∧ ∀ w, Calls Tryd.prog 29 #[.int .i64 x.2.2.2] w fun e w' => e = .returned (.string tb) ∧ Below w.heap.size w w') ∨
          (x.1 = 3 ∧ ∃ tb : ByteArray, tb.data.toList = Sp.textB x ∧ tb.size ≤ 82 ∧ ∀ w, Calls Tryd.prog 26 #[.string sb] w fun e w' => e = .returned (.string tb) ∧ Below w.heap.size w w') ∨
          (x.1 ≠ 2 ∧ x.1 ≠ 3 ∧ sb.data.toList = Sp.textB x) := by
        by_cases k2 : x.1 = 2
        · left
          have hn : 0 ≤ x.2.2.2 ∧ x.2.2.2 < 9223372036854775808 := by
            rcases hxg with ⟨h, _⟩ | ⟨_, _, h⟩ | ⟨h, _⟩ | ⟨h, _⟩
            · omega
            · exact h
            · omega
            · omega
          obtain ⟨n, hn1⟩ : ∃ n : Nat, x.2.2.2 = (n : Int) := ⟨x.2.2.2.toNat, by omega⟩
          have ht : Sp.textB x = Sp.dec n := by unfold Sp.textB; rw [if_pos k2, hn1, Int.toNat_natCast]
          refine ⟨k2, ⟨(Sp.dec n).toArray⟩, ?_, ?_, ?_⟩
          · rw [mk_list, ht]
          · rw [mk_size, ← ht]; exact hxl
          · intro w
            rw [hn1]
            exact decimal_any n (by omega) w
        · right
          by_cases k3 : x.1 = 3
          · left
            have ht : Sp.textB x = Sp.quote sb.data.toList := by unfold Sp.textB; rw [if_neg k2, if_pos k3, hsl]
            refine ⟨k3, ⟨(Sp.quote sb.data.toList).toArray⟩, ?_, ?_, ?_⟩
            · rw [mk_list, ht]
            · rw [mk_size, ← ht]; exact hxl
            · intro w
              exact quote_any sb w (by omega)
          · right
            refine ⟨k2, k3, ?_⟩
            unfold Sp.textB
            rw [if_neg k2, if_neg k3, hsl]
      have hout : out.size ≤ 1800 := by
        have : k ≤ 20 := by omega
        omega
      have hbelS := fun v => hbel.setCell (p := ⟨g, k * 4 + 1, none⟩) hBg v
      have HBELS := Lib.hid hbelS
      clear hpk hst3 hsl hxl hxg hbbl hrow hst2 hst1 HROW HPK HO hsb hbelS fF hx HFG HFIT HPS hz
      by_cases hkb : k < bl.length
      · obtain ⟨c, hc⟩ : ∃ c, bl[k]? = some c := ⟨_, List.getElem?_eq_getElem hkb⟩
        have hc0 := c.toNat_lt
        have hbc : b = c.toNat % 4 := by rw [← HB.out]; unfold nb; rw [hc]
        have hmc : ((c.toNat : Int)).tmod 4 = (b : Int) := by rw [hbc, Int.tmod_eq_emod_of_nonneg (by omega)]; omega
        have hec : ((c.toNat : Int)) % 4 = (b : Int) := by rw [hbc]; omega
        obtain ⟨gb, o, rfl, hgb, d0⟩ := FB.out k c hc
        have hd0 := (hbel.cell (p := ⟨gb, o + k, none⟩) hgb).trans d0
        have hw1 : IntKind.i64.wrap (b : Int) = (b : Int) := IntWalk.i64_in _ (by omega)
        have hw2 : IntKind.u8.wrap (b : Int) = (b : Int) := IntWalk.u8_in _ (by omega)
        have hw3 : IntKind.i64.wrap (1 + (b : Int)) = 1 + (b : Int) := IntWalk.i64_in _ (by omega)
        clear d0 hbc hc HBB HB FB
        rcases hkind with ⟨k2, tb, htb, htbs, hcall⟩ | ⟨k3, tb, htb, htbs, hcall⟩ | ⟨k2, k3, htb⟩
        · have g2 : (x.1 == 2) = true := by simp; exact k2
          have HCALL := Lib.hid hcall
          obtain ⟨HN, hsz⟩ := HFIN.out tb htb
          have HN' := Lib.hid HN
          clear hcall htb HN HFIN k2
          go_wp2_with fail
          refine (HCALL.out _).mono ?_
          rintro e w3 ⟨rfl, hb3⟩
          have hrow3 := HRK.out _ rfl w3 hb3
          have hbel3 := (HBELS.out _).trans (hb3.mono (by simp; exact hbel.size))
          clear hb3 HRK HBELS HCALL
          go_wp2_with fail
          go_roundw
          case rel => exact ⟨k + 1, _, rfl, by go_num, by omega, hsz, HN', hrow3, hbel3⟩
          case measure => simp [intOf]; omega
        · have g2 : (x.1 == 2) = false := by simp; omega
          have g3 : (x.1 == 3) = true := by simp; exact k3
          have HCALL := Lib.hid hcall
          obtain ⟨HN, hsz⟩ := HFIN.out tb htb
          have HN' := Lib.hid HN
          clear hcall htb HN HFIN k3
          go_wp2_with fail
          refine (HCALL.out _).mono ?_
          rintro e w3 ⟨rfl, hb3⟩
          have hrow3 := HRK.out _ rfl w3 hb3
          have hbel3 := (HBELS.out _).trans (hb3.mono (by simp; exact hbel.size))
          clear hb3 HRK HBELS HCALL
          go_wp2_with fail
          go_roundw
          case rel => exact ⟨k + 1, _, rfl, by go_num, by omega, hsz, HN', hrow3, hbel3⟩
          case measure => simp [intOf]; omega
        · have g2 : (x.1 == 2) = false := by simp; exact k2
          have g3 : (x.1 == 3) = false := by simp; exact k3
          obtain ⟨HN, hsz⟩ := HFIN.out sb htb
          have HN' := Lib.hid HN
          clear htb HN HFIN k2 k3
          go_wp2_with fail
          go_roundw
          case rel => exact ⟨k + 1, _, rfl, by go_num, by omega, hsz, HN', HRK.out _ rfl _ (Below.refl _ _), HBELS.out _⟩
          case measure => simp [intOf]; omega
      · have hb0 : b = 0 := by rw [← HB.out]; unfold nb; rw [List.getElem?_eq_none (by omega)]
        subst hb0
        have hfp1 := fun w => one_pad w
        rw [HBB.out] at hfp1
        clear HBB HB FB hfp
        rcases hkind with ⟨k2, tb, htb, htbs, hcall⟩ | ⟨k3, tb, htb, htbs, hcall⟩ | ⟨k2, k3, htb⟩
        · have g2 : (x.1 == 2) = true := by simp; exact k2
          have HCALL := Lib.hid hcall
          obtain ⟨HN, hsz⟩ := HFIN.out tb htb
          have HN' := Lib.hid HN
          clear hcall htb HN HFIN k2
          go_wp2_with fail
          refine (HCALL.out _).mono ?_
          rintro e w3 ⟨rfl, hb3⟩
          have hrow3 := HRK.out _ (by simp) w3 hb3
          have hbel3 := (HBELS.out _).trans (hb3.mono (by simp; exact hbel.size))
          clear hb3 HRK HBELS HCALL
          go_wp2_with fail
          go_roundw
          case rel => exact ⟨k + 1, _, rfl, by go_num, by omega, hsz, HN', hrow3, hbel3⟩
          case measure => simp [intOf]; omega
        · have g2 : (x.1 == 2) = false := by simp; omega
          have g3 : (x.1 == 3) = true := by simp; exact k3
          have HCALL := Lib.hid hcall
          obtain ⟨HN, hsz⟩ := HFIN.out tb htb
          have HN' := Lib.hid HN
          clear hcall htb HN HFIN k3
          go_wp2_with fail
          refine (HCALL.out _).mono ?_
          rintro e w3 ⟨rfl, hb3⟩
          have hrow3 := HRK.out _ (by simp) w3 hb3
          have hbel3 := (HBELS.out _).trans (hb3.mono (by simp; exact hbel.size))
          clear hb3 HRK HBELS HCALL
          go_wp2_with fail
          go_roundw
          case rel => exact ⟨k + 1, _, rfl, by go_num, by omega, hsz, HN', hrow3, hbel3⟩
          case measure => simp [intOf]; omega
        · have g2 : (x.1 == 2) = false := by simp; exact k2
          have g3 : (x.1 == 3) = false := by simp; exact k3
          obtain ⟨HN, hsz⟩ := HFIN.out sb htb
          have HN' := Lib.hid HN
          clear htb HN HFIN k2 k3
          go_wp2_with fail
          go_roundw
          case rel => exact ⟨k + 1, _, rfl, by go_num, by omega, hsz, HN', HRK.out _ (by simp) _ (Below.refl _ _), HBELS.out _⟩
          case measure => simp [intOf]; omega
    · have hkF : k = F.length := by omega
      have hout : out.size ≤ 1800 := by
        have : k ≤ 20 := by omega
        omega
      obtain ⟨ts, HTS⟩ := hid_ex (Sp.toksB 0 ps)
      have hrA : rowAt at_ ps F k = ts.map (abs4 at_) := by
        unfold rowAt
        rw [List.take_of_length_le (by omega), List.drop_of_length_le (by omega), HTS.out, List.append_nil]
      have htl : ts.length = F.length := by rw [← HTS.out, Sp.toksB_len, hpsl]
      have hgood : ∀ x ∈ ps, Sp.good x.2 := by rw [← HPS.out]; exact spaced_good fun x hx => (HFG.out x hx).1
      have L1 : Hid (Sp.lex out.data.toList = .ok ts) := by
        show _ = _
        rw [HO.out, List.take_of_length_le (by omega), Sp.lex_line ps hgood, HTS.out]
      rw [hrA] at hrow
      have hrow' := Lib.hid hrow
      have hbelr := hb1.trans (hbel.mono hb1.size)
      have hEr := hE.below hbelr hE.size
      have hml : (ts.map (abs4 at_)).length ≤ 1000000 := by rw [List.length_map]; omega
      clear hrow hrA HTS HO HFG HFIT HPS hgood FB hbel hb1 hkF hpsl htl
      go_wp2_with fail
      refine (line_is L1 (by omega) at_ wr hEr).mono ?_
      rintro e w3 ⟨⟨vA, rfl, hrA⟩, hb3'⟩
      have hRA := hrA.row4
      have hRF := hrow'.out.below hb3'
      have hb3 := hbelr.trans (hb3'.mono hbelr.size)
      clear hb3' hbelr hEr L1 hrA hrow'
      go_wp2_with fail
      refine (same_is (row_self _) _ _ _ _ w3 hRA hRF hml hml).mono ?_
      rintro e w4 ⟨rfl, hb4'⟩
      have hb4 := hb3.trans (hb4'.mono hb3.size)
      clear hb4' hb3 hRA hRF hml
      go_wp2_with fail
      go_ret
      exact ⟨rfl, hb4⟩
end lawBack
end Go.Proofs.YtfomjdaihoaipaaDoor
