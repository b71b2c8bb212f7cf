/-
  The law's alike, at this program.
-/
import Derived.Test.YtaghkidelbepnaaDiX
set_option linter.unusedVariables false
set_option linter.unusedSimpArgs false
namespace Go.Proofs.Ytaghkidelbepnaa
open Go.RowKit
open Di

theorem eqIn_V (w : World) (d : Nat) (x : V) : (Op.equalIn (d + 2) 32 (.agg #[.int .i64 x.1, .int .i64 x.2.1, .string x.2.2]) (.agg #[.int .i64 x.1, .int .i64 x.2.1, .string x.2.2])).run Try.prog w = .ok true w := by
  obtain ⟨k, n, s⟩ := x
  have hu := Try.underlying32
  have hp : Try.prog.stoodInHeld 32 = false := by kernel_rfl
  have hf : Try.prog.fieldsOf 32 = #[{ name := "Kind", type := 3, offset := 0, embedded := false, tag := "", pkgPath := "", byteOffset := 0 },
          { name := "N", type := 2, offset := 1, embedded := false, tag := "", pkgPath := "", byteOffset := 8 },
          { name := "S", type := 9, offset := 2, embedded := false, tag := "", pkgPath := "", byteOffset := 16 }] := by simp [Program.fieldsOf, hu]
  have h := run_equalIn_agg (P := Try.prog) w (d + 1) 32 #[.int .i64 k, .int .i64 n, .string s] #[.int .i64 k, .int .i64 n, .string s] (by rw [hf]; exact hu) hp
  rw [h, hf]
  have e3 : ∀ a b, (Op.equalIn (d + 1) 3 (.int .i64 a) (.int .i64 b)).run Try.prog w = .ok (a == b) w := fun a b => run_equalIn_int w d 3 .i64 .i64 a b Try.underlying3
  have e2 : ∀ a b, (Op.equalIn (d + 1) 2 (.int .i64 a) (.int .i64 b)).run Try.prog w = .ok (a == b) w := fun a b => run_equalIn_int w d 2 .i64 .i64 a b Try.underlying2
  have e9 : ∀ a b, (Op.equalIn (d + 1) 9 (.string a) (.string b)).run Try.prog w = .ok (a.toList == b.toList) w := fun a b => run_equalIn_string w d 9 a b Try.underlying9
  simp [Op.eqFields, part, Try.isAgg3, Try.isAgg9, Try.isAgg2, e3, e2, e9]
theorem neq_P (w : World) (p : Pr) : (binOp .neq 60 (vP p) (vP p)).run Try.prog w = .ok (.bool false) w := by
  have hu := Try.underlying60
  have hp : Try.prog.stoodInHeld 60 = false := by kernel_rfl
  have hf : Try.prog.fieldsOf 60 = #[{ name := "K", type := 32, offset := 0, embedded := false, tag := "", pkgPath := "", byteOffset := 0 },
          { name := "X", type := 32, offset := 3, embedded := false, tag := "", pkgPath := "", byteOffset := 32 }] := by simp [Program.fieldsOf, hu]
  have h := run_equalIn_agg (P := Try.prog) w 9999 60 #[.int .i64 p.1.1, .int .i64 p.1.2.1, .string p.1.2.2, .int .i64 p.2.1, .int .i64 p.2.2.1, .string p.2.2.2] #[.int .i64 p.1.1, .int .i64 p.1.2.1, .string p.1.2.2, .int .i64 p.2.1, .int .i64 p.2.2.1, .string p.2.2.2] (by rw [hf]; exact hu) hp
  rw [run_neq_struct, show (10000 : Nat) = 9999 + 1 from rfl, h, hf]
  have f1 := eqIn_V w 9997 p.1
  have f2 := eqIn_V w 9997 p.2
  simp [Op.eqFields, part, Try.isAgg32, f1, f2]
theorem own_cells {α : Type} {sz : Nat} {cs : α → List Value} (hcs : ∀ x, (cs x).length = sz) {B : Nat} {T : TypeId} {pa : Option Addr} {n cap : Nat} {l : List α} {w w' : World} (hn : l.length = n) (h : w.ownsRow B T sz (.slice pa n cap) n (l.flatMap cs)) (hb : Below w.heap.size w w') : ∀ k x, l[k]? = some x → ∃ g, pa = some ⟨g, 0, none⟩ ∧ ∀ j u, (cs x)[j]? = some u → w'.cell? ⟨g, k * sz + j, none⟩ = some u := by
  subst hn
  obtain ⟨pa', cap', hv, hc⟩ := own_form hcs h
  simp only [Value.slice.injEq, true_and] at hv
  obtain ⟨rfl, rfl⟩ := hv
  intro k x hx
  obtain ⟨g, hg, hlt, _, hcc⟩ := hc k x hx
  exact ⟨g, hg, fun j u hu => (hb.cell (p := ⟨g, _, none⟩) hlt).trans (hcc j u hu)⟩
set_option maxHeartbeats 16000000 in
set_option maxRecDepth 100000 in
theorem alike_is (I : DictI) {B : Nat} {w : World} {a b : Nat} {v : Value} {l : List Pr} (HT : Hid (Two I B w a b v l l)) (hl : l.length ≤ 5000) :
    Calls Try.prog 16 #[ptrV a, ptrV b] w fun e w' => e = .returned (.bool true) ∧ Below w.heap.size w w' := by
  obtain ⟨n, hn⟩ : ∃ n, l.length = n := ⟨_, rfl⟩
  have HN := Lib.hid hn
  obtain ⟨pv, cv, rfl, _⟩ := own_form cP_len HT.out.r.row
  rw [hn] at hl HT
  have g0 : ((n : Int) != (n : Int)) = false := by simp
  clear hn
  go_enter Try.func16, Try.ntmps16
  go_upto_region 3 with (first
    | (go_at_call 26; refine (I.keys_ HN (Lib.hid (HT.out.below HB1).d) hl).mono ?_; rintro e w2 ⟨p2, c2, rfl, HO2, HB2⟩)
    | (go_at_call 30; refine (pairs_is I HN (Lib.hid HT.out.d) hl).mono ?_; rintro e w1 ⟨p1, c1, rfl, HO1, HB1⟩))
  have HB12 := Lib.hid (HB1.trans (HB2.out.mono HB1.size))
  have HT2 := Lib.hid (HT.out.below HB12.out)
  have a0 := HT2.out.r.cell
  have HTd : Hid (Two I B w2.drew a b (.slice pv n cv) l l) := HT2.out.below (below_dr (Below.refl _ _) 1)
  have HKC : Hid (∀ w6 : World, Below w2.heap.size w2 w6 → w6.cell? ⟨b, 0, none⟩ = some (.slice pv n cv)) := (show ∀ w6 : World, _ → _ from fun w6 h6 => (h6.cell (p := ⟨b, 0, none⟩) HT2.out.r.lt).trans HT2.out.r.cell)
  go_region_held3 (fun w' => w'.cell? ⟨b, 0, none⟩ = some (.slice pv n cv))
    (first
      | (go_keep; done)
      | with_reducible exact k3
      | fail)
    ((first
      | (go_at_call 25; refine (I.len_ (w := w2.drew) HN (Lib.hid HTd.out.d) hl).mono ?_; rintro e w3 ⟨rfl, HB3⟩; have k3 := HKC.out w3 ((below_dr (Below.refl _ w2) 1).trans (HB3.mono (Nat.le_refl _))))
      | fail))
  all_goals
    have HB23 : Hid (Below w2.heap.size w2 w3) := (show Below _ _ _ from (below_dr (Below.refl _ w2) 1).trans (HB3.mono (Nat.le_refl _)))
    have HB13 : Hid (Below w1.heap.size w1 w3) := (show Below _ _ _ from HB2.out.trans (HB23.out.mono HB2.out.size))
    have HB03 : Hid (Below w.heap.size w w3) := (show Below _ _ _ from HB1.trans (HB13.out.mono HB1.size))
    have FP := Lib.hid (own_cells cP_len HN.out HO1.out HB13.out)
    have FK := Lib.hid (own_cells cV_len (show (l.map (·.1)).length = n by rw [List.length_map]; exact HN.out) HO2.out HB23.out)
    have FY := Lib.hid (own_cells cP_len HN.out (by have := HT2.out.r.row; rw [HN.out] at this; exact this) HB23.out)
    have hnp := neq_P
    have hnv := fun w x => (neq_V w x x)
    simp only [decide_true, Bool.not_true] at hnv
    clear HO1 HO2 HTd HKC HT HT2 HB12 HB1 HB2 HB3 a0
    go_wp2_with fail
    go_loopw [7] (fun v7 wr => ∃ i : Nat, v7 = .int .i64 (i : Int) ∧ i ≤ n ∧ ∃ q, wr = w3.drewN q) (fun v7 _ => n - (intOf v7).toNat)
    case atStart => exact ⟨0, rfl, Nat.zero_le _, 0, rfl⟩
    case round =>
      obtain ⟨i, rfl, hi, q, rfl⟩ := hrel
      by_cases hlt : i < n
      · obtain ⟨x, hx⟩ : ∃ x, l[i]? = some x := ⟨_, List.getElem?_eq_getElem (by have := HN.out; omega)⟩
        obtain ⟨g1, rfl, hc1⟩ := FP.out i x hx
        obtain ⟨g2, rfl, hc2⟩ := FY.out i x hx
        obtain ⟨g4, rfl, hc4⟩ := FK.out i x.1 (by rw [List.getElem?_map, hx]; rfl)
        have a0 := hc1 0 _ rfl
        have a1 := hc1 1 _ rfl
        have a2 := hc1 2 _ rfl
        have a3 := hc1 3 _ rfl
        have a4 := hc1 4 _ rfl
        have a5 := hc1 5 _ rfl
        have b0 := hc2 0 _ rfl
        have b1 := hc2 1 _ rfl
        have b2 := hc2 2 _ rfl
        have b3 := hc2 3 _ rfl
        have b4 := hc2 4 _ rfl
        have b5 := hc2 5 _ rfl
        have c0 := hc4 0 _ rfl
        have c1' := hc4 1 _ rfl
        have c2' := hc4 2 _ rfl
        simp only [Nat.add_zero] at a0 b0 c0
        clear hc1 hc2 hc4 hx
        go_wp2_with fail
        go_quiet (fail)
        go_wp2_with fail
        exact ⟨⟨i + 1, by go_num, by omega, q + nq, by first | rfl | rw [World.drewN_drewN]⟩, by simp [intOf]; omega⟩
      · go_wp2_with fail
        go_ret
        exact ⟨rfl, below_dr HB03.out _⟩
end Go.Proofs.Ytaghkidelbepnaa
