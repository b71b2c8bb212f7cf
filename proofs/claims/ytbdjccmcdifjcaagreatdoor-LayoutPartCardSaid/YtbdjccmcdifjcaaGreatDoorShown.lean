/-
  What must be in any case, at this program: it is.
-/
import Derived.Test.YtbdjccmcdifjcaaGreatDoorLayT
import Derived.Deep.QuietTactic
import Derived.BigQuiet
set_option linter.unusedVariables false
set_option linter.unusedSimpArgs false
namespace Go.Proofs.YtbdjccmcdifjcaaGreatDoor
open Go.RowKit Go.Shelf

abbrev toks1 : List T4 := [(1, 0, [105, 102], 0), (1, 3, [97], 0), (4, 4, [58], 0), (5, 5, [], 0), (6, 8, [], 0), (1, 8, [98], 0), (5, 9, [], 0), (7, 10, [], 0), (8, 10, [], 0)]
theorem lay1 : Sp.layL [105, 102, 32, 97, 58, 10, 32, 32, 98, 10] = .ok toks1 := by kernel_rfl
theorem lay2 : Sp.layL [97, 10, 32, 32, 32, 32, 98, 10, 32, 32, 99] = .error (10, 20) := by kernel_rfl
theorem lay3 : Sp.layL [102, 40, 49, 44, 10, 93] = .error (5, 21) := by kernel_rfl
def kinds1 : Nat → Int
  | 0 => 1 | 1 => 1 | 2 => 4 | 3 => 5 | 4 => 6 | 5 => 1 | 6 => 5 | _ => 7

set_option maxHeartbeats 8000000 in
set_option maxRecDepth 100000 in
theorem shown_any2 (w : World) (hE : Env w) : Calls Tryz.prog 11 #[] w fun e w' => e = .returned (.bool true) ∧ Below w.heap.size w w' := by
  have H1 := tokens_any ⟨#[105, 102, 32, 97, 58, 10, 32, 32, 98, 10]⟩ (by decide) w hE
  rw [show Sp.layL (⟨#[105, 102, 32, 97, 58, 10, 32, 32, 98, 10]⟩ : ByteArray).data.toList = .ok toks1 from lay1] at H1
  have H2 := fun W (hE : Env W) => tokens_any ⟨#[97, 10, 32, 32, 32, 32, 98, 10, 32, 32, 99]⟩ (by decide) W hE
  rw [show Sp.layL (⟨#[97, 10, 32, 32, 32, 32, 98, 10, 32, 32, 99]⟩ : ByteArray).data.toList = .error (10, 20) from lay2] at H2
  have H3 := fun W (hE : Env W) => tokens_any ⟨#[102, 40, 49, 44, 10, 93]⟩ (by decide) W hE
  rw [show Sp.layL (⟨#[102, 40, 49, 44, 10, 93]⟩ : ByteArray).data.toList = .error (5, 21) from lay3] at H3
  have HH1 := Lib.hid H1
  have HH2 := Lib.hid H2
  have HH3 := Lib.hid H3
  have HE := Lib.hid hE
  have hEs := hE.size
  clear H1 H2 H3 hE
  go_enter Tryz.func11, Tryz.ntmps11
  go_wp2_with fail
  refine HH1.out.mono ?_
  clear HH1
  rintro e w1 ⟨⟨v, rfl, hrow⟩, hb1⟩
  obtain ⟨pa, ca, rfl, fa⟩ := hrow.form
  obtain ⟨g, rfl, hg, _, k0, _, _, _⟩ := fa 0 _ rfl
  have ca : ∀ (k : Nat) (x : T4), toks1[k]? = some x → w1.cell? ⟨g, k * 4, none⟩ = some (.int .i64 x.1) ∧ w1.cell? ⟨g, k * 4 + 1, none⟩ = some (.int .i64 x.2.1) := by
    intro k x hx
    obtain ⟨g2, e, _, _, a0, a1, _⟩ := fa k x hx
    cases e
    exact ⟨a0, a1⟩
  have hlt1 : ∀ (o : Obj) (i : Nat), (w1.alloc o).cell? ⟨g, i, none⟩ = w1.cell? ⟨g, i, none⟩ := fun o i => World.cell?_alloc_lt _ _ _ hg
  have m8k : w1.cell? ⟨g, 32, none⟩ = some (.int .i64 8) := (ca 8 _ rfl).1
  have m8a : w1.cell? ⟨g, 33, none⟩ = some (.int .i64 10) := (ca 8 _ rfl).2
  have m3a : w1.cell? ⟨g, 13, none⟩ = some (.int .i64 5) := (ca 3 _ rfl).2
  have hk : ∀ k : Nat, k < 8 → w1.cell? ⟨g, k * 4, none⟩ = some (.int .i64 (kinds1 k)) := by
    intro k hk
    match k, hk with
    | 0, _ => exact (ca 0 _ rfl).1
    | 1, _ => exact (ca 1 _ rfl).1
    | 2, _ => exact (ca 2 _ rfl).1
    | 3, _ => exact (ca 3 _ rfl).1
    | 4, _ => exact (ca 4 _ rfl).1
    | 5, _ => exact (ca 5 _ rfl).1
    | 6, _ => exact (ca 6 _ rfl).1
    | 7, _ => exact (ca 7 _ rfl).1
  have HK := Lib.hid hk
  have HG := Lib.hid hg
  have HB1 := Lib.hid hb1
  clear ca hk fa hrow k0 hg hb1
  go_wp2_with fail
  have harr : ∀ k : Nat, k < 8 → (#[Value.int .i64 1, .int .i64 1, .int .i64 4, .int .i64 5, .int .i64 6, .int .i64 1, .int .i64 5, .int .i64 7] : Array Value)[k]? = some (.int .i64 (kinds1 k)) := by
    intro k hk
    match k, hk with
    | 0, _ => rfl
    | 1, _ => rfl
    | 2, _ => rfl
    | 3, _ => rfl
    | 4, _ => rfl
    | 5, _ => rfl
    | 6, _ => rfl
    | 7, _ => rfl
  have HARR := Lib.hid harr
  have HBA : Hid (Below w.heap.size w (w1.alloc (Obj.cells #[Value.int .i64 1, .int .i64 1, .int .i64 4, .int .i64 5, .int .i64 6, .int .i64 1, .int .i64 5, .int .i64 7] 45))) := HB1.out.alloc HB1.out.size _
  clear harr
  go_loopw [5] (fun v5 wr => ∃ k : Nat, v5 = .int .i64 (k : Int) ∧ k ≤ 8 ∧ ∃ q, wr = (w1.alloc (Obj.cells #[Value.int .i64 1, .int .i64 1, .int .i64 4, .int .i64 5, .int .i64 6, .int .i64 1, .int .i64 5, .int .i64 7] 45)).drewN q) (fun v5 _ => 8 - (intOf v5).toNat)
  case atStart => exact ⟨0, rfl, Nat.zero_le _, 0, rfl⟩
  case round =>
    obtain ⟨k, rfl, hk, q, rfl⟩ := hrel
    by_cases hlt : k < 8
    · have a0 := HK.out k hlt
      have b0 := HARR.out k hlt
      obtain ⟨z, HZ⟩ := hid_ex (kinds1 k)
      rw [HZ.out] at a0 b0
      have i0 : (0 : Int) ≤ (k : Int) := by omega
      have i1 : (k : Int) < 8 := by omega
      have i2 : (k : Int) < 9 := by omega
      have a1 : (w1.alloc (Obj.cells #[Value.int .i64 1, .int .i64 1, .int .i64 4, .int .i64 5, .int .i64 6, .int .i64 1, .int .i64 5, .int .i64 7] 45)).cell? ⟨g, k * 4, none⟩ = some (.int .i64 z) := by rw [hlt1]; exact a0
      have b1 : (w1.alloc (Obj.cells #[Value.int .i64 1, .int .i64 1, .int .i64 4, .int .i64 5, .int .i64 6, .int .i64 1, .int .i64 5, .int .i64 7] 45)).cell? ⟨w1.heap.size, k, none⟩ = some (.int .i64 z) := by rw [World.cell?_alloc_new]; exact b0
      go_wp2_with fail
      go_quiet (fail)
      go_wp2_with fail
      go_roundw
      case rel => exact ⟨k + 1, by go_num, by omega, _, rfl⟩
      case measure => simp [intOf]; omega
    · obtain rfl : k = 8 := by omega
      obtain ⟨W, hW⟩ : ∃ W, W = (w1.alloc (Obj.cells #[Value.int .i64 1, .int .i64 1, .int .i64 4, .int .i64 5, .int .i64 6, .int .i64 1, .int .i64 5, .int .i64 7] 45)).drewN q := ⟨_, rfl⟩
      have hbW : Below w.heap.size w W := by rw [hW]; exact below_drewN HBA.out _
      have hE2 := HE.out.below hbW hEs
      have HC2 := Lib.hid (HH2.out W hE2)
      rw [← hW]
      clear hW HBA HK HARR HH2 hE2 m8k m8a m3a hlt1
      go_wp2_with fail
      refine HC2.out.mono ?_
      rintro e w3 ⟨rfl, hb3⟩
      have hbW3 := hbW.trans (hb3.mono hbW.size)
      have HC3 := Lib.hid (HH3.out w3 (HE.out.below hbW3 hEs))
      clear HC2 hb3 hbW HH3
      go_wp2_with fail
      refine HC3.out.mono ?_
      rintro e w4 ⟨rfl, hb4⟩
      have hbW4 := hbW3.trans (hb4.mono hbW3.size)
      clear HC3 hb4 hbW3
      go_wp2_with fail
      go_ret
      exact ⟨rfl, hbW4⟩
end Go.Proofs.YtbdjccmcdifjcaaGreatDoor
