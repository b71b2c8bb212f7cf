/-
  What a backslash says, at this program: the map of the escapes, and how it is asked.
-/
import Derived.Test.YtbdjccmcdifjcaaGreatDoorQ
import Derived.Test.YtbdjccmcdifjcaaGreatDoorH
import Derived.Maps.Own
import Derived.Maps.OwnOps
import Derived.Maps.OwnSet
set_option linter.unusedVariables false
set_option linter.unusedSimpArgs false
namespace Go.Proofs.YtbdjccmcdifjcaaGreatDoor
open Go.RowKit Go.Shelf Go.Maps

theorem law5 : Keyed Tryz.prog 5 := int_keyed Tryz.underlying5
theorem zero5 (w : World) : (zeroValue 5).run Tryz.prog w = .ok (.int .u8 0) w := by kernel_rfl

def D0 : DataW Unit := .map []
def D1 : DataW Unit := D0.put (.int .u8 110) (.lit (.int .u8 10))
def D2 : DataW Unit := D1.put (.int .u8 116) (.lit (.int .u8 9))
def D3 : DataW Unit := D2.put (.int .u8 92) (.lit (.int .u8 92))
def D4 : DataW Unit := D3.put (.int .u8 39) (.lit (.int .u8 39))
def D5 : DataW Unit := D4.put (.int .u8 34) (.lit (.int .u8 34))
/-- Block b is the map of the escapes. -/
def EscMap (b : Nat) (w : World) : Prop := w.ownsMap Tryz.prog 5 (plainElem Tryz.prog 5) b 5 D5

def simpN (n : Nat) : Option Nat := if n = 110 then some 10 else if n = 116 then some 9 else if n = 92 ∨ n = 39 ∨ n = 34 then some n else none
def litN : DataW Unit → Int
  | .lit (.int _ c) => c
  | _ => -1
theorem D5_all : ((List.range 256).all fun n => (Maps.has D5 (.int .u8 n) == (simpN n).isSome) && (litN (D5.atKey (.int .u8 n) (.lit (.int .u8 0))) == (((simpN n).getD 0 : Nat) : Int))) = true := by kernel_rfl
theorem simpN_is (c : UInt8) : simpN c.toNat = (Sp.simp1 c).map (·.toNat) := by
  unfold simpN Sp.simp1
  split
  · rfl
  · split
    · rfl
    · split <;> rfl

set_option maxHeartbeats 1000000 in
set_option maxRecDepth 100000 in
theorem escapes_any (w : World) : Calls Tryz.prog 92 #[] w fun e w' => e = .returned (.map (some w.heap.size)) ∧ EscMap w.heap.size w' ∧ Below w.heap.size w w' ∧ w.heap.size < w'.heap.size := by
  have hmm := @run_makeMap Tryz.prog
  have hown0 := World.ownsMap_made w Tryz.prog 5 (plainElem (H := Unit) Tryz.prog 5)
  have K (n : Int) (h : (Lit.int .u8 n).wf = true) : keyOf Tryz.prog 5 (.int .u8 n) = some (.int .u8 n) := keyOf_int_mk Tryz.underlying5 h
  obtain ⟨w1, hr1, ho1, hg1⟩ := hown0.update law5 Tryz.underlying130 (by unfold maxLen; omega) (K 110 (by decide)) (plainElem_int (H := Unit) Tryz.underlying5 (a := 10) (by decide))
  obtain ⟨w2, hr2, ho2, hg2⟩ := ho1.update law5 Tryz.underlying130 (by unfold maxLen; omega) (K 116 (by decide)) (plainElem_int (H := Unit) Tryz.underlying5 (a := 9) (by decide))
  obtain ⟨w3, hr3, ho3, hg3⟩ := ho2.update law5 Tryz.underlying130 (by unfold maxLen; omega) (K 92 (by decide)) (plainElem_int (H := Unit) Tryz.underlying5 (a := 92) (by decide))
  obtain ⟨w4, hr4, ho4, hg4⟩ := ho3.update law5 Tryz.underlying130 (by unfold maxLen; omega) (K 39 (by decide)) (plainElem_int (H := Unit) Tryz.underlying5 (a := 39) (by decide))
  obtain ⟨w5, hr5, ho5, hg5⟩ := ho4.update law5 Tryz.underlying130 (by unfold maxLen; omega) (K 34 (by decide)) (plainElem_int (H := Unit) Tryz.underlying5 (a := 34) (by decide))
  have HO : Hid (EscMap w.heap.size w5) := ho5
  clear ho1 ho2 ho3 ho4 ho5 K hown0
  have hb0 : Below w.heap.size w (w.alloc (.map #[] 0)) := (Below.refl _ w).alloc (Nat.le_refl _) _
  have gr : ∀ {a b : World}, Below w.heap.size w a → a.grownBy b (some w.heap.size) → Below w.heap.size w b := fun h g => h.grown g h.size (fun j hj => by cases hj; exact Nat.le_refl _)
  have hb5 := gr (gr (gr (gr (gr hb0 hg1) hg2) hg3) hg4) hg5
  have hz5 : w.heap.size < w5.heap.size := by
    obtain ⟨es, ck, hh, _⟩ := HO.out
    exact (Array.getElem?_eq_some_iff.1 hh).1
  clear hb0 gr hg1 hg2 hg3 hg4 hg5
  go_enter Tryz.func92, Tryz.ntmps92
  go_wp2
  go_ret
  exact ⟨rfl, HO.out, hb5, hz5⟩

theorem EscMap.kept {b : Nat} {w w' : World} (h : EscMap b w) (k : w'.heap[b]? = w.heap[b]?) : EscMap b w' := by
  obtain ⟨es, ck, hh, r⟩ := h
  exact ⟨es, ck, k.trans hh, r⟩
theorem EscMap.others {bk b : Nat} {w w' : World} (h : EscMap b w) (k : Lib.OthersKept 5 (some bk) w w') (hne : b ≠ bk) : EscMap b w' := by
  obtain ⟨es, ck, hh, r⟩ := h
  exact ⟨es, ck, k b _ hh (fun e => hne (Option.some.inj e)) (fun _ _ e => by cases e), r⟩

/-- What the package-level variables hold that the lexer reads. -/
def opsArr : Array Value := #[.string ⟨#[42, 42, 61]⟩, .string ⟨#[47, 47, 61]⟩, .string ⟨#[47, 47]⟩, .string ⟨#[42, 42]⟩, .string ⟨#[61, 61]⟩, .string ⟨#[33, 61]⟩, .string ⟨#[60, 61]⟩, .string ⟨#[62, 61]⟩, .string ⟨#[43, 61]⟩, .string ⟨#[45, 61]⟩, .string ⟨#[42, 61]⟩, .string ⟨#[37, 61]⟩, .string ⟨#[43]⟩, .string ⟨#[45]⟩, .string ⟨#[42]⟩, .string ⟨#[37]⟩, .string ⟨#[60]⟩, .string ⟨#[62]⟩, .string ⟨#[61]⟩, .string ⟨#[40]⟩, .string ⟨#[41]⟩, .string ⟨#[91]⟩, .string ⟨#[93]⟩, .string ⟨#[123]⟩, .string ⟨#[125]⟩, .string ⟨#[44]⟩, .string ⟨#[58]⟩, .string ⟨#[46]⟩]
structure Env (w : World) : Prop where
  size : 6 ≤ w.heap.size
  ops : ∃ T fr, w.heap[3]? = some (.cells opsArr T fr)
  maxl : ∃ m, w.cell? ⟨2, 0, none⟩ = some (.int .i64 m)
  es : ∃ ev, w.cell? ⟨4, 0, none⟩ = some ev ∧ (ev = .nilIface ∨ ∃ te pe, ev = .iface te pe)
  er : ∃ ev, w.cell? ⟨5, 0, none⟩ = some ev ∧ (ev = .nilIface ∨ ∃ te pe, ev = .iface te pe)

theorem Env.below {w w' : World} {B : Nat} (h : Env w) (hb : Below B w w') (hB : 6 ≤ B) : Env w' := by
  refine ⟨Nat.le_trans h.size hb.size, ?_, ?_, ?_, ?_⟩
  · obtain ⟨T, fr, h0⟩ := h.ops
    exact ⟨T, fr, (hb.block 3 (by omega)).trans h0⟩
  · obtain ⟨m, h0⟩ := h.maxl
    exact ⟨m, (hb.cell (p := ⟨2, 0, none⟩) (by simp; omega)).trans h0⟩
  · obtain ⟨m, h0, h1⟩ := h.es
    exact ⟨m, (hb.cell (p := ⟨4, 0, none⟩) (by simp; omega)).trans h0, h1⟩
  · obtain ⟨m, h0, h1⟩ := h.er
    exact ⟨m, (hb.cell (p := ⟨5, 0, none⟩) (by simp; omega)).trans h0, h1⟩

/-- What strconv.ParseUint answers of a text of two bytes: the number, or an error that is not nil. -/
def HexEnd2 (r : Option Nat) (e : Ending) : Prop :=
  match r with
  | some n => e = .returned (.tuple #[.int .u64 n, .nilIface])
  | none => ∃ p, e = .returned (.tuple #[.int .u64 0, .iface 147 p])

set_option maxHeartbeats 1000000 in
theorem parseHex (t : ByteArray) (ht : t.size = 2) (w : World) (hE : Env w) :
    Calls Tryz.prog 104 #[.string t, .int .i64 16, .int .i64 8] w fun e w' => HexEnd2 (hexTo 0 t.data.toList) e ∧ Below w.heap.size w w' := by
  have hc := parseHex_in t ht w
  have hts : t.size ≤ 281474976710656 := by omega
  cases hr : hexTo 0 t.data.toList with
  | some n =>
    rw [hr] at hc
    have HC := Lib.hid hc
    clear hc hr ht hts
    go_enter Tryz.func104, Tryz.ntmps104
    go_wp2_with fail
    refine HC.out.mono ?_
    rintro e w1 ⟨rfl, hb⟩
    go_wp2
    go_ret2
    exact ⟨rfl, hb⟩
  | none =>
    rw [hr] at hc
    have HC := Lib.hid hc
    have HT := Lib.hid ht
    clear hc hr ht
    go_enter Tryz.func104, Tryz.ntmps104
    go_wp2_with fail
    refine HC.out.mono ?_
    rintro e w1 ⟨rfl, hb⟩
    have hE1 := hE.below hb hE.size
    obtain ⟨ev, hv, hev⟩ := hE1.es
    have HV := Lib.hid hv
    have HEV := Lib.hid hev
    clear hv hev
    go_wp2_with fail
    refine (Any.strconv_toError_syntax Tryz.laysC245 _ t _ _ ev w1 hts HV.out HEV.out).mono ?_
    rintro e w2 ⟨N, rfl, _, _, hb2⟩
    go_wp2
    go_ret2
    exact ⟨⟨_, rfl⟩, hb.trans (hb2.mono hb.size)⟩
end Go.Proofs.YtbdjccmcdifjcaaGreatDoor
