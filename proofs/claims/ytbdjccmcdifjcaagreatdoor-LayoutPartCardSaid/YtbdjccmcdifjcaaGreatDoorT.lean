/-
  What a single token is, at this program.
-/
import Derived.Test.YtbdjccmcdifjcaaGreatDoorZ
set_option linter.unusedVariables false
set_option linter.unusedSimpArgs false
namespace Go.Proofs.YtbdjccmcdifjcaaGreatDoor
open Go.RowKit Go.Shelf

namespace Sp
/-- A token: its kind, its text, its number, and how many bytes it has; or what is wrong. -/
structure Tk where
  kind : Int
  text : Bs
  num : Int
  size : Nat
def tokStr (q : UInt8) (r : Bs) : Except Int Tk :=
  match strAt q r with
  | some (t, n) => if t.length ≤ 65536 then .ok ⟨3, t, 0, n + 1⟩ else .error 12
  | none => .error 12
theorem unesc_length : ∀ (l t : Bs), unesc l = some t → t.length ≤ l.length := by
  have key : ∀ (f : Nat) (l t : Bs), l.length ≤ f → unesc l = some t → t.length ≤ l.length := by
    intro f
    induction f with
    | zero =>
      intro l t hl h
      have : l = [] := by cases l with | nil => rfl | cons => simp at hl
      subst this
      cases h
      simp
    | succ f ih =>
      intro l t hl h
      cases l with
      | nil => cases h; simp
      | cons c r =>
        simp only [List.length_cons] at hl
        rw [unesc_cons] at h
        split at h
        · split at h
          · cases h
          · rename_i b k he
            have hk := esc_len he
            rw [Option.map_eq_some_iff] at h
            obtain ⟨t', h1, rfl⟩ := h
            have := ih (r.drop k) t' (by simp; omega) h1
            simp only [List.length_drop] at this
            simp
            omega
        · rw [Option.map_eq_some_iff] at h
          obtain ⟨t', h1, rfl⟩ := h
          have := ih r t' (by omega) h1
          simp
          omega
  exact fun l t h => key l.length l t (Nat.le_refl _) h
end Sp

def tokVal (k : Int) (at_ : Int) (t : Sp.Bs) (n : Int) : Array Value := #[.int .i64 k, .int .i64 at_, .string ⟨t.toArray⟩, .int .i64 n]
def TokEnd (r : Except Int Sp.Tk) (e : Ending) : Prop :=
  match r with
  | .ok t => e = .returned (.tuple #[.agg (tokVal t.kind 0 t.text t.num), .int .i64 t.size, .int .i64 0])
  | .error er => e = .returned (.tuple #[.agg (tokVal 0 0 [] 0), .int .i64 0, .int .i64 er])

theorem tokStr_two (q : UInt8) (hq : q.toNat = 39 ∨ q.toNat = 34) (r : Sp.Bs) : Sp.tokStr q r =
    match Sp.sizeGo q false r with
    | none => .error 12
    | some n => match Sp.unesc (r.take (n - 1)) with
      | none => .error 12
      | some t => if t.length ≤ 65536 then .ok ⟨3, t, 0, n + 1⟩ else .error 12 := by
  unfold Sp.tokStr
  rw [Sp.two_ways q hq r.length r (Nat.le_refl _)]
  cases Sp.sizeGo q false r with
  | none => rfl
  | some n =>
    simp only [Option.bind_some]
    cases Sp.unesc (r.take (n - 1)) <;> rfl

theorem strSize_is {s : ByteArray} {x : Option Nat} (h0 : 0 < s.size) (h : Hid (Sp.sizeGo s[0] false (s.extract 1 s.size).data.toList = x)) (hs : s.size ≤ 1000000) (hq : s[0].toNat < 128) (w : World) :
    Calls Tryz.prog 83 #[.string s] w fun e w' => SizeEnd x e ∧ Below w.heap.size w w' := by
  rw [← h.out]; exact strSize_any s hs h0 hq w
theorem unescape_is {s : ByteArray} {x : Option Sp.Bs} (h : Hid (Sp.unesc s.data.toList = x)) (hs : s.size ≤ 1000000) (w : World) (hE : Env w) :
    Calls Tryz.prog 84 #[.string s] w fun e w' => UnEnd x e ∧ Below w.heap.size w w' := by
  rw [← h.out]; exact unescape_any s hs w hE

/-- Block g is a token's variable. -/
def TokBlk (g : Nat) (w : World) : Prop := ∃ c0 c1 c2 c3, w.heap[g]? = some (.cells #[c0, c1, c2, c3] 37 (0, 0))
theorem TokBlk.facts {g : Nat} {w : World} (h : TokBlk g w) : ∃ c0 c1 c2 c3, w.cell? ⟨g, 0, none⟩ = some c0 ∧ w.cell? ⟨g, 1, none⟩ = some c1 ∧ w.cell? ⟨g, 2, none⟩ = some c2 ∧ w.cell? ⟨g, 3, none⟩ = some c3 ∧
    w.frozen? ⟨g, 0, none⟩ = false ∧ w.frozen? ⟨g, 1, none⟩ = false ∧ w.frozen? ⟨g, 2, none⟩ = false ∧ w.frozen? ⟨g, 3, none⟩ = false ∧ g < w.heap.size := by
  obtain ⟨c0, c1, c2, c3, hh⟩ := h
  exact ⟨c0, c1, c2, c3, by rw [Lib.cell_of_heap hh]; rfl, by rw [Lib.cell_of_heap hh]; rfl, by rw [Lib.cell_of_heap hh]; rfl, by rw [Lib.cell_of_heap hh]; rfl,
    Lib.frozen_of_heap hh 0, Lib.frozen_of_heap hh 1, Lib.frozen_of_heap hh 2, Lib.frozen_of_heap hh 3, (Array.getElem?_eq_some_iff.1 hh).1⟩
theorem TokBlk.fresh (w : World) (c0 c1 c2 c3 : Value) : TokBlk w.heap.size (w.alloc (Obj.cells #[c0, c1, c2, c3] 37)) := by
  refine ⟨c0, c1, c2, c3, ?_⟩
  unfold World.alloc
  exact Array.getElem?_push_size
theorem TokBlk.below {g B : Nat} {w w' : World} (h : TokBlk g w) (k : Below B w w') (hB : g < B) : TokBlk g w' := by
  obtain ⟨c0, c1, c2, c3, hh⟩ := h
  exact ⟨c0, c1, c2, c3, (k.block g hB).trans hh⟩

set_option maxHeartbeats 4000000 in
theorem strToken_any (s : ByteArray) (hs : s.size ≤ 60000) (h0 : 0 < s.size) (hq : s[0].toNat = 39 ∨ s[0].toNat = 34) (w : World) (hE : Env w) :
    Calls Tryz.prog 70 #[.string s] w fun e w' => TokEnd (Sp.tokStr s[0] (s.extract 1 s.size).data.toList) e ∧ Below w.heap.size w w' := by
  have hq' : s[0].toNat < 128 := by omega
  have h2 := tokStr_two s[0] hq (s.extract 1 s.size).data.toList
  rw [h2]
  clear h2 hq
  have hl : (s.extract 1 s.size).data.toList.length + 1 = s.size := by rw [size_list]; simp [ByteArray.size_extract]; omega
  have hbel0 : Below w.heap.size w (w.alloc (Obj.cells #[.int .i64 0, .int .i64 0, .string ⟨#[]⟩, .int .i64 0] 37)) := (Below.refl _ w).alloc (Nat.le_refl _) _
  have hE0 := hE.below hbel0 hE.size
  have hs6 : s.size ≤ 1000000 := by omega
  cases hz : Sp.sizeGo s[0] false (s.extract 1 s.size).data.toList with
  | none =>
    have HZ := Lib.hid hz
    clear hz hl
    go_enter Tryz.func70, Tryz.ntmps70
    go_wp2_with fail
    refine (strSize_is h0 HZ hs6 hq' _).mono ?_
    rintro e w1 ⟨rfl, hb1⟩
    have hT1 := (TokBlk.fresh w (.int .i64 0) (.int .i64 0) (.string ⟨#[]⟩) (.int .i64 0)).below hb1 (by simp)
    obtain ⟨c0, c1, c2, c3, f0, f1, f2, f3, z0, z1, z2, z3, hlt⟩ := hT1.facts
    have hbel1 := hbel0.trans (hb1.mono (by simp))
    clear hb1 hbel0 hE0
    go_wp2
    refine bodyPost_ret (v := .tuple #[.agg (tokVal 0 0 [] 0), .int .i64 0, .int .i64 12]) (by simp [results, Tryz.results70, go_sem, f0, f1, f2, f3, tokVal]) rfl ⟨rfl, ?_⟩
    exact (((hbel1.setCell (p := ⟨w.heap.size, 0, none⟩) (Nat.le_refl _) _).setCell (p := ⟨w.heap.size, 1, none⟩) (Nat.le_refl _) _).setCell (p := ⟨w.heap.size, 2, none⟩) (Nat.le_refl _) _).setCell (p := ⟨w.heap.size, 3, none⟩) (Nat.le_refl _) _
  | some n =>
    have hn := Sp.sizeGo_len _ _ _ _ hz
    have hn1 : n + 1 ≤ s.size := by omega
    have hn0 := hn.1
    have HZ := Lib.hid hz
    have hun : (s.extract 1 n).data.toList = (s.extract 1 s.size).data.toList.take (n - 1) := by
      rw [extract_list, extract_list, List.take_take]
      congr 1
      omega
    simp only []
    rw [← hun]
    obtain ⟨x, HX⟩ := hid_ex (Sp.unesc (s.extract 1 n).data.toList)
    rw [HX.out]
    clear hz hl hn hun
    have hx6 : (s.extract 1 n).size ≤ 1000000 := by simp [ByteArray.size_extract]; omega
    cases x with
    | none =>
      go_enter Tryz.func70, Tryz.ntmps70
      go_wp2_with fail
      refine (strSize_is h0 HZ hs6 hq' _).mono ?_
      rintro e w1 ⟨rfl, hb1⟩
      have hT1 := (TokBlk.fresh w (.int .i64 0) (.int .i64 0) (.string ⟨#[]⟩) (.int .i64 0)).below hb1 (by simp)
      have hbel1 := hbel0.trans (hb1.mono (by simp))
      have hE1 := hE.below hbel1 hE.size
      have hz1 : w.heap.size < w1.heap.size := by have := hb1.size; simp at this; omega
      clear hb1 hbel0 hE0
      go_wp2_with fail
      refine (unescape_is HX hx6 w1 hE1).mono ?_
      rintro e w2 ⟨rfl, hb2⟩
      have hT2 := hT1.below hb2 hz1
      obtain ⟨c0, c1, c2, c3, f0, f1, f2, f3, z0, z1, z2, z3, hlt⟩ := hT2.facts
      have hbel2 := hbel1.trans (hb2.mono hbel1.size)
      clear hb2 hbel1 hE1 hT1 hz1
      go_wp2
      refine bodyPost_ret (v := .tuple #[.agg (tokVal 0 0 [] 0), .int .i64 0, .int .i64 12]) (by simp [results, Tryz.results70, go_sem, f0, f1, f2, f3, tokVal]) rfl ⟨rfl, ?_⟩
      exact (((hbel2.setCell (p := ⟨w.heap.size, 0, none⟩) (Nat.le_refl _) _).setCell (p := ⟨w.heap.size, 1, none⟩) (Nat.le_refl _) _).setCell (p := ⟨w.heap.size, 2, none⟩) (Nat.le_refl _) _).setCell (p := ⟨w.heap.size, 3, none⟩) (Nat.le_refl _) _
    | some t =>
      have htl := Sp.unesc_length _ _ HX.out
      have htl6 : t.length ≤ 60000 := by rw [size_list] at htl; simp [ByteArray.size_extract] at htl; omega
      simp only []
      rw [if_pos (by omega)]
      obtain ⟨tb, HTB⟩ := hid_ex (⟨t.toArray⟩ : ByteArray)
      have htb : tb.size ≤ 60000 := by rw [← HTB.out, mk_size]; exact htl6
      have HC : Hid (∀ w1, Env w1 → Calls Tryz.prog 84 #[.string (s.extract 1 n)] w1 fun e w' => e = .returned (.tuple #[.string tb, .bool true]) ∧ Below w1.heap.size w1 w') := by
        intro w1 hE1
        rw [← HTB.out]; exact unescape_is HX hx6 w1 hE1
      clear htl htl6 HX
      go_enter Tryz.func70, Tryz.ntmps70
      go_wp2_with fail
      refine (strSize_is h0 HZ hs6 hq' _).mono ?_
      rintro e w1 ⟨rfl, hb1⟩
      have hT1 := (TokBlk.fresh w (.int .i64 0) (.int .i64 0) (.string ⟨#[]⟩) (.int .i64 0)).below hb1 (by simp)
      have hbel1 := hbel0.trans (hb1.mono (by simp))
      have hE1 := hE.below hbel1 hE.size
      have hz1 : w.heap.size < w1.heap.size := by have := hb1.size; simp at this; omega
      clear hb1 hbel0 hE0
      go_wp2_with fail
      refine (HC.out _ hE1).mono ?_
      clear HC
      rintro e w2 ⟨rfl, hb2⟩
      have hT2 := hT1.below hb2 hz1
      obtain ⟨c0, c1, c2, c3, f0, f1, f2, f3, z0, z1, z2, z3, hlt⟩ := hT2.facts
      have hbel2 := hbel1.trans (hb2.mono hbel1.size)
      clear hb2 hbel1 hE1 hT1 hz1
      go_wp2
      refine bodyPost_ret (v := .tuple #[.agg #[.int .i64 3, .int .i64 0, .string tb, .int .i64 0], .int .i64 ((n : Int) + 1), .int .i64 0]) (by simp [results, Tryz.results70, go_sem, f0, f1, f2, f3]) rfl ⟨?_, ?_⟩
      · rw [← HTB.out]; rfl
      · exact (((hbel2.setCell (p := ⟨w.heap.size, 0, none⟩) (Nat.le_refl _) _).setCell (p := ⟨w.heap.size, 1, none⟩) (Nat.le_refl _) _).setCell (p := ⟨w.heap.size, 2, none⟩) (Nat.le_refl _) _).setCell (p := ⟨w.heap.size, 3, none⟩) (Nat.le_refl _) _
end Go.Proofs.YtbdjccmcdifjcaaGreatDoor
