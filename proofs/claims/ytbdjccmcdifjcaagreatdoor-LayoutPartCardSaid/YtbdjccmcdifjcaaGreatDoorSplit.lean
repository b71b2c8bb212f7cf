/-
  The lines of a source as a range over a function hands them out, at this program: whatever the rounds do, a panic among it.
-/
import Derived.Test.YtbdjccmcdifjcaaGreatDoorRound
import Derived.Test.YtbdjccmcdifjcaaGreatDoorShelfB
import Derived.Test.YtbdjccmcdifjcaaGreatDoorLain
import Derived.RangeFuncNested
import Derived.RangeFuncBound
import Derived.RangeFuncCalls
import Derived.RangeFuncLeaves
import Derived.Shelf.Abstract
import Derived.Shelf.RegionOpen
import Derived.WalkKit
import Derived.OwnWalkIn
import Derived.TacticsInMore
import Derived.LoopNIn
import Derived.LoopIn
set_option linter.unusedVariables false
set_option linter.unusedSimpArgs false
namespace Go.Proofs.YtbdjccmcdifjcaaGreatDoor
open Go.RowKit Go.Shelf
attribute [local go_sem] Oper.semAt_some

namespace Sp
theorem linesGo_some : ∀ (i : Nat) (r : Bs) (start pos : Nat) (cur : Bs), r[i]? = some 10 → (∀ k : Nat, k < i → r[k]? ≠ some 10) → linesGo start cur pos r = (start, cur ++ r.take i) :: linesGo (pos + i + 1) [] (pos + i + 1) (r.drop (i + 1)) := by
  intro i
  induction i with
  | zero =>
    intro r start pos cur h _
    cases r with
    | nil => cases h
    | cons c r =>
      simp at h
      subst h
      rw [linesGo, if_pos (by decide)]
      simp
  | succ i ih =>
    intro r start pos cur h hn
    cases r with
    | nil => cases h
    | cons c r =>
      have h0 := hn 0 (by omega)
      have hc : ¬ c.toNat = 10 := by
        intro e
        apply h0
        simp
        exact UInt8.toNat_inj.1 e
      rw [linesGo, if_neg hc]
      rw [ih r start (pos + 1) (cur ++ [c]) (by simpa using h) (fun k hk => by have := hn (k + 1) (by omega); simpa using this)]
      simp
      have e : pos + 1 + i + 1 = pos + (i + 1) + 1 := by omega
      rw [e]
theorem linesGo_none : ∀ (r : Bs) (start pos : Nat) (cur : Bs), (∀ k : Nat, r[k]? ≠ some 10) → linesGo start cur pos r = [(start, cur ++ r)] := by
  intro r
  induction r with
  | nil => intro start pos cur _; simp [linesGo]
  | cons c r ih =>
    intro start pos cur hn
    have hc : ¬ c.toNat = 10 := by
      intro e
      apply hn 0
      simp
      exact UInt8.toNat_inj.1 e
    rw [linesGo, if_neg hc, ih start (pos + 1) (cur ++ [c]) (fun k => by have := hn (k + 1); simpa using this)]
    simp
end Sp

theorem cell_heap {W W' : World} {a : Addr} (h : W'.heap[a.block]? = W.heap[a.block]?) : W'.cell? a = W.cell? a := by
  unfold World.cell?
  rw [h]
theorem frozen_heap {W W' : World} {a : Addr} (h : W'.heap[a.block]? = W.heap[a.block]?) : W'.frozen? a = W.frozen? a := by
  unfold World.frozen?
  rw [h]
theorem Sp.Bs_bytes (b : ByteArray) : (⟨b.data.toList.toArray⟩ : ByteArray) = b := by simp
theorem Sp.bytes_ext {a b : ByteArray} (h : a.data.toList = b.data.toList) : a = b := by rw [← Sp.Bs_bytes a, h, Sp.Bs_bytes]
/-- How long the text in a box is. -/
def boxLen (b : Nat) (w : World) : Nat := match w.cell? ⟨b, 0, none⟩ with
  | some (.string s) => s.size
  | _ => 0

set_option maxHeartbeats 8000000 in
set_option maxRecDepth 100000 in
theorem split_in (n : Nat) (l bs bp bv : Nat) (s : ByteArray) (hs : s.size ≤ 60000) (hd1 : bs ≠ bp) (hd2 : bs ≠ bv)
    (K : List (Nat × Sp.Bs) → World → Prop) (Kp : List PanicEntry → World → Prop)
    (hset : ∀ pre x W v, K (pre ++ [x]) W → K (pre ++ [x]) (W.setCell ⟨bs, 0, none⟩ v))
    (hY : ∀ pre x W1, K pre W1 → (∃ post, Sp.linesL s.data.toList = pre ++ x :: post) → YieldAt Fence.wide (n - 1) Tryz.prog l #[.string ⟨x.2.toArray⟩] W1 fun e W' => (e = .returned (.bool true) ∧ K (pre ++ [x]) W' ∧ ∀ k, (k = bs ∨ k = bp ∨ k = bv) → W'.heap[k]? = W1.heap[k]?) ∨ (∃ ch, e = .panicked ch ∧ Kp ch W'))
    (W : World) (h1 : W.cell? ⟨bs, 0, none⟩ = some (.string s)) (hf : W.frozen? ⟨bs, 0, none⟩ = false) (h2 : W.cell? ⟨bp, 0, none⟩ = some (.string ⟨#[10]⟩)) (h3 : W.cell? ⟨bv, 0, none⟩ = some (.int .i64 0)) (h0 : K [] W) :
    CallsIn Fence.wide n Tryz.prog 51 #[.func (.yield l) #[] #[], .pointer (some ⟨bp, 0, none⟩), .pointer (some ⟨bs, 0, none⟩), .pointer (some ⟨bv, 0, none⟩)] W fun e W' =>
      (∃ v, e = .returned v ∧ K (Sp.linesL s.data.toList) W') ∨ (∃ ch, e = .panicked ch ∧ Kp ch W') := by
  have HSET := Lib.hid hset
  have HY := Lib.hid hY
  obtain ⟨L, HL⟩ := hid_ex (Sp.linesL s.data.toList)
  rw [HL.out]
  have HK0 := Lib.hid h0
  clear hset hY h0
  refine callsIn_of_wp Tryz.func51 rfl trivial ?_ rfl
  simp only [Tryz.ntmps51, List.size_toArray, List.length_cons, List.length_nil, Nat.reduceAdd, Nat.reduceSub, Array.replicate_succ, Array.replicate_zero, List.push_toArray, List.append_toArray, List.nil_append, List.cons_append]
  gi_wp2_with fail
  gi_loopw [7] (fun v7 wr => ∃ (pre : List (Nat × Sp.Bs)) (pos : Nat) (r : ByteArray), Hid (K pre wr) ∧ pos ≤ s.size ∧ Hid (s.extract pos s.size = r) ∧ wr.cell? ⟨bs, 0, none⟩ = some (.string r) ∧ wr.frozen? ⟨bs, 0, none⟩ = false ∧ wr.cell? ⟨bp, 0, none⟩ = some (.string ⟨#[10]⟩) ∧ wr.cell? ⟨bv, 0, none⟩ = some (.int .i64 0) ∧ Hid (L = pre ++ Sp.linesGo pos [] pos (s.data.toList.drop pos))) (fun v7 wr => boxLen bs wr)
  case atStart =>
    exact ⟨[], 0, s, HK0, Nat.zero_le _, by show _ = _; simp, h1, hf, h2, h3, by show _ = _; rw [← HL.out]; rfl⟩
  case round =>
    clear h1 hf h2 h3 HK0
    obtain ⟨pre, pos, r, HK, hpos, HR, c1, f1, c2, c3, HX⟩ := hrel
    have hrl : r.data.toList = s.data.toList.drop pos := by rw [← HR.out]; exact Lib.extract_to_end s pos
    have hrz : r.size = s.size - pos := by rw [← HR.out]; simp [ByteArray.size_extract]
    have hrs : r.size ≤ 60000 := by omega
    have HI := Tryz.strings_Index_one r 10
    have hge := Lib.indexByte_ge r.data.toList 10
    by_cases hm : Lib.indexByte r.data.toList 10 = -1
    · have hnone := Lib.indexByte_none hm
      rw [hm] at HI
      have HN : Hid (L = pre ++ [(pos, r.data.toList)]) := by
        show _ = _
        rw [HX.out, ← hrl, Sp.linesGo_none _ _ _ _ hnone]
        rfl
      have HI' := Lib.hid HI
      have hy0 := HY.out pre (pos, r.data.toList) wr HK.out ⟨[], by rw [HL.out, HN.out]⟩
      obtain ⟨fn, tmps, assign, body, hy, hR⟩ := hy0
      rw [Sp.Bs_bytes] at hy
      have HRR := Lib.hid hR
      clear HI hR hge hm hnone hrl hrz HX HR
      gi_wp2_with fail
      refine ⟨trivial, fun h => by simp [Fence.wide] at h, (callsIn_wide.2 (HI'.out wr)).mono ?_⟩
      rintro e w' ⟨rfl, rfl⟩
      gi_wp2_with fail
      refine ⟨fun h => by simp [Fence.wide] at h, HRR.out.mono ?_⟩
      rintro e W2 (⟨rfl, hK2, hk2⟩ | ⟨ch, rfl, hp⟩)
      · clear HRR hy
        rw [← HN.out] at hK2
        gi_wp2_with fail
        go_end0
        exact Or.inl ⟨_, rfl, hK2⟩
      · exact ⟨rfl, Or.inr ⟨ch, rfl, hp⟩⟩
    · obtain ⟨i, hi⟩ : ∃ i : Nat, Lib.indexByte r.data.toList 10 = (i : Int) := ⟨(Lib.indexByte r.data.toList 10).toNat, by omega⟩
      obtain ⟨hi1, hi2⟩ := Lib.indexByte_some hi
      have hlt : i < r.size := by rw [← size_list]; exact (List.getElem?_eq_some_iff.1 hi1).1
      obtain ⟨x, HXB⟩ := hid_ex (r.extract 0 i)
      obtain ⟨r', HRB⟩ := hid_ex (r.extract (i + 1) r.size)
      have hxl : x.data.toList = r.data.toList.take i := by rw [← HXB.out, extract_list]; simp
      have hrl' : r'.data.toList = r.data.toList.drop (i + 1) := by rw [← HRB.out]; exact Lib.extract_to_end r (i + 1)
      have hrz' : r'.size < r.size := by rw [← HRB.out]; simp [ByteArray.size_extract]; omega
      have hdd : r.data.toList.drop (i + 1) = s.data.toList.drop (pos + i + 1) := by rw [hrl, List.drop_drop]; rfl
      have HN : Hid (L = (pre ++ [(pos, x.data.toList)]) ++ Sp.linesGo (pos + i + 1) [] (pos + i + 1) (s.data.toList.drop (pos + i + 1))) := by
        show _ = _
        rw [HX.out, ← hrl, Sp.linesGo_some i _ _ _ _ hi1 hi2, hdd, hxl]
        simp
      have HE : Hid (s.extract (pos + i + 1) s.size = r') := by
        show _ = _
        apply Sp.bytes_ext
        rw [Lib.extract_to_end, hrl', hdd]
      rw [hi] at HI
      have HI' := Lib.hid HI
      have hy0 := HY.out pre (pos, x.data.toList) wr HK.out ⟨_, by rw [HL.out, HN.out, List.append_assoc]; rfl⟩
      obtain ⟨fn, tmps, assign, body, hy, hR⟩ := hy0
      rw [Sp.Bs_bytes] at hy
      have HRR := Lib.hid hR
      have hs1 : ∀ w, (Instr.slice 9 (.string r) none (some (.int .i64 (i : Int))) none).run Tryz.prog w = .ok (.string x) w := by
        intro w
        have h := run_slice_string_h w 9 r Tryz.underlying9 .i64 (i : Int) (by omega) (by omega)
        rw [Int.toNat_natCast, HXB.out] at h
        exact h
      have hs2 : ∀ w, (Instr.slice 9 (.string r) (some (.int .i64 ((i : Int) + 1))) none none).run Tryz.prog w = .ok (.string r') w := by
        intro w
        have h := run_slice_string_l w 9 r Tryz.underlying9 .i64 ((i : Int) + 1) (by omega) (by omega)
        rw [show ((i : Int) + 1).toNat = i + 1 by omega, HRB.out] at h
        exact h
      have hw0 : IntKind.i64.wrap (i : Int) = (i : Int) := IntWalk.i64_in _ (by omega)
      have hw1 : IntKind.i64.wrap ((i : Int) + 1) = (i : Int) + 1 := IntWalk.i64_in _ (by omega)
      have hneg : ¬ (i : Int) < 0 := by omega
      have hpos' : pos + i + 1 ≤ s.size := by omega
      have c0 := c1
      clear HI hR hge hm hi1 hi2 hrl hrz HX HR HXB HRB hxl hrl' hdd hi
      gi_wp2_with fail
      refine ⟨trivial, fun h => by simp [Fence.wide] at h, (callsIn_wide.2 (HI'.out wr)).mono ?_⟩
      rintro e w' ⟨rfl, rfl⟩
      gi_wp2_with fail
      refine ⟨fun h => by simp [Fence.wide] at h, HRR.out.mono ?_⟩
      rintro e W2 (⟨rfl, hK2, hk2⟩ | ⟨ch, rfl, hp⟩)
      · clear HRR hy
        have b1 := hk2 bs (Or.inl rfl)
        have b2 := hk2 bp (Or.inr (Or.inl rfl))
        have b3 := hk2 bv (Or.inr (Or.inr rfl))
        replace c1 := (cell_heap (a := ⟨bs, 0, none⟩) b1).trans c1
        replace f1 := (frozen_heap (a := ⟨bs, 0, none⟩) b1).trans f1
        replace c2 := (cell_heap (a := ⟨bp, 0, none⟩) b2).trans c2
        replace c3 := (cell_heap (a := ⟨bv, 0, none⟩) b3).trans c3
        have hK3 := Lib.hid (HSET.out _ _ _ (.string r') hK2)
        have d1 : (W2.setCell ⟨bs, 0, none⟩ (.string r')).cell? ⟨bs, 0, none⟩ = some (.string r') := World.cell?_setCell_same _ _ _ c1
        have d2 : (W2.setCell ⟨bs, 0, none⟩ (.string r')).cell? ⟨bp, 0, none⟩ = some (.string ⟨#[10]⟩) := (World.cell?_setCell_other _ _ _ _ (by simp [hd1])).trans c2
        have d3 : (W2.setCell ⟨bs, 0, none⟩ (.string r')).cell? ⟨bv, 0, none⟩ = some (.int .i64 0) := (World.cell?_setCell_other _ _ _ _ (by simp [hd2])).trans c3
        have hm1 : boxLen bs (W2.setCell ⟨bs, 0, none⟩ (.string r')) < boxLen bs w' := by
          unfold boxLen
          rw [d1, c0]
          exact hrz'
        clear hk2 b1 b2 b3 hK2
        gi_wp2_with fail
        exact ⟨⟨_, _, r', hK3, hpos', HE, d1, by rw [World.frozen?_setCell]; exact f1, d2, d3, HN⟩, hm1⟩
      · exact ⟨rfl, Or.inr ⟨ch, rfl, hp⟩⟩

theorem splitSeq_any (s : ByteArray) (w : World) : Calls Tryz.prog 23 #[.string s, .string ⟨#[10]⟩] w fun e w' =>
    e = .returned (.func (.func 51) #[] #[.pointer (some ⟨w.heap.size + 1, 0, none⟩), .pointer (some ⟨w.heap.size, 0, none⟩), .pointer (some ⟨w.heap.size + 2, 0, none⟩)]) ∧
    w' = ((w.alloc (.cells #[.string s] 9)).alloc (.cells #[.string ⟨#[10]⟩] 9)).alloc (.cells #[.int .i64 0] 3) := by
  have hmf : ∀ (fn : Fn) (first cap : Array Value) (w : World), (Instr.makeFunc fn first cap).run Tryz.prog w = .ok (.func fn first cap) w := fun _ _ _ _ => rfl
  go_enter Tryz.func23, Tryz.ntmps23
  go_wp2
  go_ret
  exact ⟨rfl, rfl⟩
end Go.Proofs.YtbdjccmcdifjcaaGreatDoor
