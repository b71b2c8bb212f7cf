/-
  Texts of the tree package put behind one another: TreeW, TreeX, TreeZ, TreeN.
-/
import Derived.Test.YtkmmcphiijolkaaGreatDoorZd
import Derived.Test.YtkmmcphiijolkaaGreatDoorZg
import Derived.Test.YtkmmcphiijolkaaGreatDoorZc
import Derived.Maps.Own
import Derived.Test.YtkmmcphiijolkaaGreatDoorZe
import Derived.Test.YtkmmcphiijolkaaGreatDoorZb
set_option linter.unusedVariables false
set_option linter.unusedSimpArgs false
namespace Go.Proofs.YtkmmcphiijolkaaGreatDoor
open Go.RowKit Go.Shelf
open Tr
attribute [local go_sem] Oper.semAt_some

namespace Tr
/-- The parts of a text between signs c; cur: what has come of the first one. -/
def splitGo (c : UInt8) : Sp.Bs → Sp.Bs → List Sp.Bs
  | cur, [] => [cur]
  | cur, x :: l => if x = c then cur :: splitGo c [] l else splitGo c (cur ++ [x]) l
def sNames (s : Sp.Bs) : Bool := (splitGo 32 [] s).all Sp.nm
theorem splitGo_some (c : UInt8) : ∀ (i : Nat) (r cur : Sp.Bs), r[i]? = some c → (∀ k : Nat, k < i → r[k]? ≠ some c) → splitGo c cur r = (cur ++ r.take i) :: splitGo c [] (r.drop (i + 1))
  | i, [], cur, h, _ => by simp at h
  | 0, x :: l, cur, h, _ => by
    simp only [List.getElem?_cons_zero, Option.some.injEq] at h
    subst h
    simp [splitGo]
  | i + 1, x :: l, cur, h, hn => by
    have hx : x ≠ c := fun e => hn 0 (by omega) (by simp [e])
    have := splitGo_some c i l (cur ++ [x]) (by simpa using h) (fun k hk => by have := hn (k + 1) (by omega); simpa using this)
    rw [splitGo, if_neg hx, this]
    simp
theorem splitGo_none (c : UInt8) : ∀ (r cur : Sp.Bs), (∀ k : Nat, r[k]? ≠ some c) → splitGo c cur r = [cur ++ r]
  | [], cur, _ => by simp [splitGo]
  | x :: l, cur, hn => by
    have hx : x ≠ c := fun e => hn 0 (by simp [e])
    rw [splitGo, if_neg hx, splitGo_none c l (cur ++ [x]) (fun k => by have := hn (k + 1); simpa using this)]
    simp
end Tr
theorem bytes_self (b : ByteArray) : (⟨b.data.toList.toArray⟩ : ByteArray) = b := by simp
theorem bytes_ext {a b : ByteArray} (h : a.data.toList = b.data.toList) : a = b := by rw [← bytes_self a, h, bytes_self]
theorem extract_front (r : ByteArray) (i : Nat) : (r.extract 0 i).data.toList = r.data.toList.take i := by
  rw [ByteArray.data_extract, Array.toList_extract]
  simp [List.extract]
def boxSize (b : Nat) (w : World) : Nat := match w.cell? ⟨b, 0, none⟩ with
  | some (.string s) => s.size
  | _ => 0

set_option maxHeartbeats 8000000 in
set_option maxRecDepth 100000 in
theorem split_gives (c : UInt8) (n : Nat) (bs bp bv : Nat) (s : ByteArray) (hs : s.size ≤ 1000000) (hd1 : bs ≠ bp) (hd2 : bs ≠ bv) (R : Nat → Prop) (w : World) (hn1 : ¬ R bs) (hn2 : ¬ R bp) (hn3 : ¬ R bv)
    (h1 : w.cell? ⟨bs, 0, none⟩ = some (.string s)) (hf : w.frozen? ⟨bs, 0, none⟩ = false) (h2 : w.cell? ⟨bp, 0, none⟩ = some (.string ⟨#[c]⟩)) (h3 : w.cell? ⟨bv, 0, none⟩ = some (.int .i64 0)) :
    GivesS Fence.wide n Tryz.prog 124 #[.pointer (some ⟨bp, 0, none⟩), .pointer (some ⟨bs, 0, none⟩), .pointer (some ⟨bv, 0, none⟩)] (fun x : Sp.Bs => #[.string ⟨x.toArray⟩]) (fun q => q <+: splitGo c [] s.data.toList) (fun xs => xs = splitGo c [] s.data.toList) R (fun k => k = bs) w := by
  intro l J Jx W hl hlW hW hJ hJx hY h0
  have hbs := cell_lt h1
  have hbp := cell_lt h2
  have hbv := cell_lt h3
  simp only at hbs hbp hbv
  have c1 : W.cell? ⟨bs, 0, none⟩ = some (.string s) := (hW.cell (p := ⟨bs, 0, none⟩) hbs).trans h1
  have f1 : W.frozen? ⟨bs, 0, none⟩ = false := (hW.frozen (p := ⟨bs, 0, none⟩) hbs).trans hf
  have c2 : W.cell? ⟨bp, 0, none⟩ = some (.string ⟨#[c]⟩) := (hW.cell (p := ⟨bp, 0, none⟩) hbp).trans h2
  have c3 : W.cell? ⟨bv, 0, none⟩ = some (.int .i64 0) := (hW.cell (p := ⟨bv, 0, none⟩) hbv).trans h3
  have hWs := hW.size
  have HJ := Lib.hid hJ
  have HY := Lib.hid hY
  have HJX := Lib.hid hJx
  have H0 := Lib.hid h0
  obtain ⟨L, HL⟩ := hid_ex (splitGo c [] s.data.toList)
  rw [HL.out] at HY
  rw [HL.out]
  clear h1 hf h2 h3 hJ hJx hY h0 hW
  have hkeep : ∀ A B : World, But (fun k => R k ∨ k = l) A B → W.heap.size ≤ A.heap.size → ∀ k, (k = bs ∨ k = bp ∨ k = bv) → B.heap[k]? = A.heap[k]? := fun A B hB hs k hk => by
    refine (hB.both k (by rcases hk with rfl | rfl | rfl <;> omega) ?_).1
    rintro (e | e)
    · rcases hk with rfl | rfl | rfl
      · exact hn1 e
      · exact hn2 e
      · exact hn3 e
    · rcases hk with rfl | rfl | rfl <;> omega
  have HK := Lib.hid hkeep
  clear hkeep
  refine callsIn_of_wp Tryz.func124 rfl trivial ?_ rfl
  simp only [Tryz.ntmps124, List.size_toArray, List.length_cons, List.length_nil, Nat.reduceAdd, Nat.reduceSub, Array.replicate_succ, Array.replicate_zero, List.push_toArray, List.append_toArray, List.nil_append, List.cons_append]
  gi_wp2_with fail
  gi_loopw [7] (fun v7 wr => ∃ (pre : List Sp.Bs) (r : ByteArray), Hid (J pre wr) ∧ r.size ≤ 1000000 ∧ W.heap.size ≤ wr.heap.size ∧ wr.cell? ⟨bs, 0, none⟩ = some (.string r) ∧ wr.frozen? ⟨bs, 0, none⟩ = false ∧ wr.cell? ⟨bp, 0, none⟩ = some (.string ⟨#[c]⟩) ∧ wr.cell? ⟨bv, 0, none⟩ = some (.int .i64 0) ∧ Hid (L = pre ++ splitGo c [] r.data.toList)) (fun v7 wr => boxSize bs wr)
  case atStart =>
    exact ⟨[], s, H0, hs, Nat.le_refl _, c1, f1, c2, c3, by show _ = _; rw [← HL.out]; rfl⟩
  case round =>
    clear c1 f1 c2 c3 H0
    obtain ⟨pre, r, HP, hrs, hwr, c1, f1, c2, c3, HX⟩ := hrel
    have HI := Tryz.strings_Index_one r c
    have hge := Lib.indexByte_ge r.data.toList c
    by_cases hm : Lib.indexByte r.data.toList c = -1
    · have hnone := Lib.indexByte_none hm
      rw [hm] at HI
      have HN : Hid (L = pre ++ [r.data.toList]) := by
        show _ = _
        rw [HX.out, splitGo_none _ _ _ hnone]
        rfl
      have HI' := Lib.hid HI
      have hy0 := HY.out pre r.data.toList wr HP.out hwr (by rw [← HN.out]; exact List.prefix_refl _)
      obtain ⟨fn, tmps, assign, body, hy, hR⟩ := hy0
      rw [bytes_self] at hy
      have HRR := Lib.hid hR
      clear HI hR hge hm hnone HX
      gi_wp2_with fail
      refine ⟨trivial, fun h => by simp [Fence.wide] at h, (callsIn_wide.2 (HI'.out wr)).mono ?_⟩
      rintro e w' ⟨rfl, rfl⟩
      gi_wp2_with fail
      refine ⟨fun h => by simp [Fence.wide] at h, HRR.out.mono ?_⟩
      rintro e W2 ⟨hb2, (⟨rfl, hJ2⟩ | ⟨rfl, hJ2⟩)⟩
      · have hsz := hb2.size
        clear HRR hy
        gi_wp2_with fail
        go_end0
        exact ⟨⟨_, rfl⟩, by omega, Or.inl ⟨_, HN.out.symm, hJ2⟩⟩
      · have hsz := hb2.size
        clear HRR hy
        gi_wp2_with fail
        go_end0
        exact ⟨⟨_, rfl⟩, by omega, Or.inr ⟨_, hJ2⟩⟩
    · obtain ⟨i, hi⟩ : ∃ i : Nat, Lib.indexByte r.data.toList c = (i : Int) := ⟨(Lib.indexByte r.data.toList c).toNat, by omega⟩
      obtain ⟨hi1, hi2⟩ := Lib.indexByte_some hi
      have hlt : i < r.size := by rw [← size_list]; exact (List.getElem?_eq_some_iff.1 hi1).1
      obtain ⟨x, HXB⟩ := hid_ex (r.extract 0 i)
      obtain ⟨r', HRB⟩ := hid_ex (r.extract (i + 1) r.size)
      have hxl : x.data.toList = r.data.toList.take i := by rw [← HXB.out, extract_front]
      have hrl' : r'.data.toList = r.data.toList.drop (i + 1) := by rw [← HRB.out]; exact Lib.extract_to_end r (i + 1)
      have hrz' : r'.size < r.size := by rw [← HRB.out]; simp [ByteArray.size_extract]; omega
      have HN : Hid (L = (pre ++ [x.data.toList]) ++ splitGo c [] r'.data.toList) := by
        show _ = _
        rw [HX.out, splitGo_some c i _ _ hi1 hi2, hxl, hrl']
        simp
      rw [hi] at HI
      have HI' := Lib.hid HI
      have hy0 := HY.out pre x.data.toList wr HP.out hwr ⟨_, HN.out.symm⟩
      obtain ⟨fn, tmps, assign, body, hy, hR⟩ := hy0
      rw [bytes_self] at hy
      have HRR := Lib.hid hR
      have hs1 : ∀ w, (Instr.slice 9 (.string r) none (some (.int .i64 (i : Int))) none).run Tryz.prog w = .ok (.string x) w := by
        intro w
        have h := run_slice_string_h w 9 r Tryz.underlying9 .i64 (i : Int) (by omega) (by omega)
        rw [Int.toNat_natCast, HXB.out] at h
        exact h
      have hs2 : ∀ w, (Instr.slice 9 (.string r) (some (.int .i64 ((i : Int) + 1))) none none).run Tryz.prog w = .ok (.string r') w := by
        intro w
        have h := run_slice_string_l w 9 r Tryz.underlying9 .i64 ((i : Int) + 1) (by omega) (by omega)
        rw [show ((i : Int) + 1).toNat = i + 1 by omega, HRB.out] at h
        exact h
      have hw0 : IntKind.i64.wrap (i : Int) = (i : Int) := IntWalk.i64_in _ (by omega)
      have hw1 : IntKind.i64.wrap ((i : Int) + 1) = (i : Int) + 1 := IntWalk.i64_in _ (by omega)
      have hneg : ¬ (i : Int) < 0 := by omega
      have hrs' : r'.size ≤ 1000000 := by omega
      have c0 := c1
      clear HI hR hge hm hi1 hi2 HX HXB HRB hxl hrl' hi
      gi_wp2_with fail
      refine ⟨trivial, fun h => by simp [Fence.wide] at h, (callsIn_wide.2 (HI'.out wr)).mono ?_⟩
      rintro e w' ⟨rfl, rfl⟩
      gi_wp2_with fail
      refine ⟨fun h => by simp [Fence.wide] at h, HRR.out.mono ?_⟩
      rintro e W2 ⟨hb2, (⟨rfl, hJ2⟩ | ⟨rfl, hJ2⟩)⟩
      · clear HRR hy
        have hsz := hb2.size
        have b1 := HK.out _ _ hb2 hwr bs (Or.inl rfl)
        have b2 := HK.out _ _ hb2 hwr bp (Or.inr (Or.inl rfl))
        have b3 := HK.out _ _ hb2 hwr bv (Or.inr (Or.inr rfl))
        replace c1 := (World.cell?_of_block (a := ⟨bs, 0, none⟩) b1).trans c1
        replace f1 := (World.frozen?_of_block (a := ⟨bs, 0, none⟩) b1).trans f1
        replace c2 := (World.cell?_of_block (a := ⟨bp, 0, none⟩) b2).trans c2
        replace c3 := (World.cell?_of_block (a := ⟨bv, 0, none⟩) b3).trans c3
        have hJ3 := Lib.hid (HJ.out _ _ (W2.setCell ⟨bs, 0, none⟩ (.string r')) hJ2 (But.setCell (p := fun k => k = bs) (Chg.refl _ W2) (x := ⟨bs, 0, none⟩) (fun _ => rfl) _) (by omega))
        have d1 : (W2.setCell ⟨bs, 0, none⟩ (.string r')).cell? ⟨bs, 0, none⟩ = some (.string r') := World.cell?_setCell_same _ _ _ c1
        have d2 : (W2.setCell ⟨bs, 0, none⟩ (.string r')).cell? ⟨bp, 0, none⟩ = some (.string ⟨#[c]⟩) := (World.cell?_setCell_other _ _ _ _ (by simp [hd1])).trans c2
        have d3 : (W2.setCell ⟨bs, 0, none⟩ (.string r')).cell? ⟨bv, 0, none⟩ = some (.int .i64 0) := (World.cell?_setCell_other _ _ _ _ (by simp [hd2])).trans c3
        have d4 : W.heap.size ≤ (W2.setCell ⟨bs, 0, none⟩ (.string r')).heap.size := by simp [World.setCell]; omega
        have hm1 : boxSize bs (W2.setCell ⟨bs, 0, none⟩ (.string r')) < boxSize bs w' := by
          unfold boxSize
          rw [d1, c0]
          exact hrz'
        clear b1 b2 b3 hJ2 hb2
        gi_wp2_with fail
        exact ⟨⟨_, r', hJ3, hrs', d4, d1, by rw [World.frozen?_setCell]; exact f1, d2, d3, HN⟩, hm1⟩
      · have hsz := hb2.size
        clear HRR hy
        gi_wp2_with fail
        refine bodyPost_ret (results_none rfl _ _ _) rfl ?_
        exact ⟨⟨_, rfl⟩, by omega, Or.inr ⟨_, hJ2⟩⟩

theorem splitSeq_is (c : UInt8) (n : Nat) (s : ByteArray) (w : World) : CallsIn Fence.wide n Tryz.prog 102 #[.string s, .string ⟨#[c]⟩] w fun e w' =>
    e = .returned (.func (.func 124) #[] #[.pointer (some ⟨w.heap.size + 1, 0, none⟩), .pointer (some ⟨w.heap.size, 0, none⟩), .pointer (some ⟨w.heap.size + 2, 0, none⟩)]) ∧
    w' = ((w.alloc (.cells #[.string s] 9)).alloc (.cells #[.string ⟨#[c]⟩] 9)).alloc (.cells #[.int .i64 0] 3) := by
  refine callsIn_wide.2 ?_
  have hmf : ∀ (fn : Fn) (first cap : Array Value) (w : World), (Instr.makeFunc fn first cap).run Tryz.prog w = .ok (.func fn first cap) w := fun _ _ _ _ => rfl
  go_enter Tryz.func102, Tryz.ntmps102
  go_wp2
  go_ret
  exact ⟨rfl, rfl⟩

theorem names_pre {L q : List Sp.Bs} {x : Sp.Bs} (h : q ++ [x] <+: L) (hx : Sp.nm x = false) : L.all Sp.nm = false := by
  obtain ⟨r, rfl⟩ := h
  simp [hx]
theorem splitGo_size (c : UInt8) : ∀ (l cur : Sp.Bs) (x : Sp.Bs), x ∈ splitGo c cur l → x.length ≤ cur.length + l.length
  | [], cur, x, h => by
    simp [splitGo] at h
    subst h; simp
  | y :: l, cur, x, h => by
    rw [splitGo] at h
    split at h
    · rcases List.mem_cons.1 h with rfl | h
      · omega
      · have := splitGo_size c l [] x h
        simp at this ⊢
        omega
    · have := splitGo_size c l (cur ++ [y]) x h
      simp at this ⊢
      omega

set_option maxHeartbeats 8000000 in
set_option maxRecDepth 100000 in
theorem names_any (s : ByteArray) (w : World) (hs : s.size ≤ 1000000) : Calls Tryz.prog 73 #[.string s] w fun e w' => e = .returned (.bool (sNames s.data.toList)) ∧ Below w.heap.size w w' := by
  refine (callsIn_wide (n := 3)).1 ?_
  have hd : Fence.wide.depth = none := rfl
  have hro : Fence.wide.round = none := rfl
  have hsz : ∀ x, x ∈ splitGo 32 [] s.data.toList → x.length ≤ 1000000 := fun x hx => by
    have := splitGo_size 32 s.data.toList [] x hx
    rw [size_list] at this
    simp at this
    omega
  have HSZ := Lib.hid hsz
  have hnames : sNames s.data.toList = (splitGo 32 [] s.data.toList).all Sp.nm := rfl
  have HNM := Lib.hid hnames
  clear hsz hnames
  obtain ⟨B, HB⟩ := hid_ex (sNames s.data.toList)
  rw [HB.out]
  refine callsIn_of_wp_marks Tryz.func73 rfl trivial ?_ hro
  simp only [Tryz.ntmps73, List.size_toArray, List.length_cons, List.length_nil, Nat.reduceAdd, Nat.reduceSub, Array.replicate_succ, Array.replicate_zero, List.push_toArray, List.append_toArray, List.nil_append, List.cons_append]
  gi_wp2_with fail
  refine ⟨trivial, (splitSeq_is 32 _ s _).mono ?_⟩
  rintro e w' ⟨rfl, rfl⟩
  gi_wp2_with fail
  obtain ⟨W, hW⟩ : ∃ W, W = (((w.alloc (.cells #[.bool false] 4)).alloc (.cells #[.string s] 9)).alloc (.cells #[.string ⟨#[32]⟩] 9)).alloc (.cells #[.int .i64 0] 3) := ⟨_, rfl⟩
  have hbW : Below w.heap.size w W := by rw [hW]; exact ((((Below.refl _ w).alloc (Nat.le_refl _) _).alloc (by simp) _).alloc (by simp; omega) _).alloc (by simp; omega) _
  have hsW : W.heap.size = w.heap.size + 4 := by rw [hW]; simp
  have q0 : W.cell? ⟨w.heap.size, 0, none⟩ = some (.bool false) := by
    rw [hW, World.cell?_alloc_past _ _ _ (by simp; omega), World.cell?_alloc_past _ _ _ (by simp; omega), World.cell?_alloc_past _ _ _ (by simp), World.cell?_alloc_at _ _ _ _ rfl]; rfl
  have q0f : W.frozen? ⟨w.heap.size, 0, none⟩ = false := by rw [hW]; simp [go_sem]
  have q1 : W.cell? ⟨w.heap.size + 1, 0, none⟩ = some (.string s) := by
    rw [hW, World.cell?_alloc_past _ _ _ (by simp), World.cell?_alloc_past _ _ _ (by simp), World.cell?_alloc_at _ _ _ _ (by simp)]; rfl
  have q1f : W.frozen? ⟨w.heap.size + 1, 0, none⟩ = false := by rw [hW]; simp [go_sem]
  have q2 : W.cell? ⟨w.heap.size + 1 + 1, 0, none⟩ = some (.string ⟨#[32]⟩) := by
    rw [hW, World.cell?_alloc_past _ _ _ (by simp), World.cell?_alloc_at _ _ _ _ (by simp)]
    rfl
  have q3 : W.cell? ⟨w.heap.size + 1 + 2, 0, none⟩ = some (.int .i64 0) := by
    rw [hW, World.cell?_alloc_at _ _ _ _ (by simp)]
    rfl
  have hg := split_gives 32 (3 - 1) (w.heap.size + 1) (w.heap.size + 1 + 1) (w.heap.size + 1 + 2) s hs (by omega) (by omega) (fun k => k = w.heap.size) W (by omega) (by omega) (by omega) q1 q1f q2 q3
  have HG := Lib.hid hg
  rw [show ((((w.alloc (.cells #[.bool false] 4)).alloc (.cells #[.string s] 9)).alloc (.cells #[.string ⟨#[32]⟩] 9)).alloc (.cells #[.int .i64 0] 3)) = W from hW.symm]
  clear hW hg
  refine wpIn_rangeFunc_S hro (depthless hd _) (gf := 124) (lb := #[.pointer (some ⟨w.heap.size + 1 + 1, 0, none⟩), .pointer (some ⟨w.heap.size + 1, 0, none⟩), .pointer (some ⟨w.heap.size + 1 + 2, 0, none⟩)]) rfl trivial (enters_of Tryz.func124 (by kernel_rfl) rfl)
    (R := fun k => k = w.heap.size) (own := fun k => k = w.heap.size + 1) (fun k e => by omega) (fun k e => by omega) HG.out (fun _ => rfl)
    (fun q A => (∀ x ∈ q, Sp.nm x = true) ∧ A.cell? ⟨w.heap.size, 0, none⟩ = some (.bool false) ∧ A.frozen? ⟨w.heap.size, 0, none⟩ = false)
    (fun c q A => c = .ret ∧ B = false ∧ A.cell? ⟨w.heap.size, 0, none⟩ = some (.bool false))
    (fun q A X ⟨u0, u1, u2⟩ hX hs => by
      have h1 := (hX.both w.heap.size (by omega) (by omega)).1
      exact ⟨u0, (World.cell?_of_block (a := ⟨w.heap.size, 0, none⟩) h1).trans u1, (World.frozen?_of_block (a := ⟨w.heap.size, 0, none⟩) h1).trans u2⟩)
    (fun c q A X ⟨u0, u1, u2⟩ hX hs => ⟨u0, u1, (World.cell?_of_block (a := ⟨w.heap.size, 0, none⟩) ((hX.both w.heap.size (by omega) (by omega)).1)).trans u2⟩)
    ⟨fun x hx => (by cases hx), q0, q0f⟩
    (fun x => { tmps := #[.string s, undef, .pointer (some ⟨w.heap.size, 0, none⟩), .string ⟨x.toArray⟩, .string s, .func (.func 124) #[] #[.pointer (some ⟨w.heap.size + 1 + 1, 0, none⟩), .pointer (some ⟨w.heap.size + 1, 0, none⟩), .pointer (some ⟨w.heap.size + 1 + 2, 0, none⟩)], .string ⟨x.toArray⟩, undef, undef, undef], defers := [] })
    ?assign ?body ?done ?stop
  case assign =>
    intro l x W K hK
    gi_wp2
    exact hK
  case body =>
    rintro l2 q x A ⟨u0, u1, u2⟩ hS hsz
    have hxl := HSZ.out x (hS.subset (by simp))
    have hcall := CallsIn.inRound l2 (show CallsIn Fence.wide (3 - 1 - 1 - 1) Tryz.prog 60 _ A _ from callsIn_wide.2 (name_any ⟨x.toArray⟩ A (by rw [← size_list]; simpa using hxl)))
    simp only [List.toList_toArray] at hcall
    cases hx : Sp.nm x with
    | true =>
      rw [hx] at hcall
      have HX : Hid (∀ A2, Below A.heap.size A A2 → But (fun k => k = w.heap.size) A A2 ∧ ((∀ y ∈ q ++ [x], Sp.nm y = true) ∧ A2.cell? ⟨w.heap.size, 0, none⟩ = some (.bool false) ∧ A2.frozen? ⟨w.heap.size, 0, none⟩ = false)) := fun A2 hA2 =>
        ⟨But.of_below (Chg.refl _ A) hA2 (Nat.le_refl _), fun y hy => by
          rcases List.mem_append.1 hy with hy | hy
          · exact u0 y hy
          · simp at hy; rw [hy]; exact hx, (hA2.cell (p := ⟨w.heap.size, 0, none⟩) (by show w.heap.size < _; omega)).trans u1, (hA2.frozen (p := ⟨w.heap.size, 0, none⟩) (by show w.heap.size < _; omega)).trans u2⟩
      clear u0 u1 u2 hS hx hxl q0 q0f q1 q1f q2 q3
      gi_wp2_with ((try refine ⟨trivial, ?_⟩); refine hcall.mono ?_; clear hcall; rintro e A2 ⟨rfl, hA2⟩)
      exact HX.out A2 hA2
    | false =>
      rw [hx] at hcall
      have HBF : Hid (B = false) := by
        show _ = _
        rw [← HB.out, HNM.out]
        exact names_pre hS hx
      have HX : Hid (∀ A2, Below A.heap.size A A2 → But (fun k => k = w.heap.size) A (A2.setCell ⟨w.heap.size, 0, none⟩ (.bool false)) ∧ A2.cell? ⟨w.heap.size, 0, none⟩ = some (.bool false) ∧ A2.frozen? ⟨w.heap.size, 0, none⟩ = false) := fun A2 hA2 =>
        ⟨But.setCell (p := fun k => k = w.heap.size) (But.of_below (Chg.refl _ A) hA2 (Nat.le_refl _)) (x := ⟨w.heap.size, 0, none⟩) (fun _ => rfl) _, (hA2.cell (p := ⟨w.heap.size, 0, none⟩) (by show w.heap.size < _; omega)).trans u1, (hA2.frozen (p := ⟨w.heap.size, 0, none⟩) (by show w.heap.size < _; omega)).trans u2⟩
      clear u0 u1 u2 hS hx hxl q0 q0f q1 q1f q2 q3
      gi_wp2_with ((try refine ⟨trivial, ?_⟩); refine hcall.mono ?_; clear hcall; rintro e A2 ⟨rfl, hA2⟩; obtain ⟨v1, v2, v3⟩ := HX.out A2 hA2)
      exact ⟨v1, rfl, HBF.out, World.cell?_setCell_same' _ _ _ (by rw [v2]; rfl)⟩
  case done =>
    rintro xs A rfl ⟨u0, u1, u2⟩ hcA hK
    have HBT : Hid (B = true) := by
      show _ = _
      rw [← HB.out, HNM.out]
      exact List.all_eq_true.2 u0
    have hA := hcA.size
    have hbA : Below w.heap.size w A := hbW.trans (hcA.below (by omega) (fun k hk e => by omega))
    have HY : Hid (∀ X, X = (A.setCell ⟨w.heap.size, 0, none⟩ (.bool true)).putObj W.heap.size (.deferred none) → Below w.heap.size w X ∧ X.cell? ⟨w.heap.size, 0, none⟩ = some (.bool true)) := fun X hX => by
      subst hX
      refine ⟨hbA.trans (((Below.refl _ A).setCell (p := ⟨w.heap.size, 0, none⟩) (Nat.le_refl _) _).trans (below_putObj (B := w.heap.size) _ (by omega) _)), ?_⟩
      rw [World.cell?_of_block (w := A.setCell ⟨w.heap.size, 0, none⟩ (.bool true)) (World.putObj_heap_other (by show w.heap.size ≠ _; omega))]
      exact World.cell?_setCell_same' _ _ _ (by rw [u1]; rfl)
    have hK2 : (A.setCell ⟨w.heap.size, 0, none⟩ (.bool true)).heap[W.heap.size]? = some (.deferred (some [])) := (Below.heap_setCell A ⟨w.heap.size, 0, none⟩ _ W.heap.size (by simp; omega)).trans hK
    clear u0 q0 q0f q1 q1f q2 q3 hK hcA hbA
    gi_wp2
    refine ⟨by simp, .inl ⟨_, _, rfl, run_takeDeferred hK2, ?_⟩⟩
    obtain ⟨z1, z2⟩ := HY.out _ rfl
    exact ⟨_, results_bool rfl _ _ w.heap.size true rfl z2, by rw [HBT.out], z1⟩
  case stop =>
    rintro c q A ⟨rfl, hBf, u3⟩ hcA hK
    have hA := hcA.size
    have hbA : Below w.heap.size w A := hbW.trans (hcA.below (by omega) (fun k hk e => by omega))
    have HBF := Lib.hid hBf
    clear hBf
    have HY : Hid (∀ X, X = A.putObj W.heap.size (.deferred none) → Below w.heap.size w X ∧ X.cell? ⟨w.heap.size, 0, none⟩ = some (.bool false)) := fun X hX => by
      subst hX
      refine ⟨hbA.trans (below_putObj _ (by omega) _), ?_⟩
      rw [World.cell?_of_block (w := A) (World.putObj_heap_other (by show w.heap.size ≠ _; omega))]
      exact u3
    clear u3 q0 q0f q1 q1f q2 q3 hcA hbA
    gi_wp2
    refine ⟨by simp, .inl ⟨_, _, rfl, run_takeDeferred hK, ?_⟩⟩
    obtain ⟨z1, z2⟩ := HY.out _ rfl
    exact ⟨_, results_bool rfl _ _ w.heap.size false rfl z2, by rw [HBF.out], z1⟩
theorem text_names (w : World) : IsText sNames (.func (.func 73) #[] #[]) w := text_of w (enters_of Tryz.func73 (by kernel_rfl) rfl) names_any
end Go.Proofs.YtkmmcphiijolkaaGreatDoor

set_option linter.unusedVariables false
set_option linter.unusedSimpArgs false
namespace Go.Proofs.YtkmmcphiijolkaaGreatDoor
open Go.RowKit Go.Shelf
open Tr

/-- Tests that are values, each what it says. -/
def Bag (w : World) (E : List (Value × Test)) : Prop := ∀ p ∈ E, IsTest All2 p.2 p.1 w
/-- Block b is a map of tests: what L says. -/
def MapL (w : World) (b : Nat) (L : List (Int × Test)) : Prop := ∃ g n, MapI w b n g ∧ n ≤ L.length ∧ ∀ x, (Tr.look L x = none → g x = none) ∧ ∀ T, Tr.look L x = some T → ∃ v, g x = some v ∧ IsTest All2 T v w
theorem MapL.kept {w w' : World} {b : Nat} {L : List (Int × Test)} (h : MapL w b L) (hb : Below w.heap.size w w') : MapL w' b L := by
  obtain ⟨g, n, hm, hn, hx⟩ := h
  refine ⟨g, n, hm.below hb hm.lt, hn, fun x => ⟨(hx x).1, fun T hT => ?_⟩⟩
  obtain ⟨v, hv, ht⟩ := (hx x).2 T hT
  exact ⟨v, hv, ht.kept (Kept.of_below hb)⟩
structure Kst (w0 w : World) (b : Nat) (L : List (Int × Test)) (E : List (Value × Test)) : Prop where
  below : Below w0.heap.size w0 w
  bag : Bag w E
  hb : w0.heap.size ≤ b
  map : L = [] ∨ MapL w b L
theorem Kst.step {w0 w w' : World} {b : Nat} {L : List (Int × Test)} {E : List (Value × Test)} (h : Kst w0 w b L E) (hb : Below w.heap.size w w') : Kst w0 w' b L E :=
  ⟨h.below.trans (hb.mono h.below.size), fun p hp => (h.bag p hp).kept (Kept.of_below hb), h.hb, h.map.imp id fun h => h.kept hb⟩
theorem Kst.put {w0 w : World} {b : Nat} {L : List (Int × Test)} {E : List (Value × Test)} (h : Kst w0 w b L E) {v : Value} {T : Test} (ht : IsTest All2 T v w) : Kst w0 w b L ((v, T) :: E) :=
  ⟨h.below, fun p hp => by
    rcases List.mem_cons.1 hp with rfl | hp
    · exact ht
    · exact h.bag p hp, h.hb, h.map⟩
theorem MapL.kept_map {w w' : World} {b n : Nat} {g : Int → Option Value} (h : MapI w b n g) (hg : w.grownBy w' (some b)) : Kept w w' := by
  obtain ⟨D, ⟨es, ck, hb, _⟩, _⟩ := h
  exact Kept.grown hg (fun cs t fr e => by rw [hb] at e; cases e)
theorem Kst.ins {w0 w w' : World} {b n : Nat} {L : List (Int × Test)} {E : List (Value × Test)} {k : Int} {v : Value} {T : Test} {g : Int → Option Value} (h : Kst w0 w b L E) (ht : IsTest All2 T v w)
    (hm0 : MapI w b n g) (hn : n ≤ L.length) (hx : ∀ x, (Tr.look L x = none → g x = none) ∧ ∀ T, Tr.look L x = some T → ∃ v, g x = some v ∧ IsTest All2 T v w)
    (hm : MapI w' b (n + 1) (fun y => if y = k then some v else g y)) (hg : w.grownBy w' (some b)) : Kst w0 w' b ((k, T) :: L) E := by
  have hkp := MapL.kept_map hm0 hg
  refine ⟨h.below.grown hg h.below.size (fun j e => by cases e; exact h.hb), fun p hp => (h.bag p hp).kept hkp, h.hb, Or.inr ⟨_, _, hm, by simp; omega, fun x => ?_⟩⟩
  simp only [Tr.look]
  by_cases e : x = k
  · simp only [if_pos e]
    exact ⟨fun h => by (cases h), fun T' hT => ⟨v, rfl, by cases hT; exact ht.kept hkp⟩⟩
  · simp only [if_neg e]
    refine ⟨(hx x).1, fun T' hT => ?_⟩
    obtain ⟨v', hv, ht'⟩ := (hx x).2 T' hT
    exact ⟨v', hv, ht'.kept hkp⟩
/-- The map made new. -/
theorem Kst.made {w0 w : World} {b : Nat} {E : List (Value × Test)} (h : Kst w0 w b [] E) : Kst w0 (w.alloc (.map #[] 0)) w.heap.size [] E := by
  have hb := (Below.refl w.heap.size w).alloc (Nat.le_refl _) (.map #[] 0)
  exact ⟨h.below.trans (hb.mono h.below.size), fun p hp => (h.bag p hp).kept (Kept.of_below hb), h.below.size, Or.inr ⟨_, _, MapI.made w, Nat.le_refl _, fun x => ⟨fun _ => rfl, fun T hT => by simp [Tr.look] at hT⟩⟩⟩

set_option maxRecDepth 100000 in
theorem upon_ins {w0 w : World} {b n : Nat} {L : List (Int × Test)} {E : List (Value × Test)} {o : Oper} {a : Act} {X : Act → World → Prop} {Q : Exit → Act → World → Prop} {F : Unit → World → Result Next} {t e : TypeId} {k : Int} {val : Value} (EB : List (Value × Test)) (HS : Hid (Kst w0 w b L E)) (hne : Hid (L ≠ [] ∧ L.length = n)) (hn : n < 1000)
    (hsub : ∀ p ∈ EB, p ∈ E) (ht : Tryz.prog.underlying t = some (.map 3 e)) (hwf : (Lit.int .i64 k).wf = true) (T : Test) (hT : (val, T) ∈ E)
    (hK : ∀ w' L', Hid (L' = (k, T) :: L) → Hid (Kst w0 w' b L' EB) → Hid (L' ≠ [] ∧ L'.length = n + 1) → Oper.upon Tryz.prog o a X Q (F () w')) : Oper.upon Tryz.prog o a X Q ((Sem.run Tryz.prog (Instr.mapUpdate t (.map (some b)) (.int .i64 k) val) w).andThen F) := by
  obtain ⟨g, m, hm0, hm, hgx⟩ := HS.out.map.elim (fun e => absurd e hne.out.1) id
  have hn2 : m < 1000000000 := by have := hne.out.2; omega
  obtain ⟨w', hrun, r1, r2⟩ := hm0.put hn2 t e ht k hwf val
  have h1 := HS.out.ins (HS.out.bag _ hT) hm0 hm hgx r1 r2
  have h2 := hK w' _ rfl ⟨h1.below, fun p hp => h1.bag p (hsub p hp), h1.hb, h1.map⟩ ⟨by simp, by simp [hne.out.2]⟩
  rw [hrun]
  exact h2
set_option maxRecDepth 100000 in
theorem upon_ins0 {w0 w : World} {b : Nat} {E : List (Value × Test)} {o : Oper} {a : Act} {X : Act → World → Prop} {Q : Exit → Act → World → Prop} {F : Unit → World → Result Next} {t e : TypeId} {k : Int} {val : Value} (HS : Hid (Kst w0 w b [] E))
    (ht : Tryz.prog.underlying t = some (.map 3 e)) (hwf : (Lit.int .i64 k).wf = true) (T : Test) (hT : (val, T) ∈ E)
    (hK : ∀ w' L', Hid (L' = [(k, T)]) → Hid (Kst w0 w' w.heap.size L' E) → Hid (L' ≠ [] ∧ L'.length = 1) → Oper.upon Tryz.prog o a X Q (F () w')) : Oper.upon Tryz.prog o a X Q ((Sem.run Tryz.prog (Instr.mapUpdate t (.map (some w.heap.size)) (.int .i64 k) val) (w.alloc (.map #[] 0))).andThen F) := by
  obtain ⟨w', hrun, r1, r2⟩ := (MapI.made w).put (by decide) t e ht k hwf val
  have h0 := HS.out.made
  have h1 := h0.ins (L := []) (T := T) (h0.bag _ hT) (MapI.made w) (Nat.le_refl _) (fun x => ⟨fun _ => rfl, fun T hT => by simp [Tr.look] at hT⟩) r1 r2
  have h2 := hK w' _ rfl h1 ⟨by simp, rfl⟩
  rw [hrun]
  exact h2
theorem look_rev {α : Type} : ∀ (L : List (Int × α)) (M : List (Int × α)) (x : Int), (L.map (·.1)).Nodup → (∀ p ∈ L, ∀ q ∈ M, p.1 ≠ q.1) → Tr.look (L.reverse ++ M) x = match Tr.look L x with
    | some a => some a
    | none => Tr.look M x
  | [], M, x, _, _ => rfl
  | (k, a) :: L, M, x, hn, hd => by
    simp only [List.map_cons, List.nodup_cons] at hn
    rw [List.reverse_cons, List.append_assoc, List.singleton_append, look_rev L ((k, a) :: M) x hn.2 (fun p hp q hq => by
      rcases List.mem_cons.1 hq with rfl | hq
      · intro e; exact hn.1 (List.mem_map.2 ⟨p, hp, e⟩)
      · exact hd p (by simp [hp]) q hq)]
    simp only [Tr.look]
    by_cases hx : x = k
    · subst hx
      have : Tr.look L x = none := by
        have h1 := hn.1
        clear hd hn
        induction L with
        | nil => rfl
        | cons p L ih =>
          obtain ⟨y, c⟩ := p
          simp only [List.map_cons, List.mem_cons, not_or] at h1
          simp only [Tr.look, if_neg h1.1]
          exact ih h1.2
      simp [this]
    · simp [hx]
theorem Kst.rev {w0 w : World} {b : Nat} {L : List (Int × Test)} {E : List (Value × Test)} (h : Kst w0 w b L.reverse E) (hn : (L.map (·.1)).Nodup) : Kst w0 w b L E := by
  refine ⟨h.below, h.bag, h.hb, h.map.imp (fun e => by simpa using e) ?_⟩
  rintro ⟨g, n, hm, hnl, hx⟩
  refine ⟨g, n, hm, by simpa using hnl, fun x => ?_⟩
  have h1 := look_rev L [] x hn (fun p _ q hq => by cases hq)
  rw [List.append_nil] at h1
  have h2 : Tr.look L.reverse x = Tr.look L x := by
    rw [h1]
    cases Tr.look L x <;> rfl
  rw [← h2]
  exact hx x
/-- The list of operations, a stretch at a time. -/
theorem wpList_split (n : Nat) {P : Program} {ops : Array Oper} {Q : Exit → Act → World → Prop} {l : List Oper} {a : Act} {w : World} (h : ∀ rest, Hid (rest = l.drop n) → wpList P ops Q (l.take n ++ rest) a w) : wpList P ops Q l a w := by
  have := h _ rfl
  rwa [List.take_append_drop] at this
theorem wpList_gen {P : Program} {ops : Array Oper} {Q : Exit → Act → World → Prop} {l : List Oper} {a : Act} {w : World} (h : ∀ ops, wpList P ops Q l a w) : wpList P ops Q l a w := h ops
theorem Kst.gen14 {w0 w : World} {b : Nat} {L : List (Int × Test)} {p1 p2 p3 p4 p5 p6 p7 p8 p9 p10 p11 p12 p13 p14 : Value × Test} (h : Hid (Kst w0 w b L [p1, p2, p3, p4, p5, p6, p7, p8, p9, p10, p11, p12, p13, p14])) :
    ∃ EB, Hid (Kst w0 w b L EB) ∧ Hid (p1 ∈ EB) ∧ Hid (p2 ∈ EB) ∧ Hid (p3 ∈ EB) ∧ Hid (p4 ∈ EB) ∧ Hid (p5 ∈ EB) ∧ Hid (p6 ∈ EB) ∧ Hid (p7 ∈ EB) ∧ Hid (p8 ∈ EB) ∧ Hid (p9 ∈ EB) ∧ Hid (p10 ∈ EB) ∧ Hid (p11 ∈ EB) ∧ Hid (p12 ∈ EB) ∧ Hid (p13 ∈ EB) ∧ Hid (p14 ∈ EB) :=
  ⟨_, h, (show _ ∈ _ by simp), (show _ ∈ _ by simp), (show _ ∈ _ by simp), (show _ ∈ _ by simp), (show _ ∈ _ by simp), (show _ ∈ _ by simp), (show _ ∈ _ by simp), (show _ ∈ _ by simp), (show _ ∈ _ by simp), (show _ ∈ _ by simp), (show _ ∈ _ by simp), (show _ ∈ _ by simp), (show _ ∈ _ by simp), (show _ ∈ _ by simp)⟩

/-- Guards: by 'with_reducible refine' they fit that operation alone. -/
theorem at_of_ (kt n : Nat) {p : Option Addr} {c : Nat} {w : World} {R : Ending → World → Prop} (h : Calls Tryz.prog 52 #[.func (.func kt) #[] #[], .slice p n c] w R) : Calls Tryz.prog 52 #[.func (.func kt) #[] #[], .slice p n c] w R := h
theorem at_both_ (kt : Nat) {v : Value} {w : World} {R : Ending → World → Prop} (h : Calls Tryz.prog 61 #[v, .func (.func kt) #[] #[]] w R) : Calls Tryz.prog 61 #[v, .func (.func kt) #[] #[]] w R := h
set_option maxHeartbeats 2000000 in
theorem one_k {w0 w : World} {b : Nat} {L : List (Int × Test)} {E : List (Value × Test)} (HS : Hid (Kst w0 w b L E)) (k : Nat) (c : Array Value) : Calls Tryz.prog 54 #[.func (.func k) #[] c] w fun e w' => e = .returned (.agg #[.func (.func k) #[] c, .int .i64 1, .int .i64 1]) ∧ Hid (Kst w0 w' b L E) := by
  go_enter Tryz.func54, Tryz.ntmps54
  go_wp2_with fail
  refine bodyPost_ret (results_cell_row rfl _ _ w.heap.size 90 #[.func (.func k) #[] c, .int .i64 1, .int .i64 1] (0, 0) _ rfl (heap_alloc_new w _) Tryz.underlying90 rfl infoPart) rfl ?_
  exact ⟨rfl, HS.out.step ((Below.refl _ _).alloc (Nat.le_refl _) _)⟩
set_option maxHeartbeats 2000000 in
theorem perhaps_k {w0 w : World} {b : Nat} {L : List (Int × Test)} {E : List (Value × Test)} (HS : Hid (Kst w0 w b L E)) (k : Nat) (c : Array Value) : Calls Tryz.prog 66 #[.func (.func k) #[] c] w fun e w' => e = .returned (.agg #[.func (.func k) #[] c, .int .i64 0, .int .i64 1]) ∧ Hid (Kst w0 w' b L E) := by
  go_enter Tryz.func66, Tryz.ntmps66
  go_wp2_with fail
  refine bodyPost_ret (results_cell_row rfl _ _ w.heap.size 90 #[.func (.func k) #[] c, .int .i64 0, .int .i64 1] (0, 0) _ rfl (heap_alloc_new w _) Tryz.underlying90 rfl infoPart) rfl ?_
  exact ⟨rfl, HS.out.step ((Below.refl _ _).alloc (Nat.le_refl _) _)⟩
set_option maxHeartbeats 2000000 in
theorem many_k {w0 w : World} {b : Nat} {L : List (Int × Test)} {E : List (Value × Test)} (HS : Hid (Kst w0 w b L E)) (k : Nat) (c : Array Value) : Calls Tryz.prog 56 #[.func (.func k) #[] c] w fun e w' => e = .returned (.agg #[.func (.func k) #[] c, .int .i64 0, .int .i64 9223372036854775807]) ∧ Hid (Kst w0 w' b L E) := by
  go_enter Tryz.func56, Tryz.ntmps56
  go_wp2_with fail
  refine bodyPost_ret (results_cell_row rfl _ _ w.heap.size 90 #[.func (.func k) #[] c, .int .i64 0, .int .i64 9223372036854775807] (0, 0) _ rfl (heap_alloc_new w _) Tryz.underlying90 rfl infoPart) rfl ?_
  exact ⟨rfl, HS.out.step ((Below.refl _ _).alloc (Nat.le_refl _) _)⟩

/-- What a call hands back: a function value that is such a test. -/
def NewT (w0 : World) (b : Nat) (L : List (Int × Test)) (E : List (Value × Test)) (T : Test) (e : Ending) (w' : World) : Prop := ∃ k c, e = .returned (.func (.func k) #[] c) ∧ Hid (Kst w0 w' b L ((.func (.func k) #[] c, T) :: E))
theorem NewT.of {w0 w w' : World} {b : Nat} {L : List (Int × Test)} {E : List (Value × Test)} {T : Test} {e : Ending} {v : Value} (HS : Kst w0 w b L E) (he : e = .returned v) (ht : IsTest All2 T v w') (hb : Below w.heap.size w w') : NewT w0 b L E T e w' := by
  have h := ht
  obtain ⟨k, c, rfl, _⟩ := ht
  exact ⟨k, c, he, (HS.step hb).put h⟩
theorem op_k {w0 w : World} {b : Nat} {L : List (Int × Test)} {E : List (Value × Test)} (HS : Hid (Kst w0 w b L E)) (k : Int) : Calls Tryz.prog 57 #[.int .i64 k] w (NewT w0 b L E (tOp k)) :=
  (op_any k w).mono fun e w' ⟨v, he, ht, hb⟩ => NewT.of HS.out he ht hb
theorem both_k {w0 w : World} {b : Nat} {L : List (Int × Test)} {E : List (Value × Test)} (HS : Hid (Kst w0 w b L E)) {Ta Tb : Test} {va vb : Value} (ha : (va, Ta) ∈ E) (hb : IsTest (fun t x => Ta t x = true) Tb vb w) : Calls Tryz.prog 61 #[va, vb] w (NewT w0 b L E (tBoth Ta Tb)) :=
  (both_any Ta Tb va vb w (HS.out.bag _ ha) hb).mono fun e w' ⟨v, he, ht, hb⟩ => NewT.of HS.out he ht hb
theorem either_k {w0 w : World} {b : Nat} {L : List (Int × Test)} {E : List (Value × Test)} (HS : Hid (Kst w0 w b L E)) {Ta Tb : Test} {va vb : Value} (ha : (va, Ta) ∈ E) (hb : (vb, Tb) ∈ E) : Calls Tryz.prog 71 #[va, vb] w (NewT w0 b L E (tEither Ta Tb)) :=
  (either_any Ta Tb va vb w (HS.out.bag _ ha) (HS.out.bag _ hb)).mono fun e w' ⟨v, he, ht, hb⟩ => NewT.of HS.out he ht hb
theorem of_k0 {w0 w : World} {b : Nat} {L : List (Int × Test)} {E : List (Value × Test)} (HS : Hid (Kst w0 w b L E)) {f : Sp.Bs → Bool} {kt : Nat} (ht : ∀ w, IsText f (.func (.func kt) #[] #[]) w) : Calls Tryz.prog 52 #[.func (.func kt) #[] #[], .slice none 0 0] w (NewT w0 b L E (tOf f [])) :=
  (of_any f [] _ _ w (ht w) ⟨none, 0, rfl, fun i p hp => by simp at hp⟩ (by simp) (by simp)).mono fun e w' ⟨v, he, ht, hb⟩ => NewT.of HS.out he ht hb
theorem of_k {w0 w : World} {b : Nat} {L : List (Int × Test)} {E : List (Value × Test)} (HS : Hid (Kst w0 w b L E)) {f : Sp.Bs → Bool} {kt : Nat} (ht : ∀ w, IsText f (.func (.func kt) #[] #[]) w) (cs : Array Value) (ps : List PartD) (hps : ps.length ≤ 10) (hpb : ∀ p ∈ ps, p.2.1 ≤ 10 ∧ p.2.2 ≤ 9223372036854775807)
    (hcs : ∀ (i : Nat) (p : PartD), ps[i]? = some p → ∃ u, cs[i * 3]? = some u ∧ (u, p.1) ∈ E ∧ cs[i * 3 + 1]? = some (.int .i64 (p.2.1 : Int)) ∧ cs[i * 3 + 2]? = some (.int .i64 (p.2.2 : Int))) (n : Nat) (hn : n = ps.length) :
    Calls Tryz.prog 52 #[.func (.func kt) #[] #[], .slice (some ⟨w.heap.size, 0, none⟩) n n] (w.alloc (.cells cs 90)) (NewT w0 b L E (tOf f ps)) := by
  subst hn
  have hb := (Below.refl w.heap.size w).alloc (Nat.le_refl _) (.cells cs 90)
  have hc : ∀ j, (w.alloc (.cells cs 90)).cell? ⟨w.heap.size, j, none⟩ = cs[j]? := fun j => by
    exact Go.cell_of_row _ w.heap.size j cs 90 (0, 0) (heap_alloc_new w (.cells cs 90))
  refine (of_any f ps _ _ _ (ht _) ⟨some ⟨w.heap.size, 0, none⟩, ps.length, rfl, fun i p hp => ?_⟩ hps hpb).mono fun e w' ⟨v, he, ht, hb'⟩ => NewT.of (HS.out.step hb) he ht hb'
  obtain ⟨u, h0, hm, h1, h2⟩ := hcs i p hp
  exact ⟨w.heap.size, 0, u, rfl, by rw [hc]; simpa using h0, (HS.out.bag _ hm).kept (Kept.of_below hb), by rw [hc]; simpa using h1, by rw [hc]; simpa using h2⟩
theorem of_k1 {w0 w : World} {b : Nat} {L : List (Int × Test)} {E : List (Value × Test)} (HS : Hid (Kst w0 w b L E)) {f : Sp.Bs → Bool} {kt : Nat} (ht : ∀ w, IsText f (.func (.func kt) #[] #[]) w) {u : Value} {l m : Int} {T : Test} (h1 : (u, T) ∈ E) (hl : 0 ≤ l ∧ l ≤ 10 ∧ 0 ≤ m ∧ m ≤ 9223372036854775807) :
    Calls Tryz.prog 52 #[.func (.func kt) #[] #[], .slice (some ⟨w.heap.size, 0, none⟩) 1 1] (w.alloc (.cells #[u, .int .i64 l, .int .i64 m] 90)) (NewT w0 b L E (tOf f [(T, l.toNat, m.toNat)])) :=
  of_k HS ht _ [(T, l.toNat, m.toNat)] (by simp) (by intro p hp; simp at hp; subst hp; simp only; omega) (fun i p hp => by
    match i, hp with
    | 0, hp => simp at hp; subst hp; exact ⟨u, rfl, h1, by simp; omega, by simp; omega⟩
    | i + 1, hp => simp at hp) 1 rfl
theorem of_k2 {w0 w : World} {b : Nat} {L : List (Int × Test)} {E : List (Value × Test)} (HS : Hid (Kst w0 w b L E)) {f : Sp.Bs → Bool} {kt : Nat} (ht : ∀ w, IsText f (.func (.func kt) #[] #[]) w) {u u' : Value} {l m l' m' : Int} {T T' : Test} (h1 : (u, T) ∈ E) (hl : 0 ≤ l ∧ l ≤ 10 ∧ 0 ≤ m ∧ m ≤ 9223372036854775807) (h2 : (u', T') ∈ E) (hl' : 0 ≤ l' ∧ l' ≤ 10 ∧ 0 ≤ m' ∧ m' ≤ 9223372036854775807) :
    Calls Tryz.prog 52 #[.func (.func kt) #[] #[], .slice (some ⟨w.heap.size, 0, none⟩) 2 2] (w.alloc (.cells #[u, .int .i64 l, .int .i64 m, u', .int .i64 l', .int .i64 m'] 90)) (NewT w0 b L E (tOf f [(T, l.toNat, m.toNat), (T', l'.toNat, m'.toNat)])) :=
  of_k HS ht _ [(T, l.toNat, m.toNat), (T', l'.toNat, m'.toNat)] (by simp) (by intro p hp; simp at hp; rcases hp with rfl | rfl <;> simp only <;> omega) (fun i p hp => by
    match i, hp with
    | 0, hp => simp at hp; subst hp; exact ⟨u, rfl, h1, by simp; omega, by simp; omega⟩
    | 1, hp => simp at hp; subst hp; exact ⟨u', rfl, h2, by simp; omega, by simp; omega⟩
    | i + 2, hp => simp at hp) 2 rfl
theorem of_k3 {w0 w : World} {b : Nat} {L : List (Int × Test)} {E : List (Value × Test)} (HS : Hid (Kst w0 w b L E)) {f : Sp.Bs → Bool} {kt : Nat} (ht : ∀ w, IsText f (.func (.func kt) #[] #[]) w) {u u' u'' : Value} {l m l' m' l'' m'' : Int} {T T' T'' : Test} (h1 : (u, T) ∈ E) (hl : 0 ≤ l ∧ l ≤ 10 ∧ 0 ≤ m ∧ m ≤ 9223372036854775807) (h2 : (u', T') ∈ E) (hl' : 0 ≤ l' ∧ l' ≤ 10 ∧ 0 ≤ m' ∧ m' ≤ 9223372036854775807)
    (h3 : (u'', T'') ∈ E) (hl'' : 0 ≤ l'' ∧ l'' ≤ 10 ∧ 0 ≤ m'' ∧ m'' ≤ 9223372036854775807) :
    Calls Tryz.prog 52 #[.func (.func kt) #[] #[], .slice (some ⟨w.heap.size, 0, none⟩) 3 3] (w.alloc (.cells #[u, .int .i64 l, .int .i64 m, u', .int .i64 l', .int .i64 m', u'', .int .i64 l'', .int .i64 m''] 90)) (NewT w0 b L E (tOf f [(T, l.toNat, m.toNat), (T', l'.toNat, m'.toNat), (T'', l''.toNat, m''.toNat)])) :=
  of_k HS ht _ [(T, l.toNat, m.toNat), (T', l'.toNat, m'.toNat), (T'', l''.toNat, m''.toNat)] (by simp) (by intro p hp; simp at hp; rcases hp with rfl | rfl | rfl <;> simp only <;> omega) (fun i p hp => by
    match i, hp with
    | 0, hp => simp at hp; subst hp; exact ⟨u, rfl, h1, by simp; omega, by simp; omega⟩
    | 1, hp => simp at hp; subst hp; exact ⟨u', rfl, h2, by simp; omega, by simp; omega⟩
    | 2, hp => simp at hp; subst hp; exact ⟨u'', rfl, h3, by simp; omega, by simp; omega⟩
    | i + 3, hp => simp at hp) 3 rfl
theorem fits_one {t : List NodeD} {T : Test} : ∀ (ps : List PartD) (r : List Int), fits t (ps ++ [pOne T]) r = true → 1 ≤ r.length
  | [], r, h => by
    cases r with
    | nil => simp [fits, pOne, greedy] at h
    | cons => simp
  | p :: ps, r, h => by
    simp only [List.cons_append, fits] at h
    split at h
    · cases h
    · have := fits_one ps _ h
      simp at this
      omega
end Go.Proofs.YtkmmcphiijolkaaGreatDoor

set_option linter.unusedVariables false
set_option linter.unusedSimpArgs false
namespace Go.Proofs.YtkmmcphiijolkaaGreatDoor
open Go.RowKit Go.Shelf
open Tr

theorem tieKids_in (i : Nat) : ∀ (ks : List Int) (st st' : Nat → Bool), tieKids i st ks = some st' → ∀ k ∈ ks, 0 ≤ k ∧ k < (i : Int)
  | [], st, st', _, k, hk => by cases hk
  | x :: ks, st, st', h, k, hk => by
    rw [tieKids] at h
    by_cases h1 : x < 0 ∨ (i : Int) ≤ x
    · rw [if_pos h1] at h; cases h
    · rw [if_neg h1] at h
      by_cases h2 : st x.toNat = true
      · rw [if_pos h2] at h; cases h
      · rw [if_neg h2] at h
        rcases List.mem_cons.1 hk with rfl | hk
        · omega
        · exact tieKids_in i ks _ _ h k hk
theorem tieAll_in : ∀ (l : List NodeD) (i : Nat) (st st' : Nat → Bool), tieAll i st l = some st' → KidsAt i l
  | [], i, st, st', _ => trivial
  | x :: l, i, st, st', h => by
    rw [tieAll] at h
    cases hk : tieKids i st x.2.2.2.2 with
    | none => rw [hk] at h; cases h
    | some st2 =>
      rw [hk] at h
      exact ⟨tieKids_in i _ _ _ hk, tieAll_in l (i + 1) _ _ h⟩
theorem tied_kids {t : List NodeD} (h : tied t = true) : KidsAt 0 t ∧ 0 < t.length := by
  unfold tied at h
  cases hk : tieAll 0 (fun _ => false) t with
  | none => rw [hk] at h; cases h
  | some st =>
    rw [hk] at h
    simp only [Bool.and_eq_true, decide_eq_true_eq] at h
    exact ⟨tieAll_in t 0 _ _ hk, h.2⟩
theorem allIn_of {t : List NodeD} (hl : t.length ≤ 1000000) (hin : ∀ x ∈ t, x.2.2.1.length ≤ 1000000 ∧ x.2.2.2.2.length ≤ maxLen) (hk : KidsAt 0 t) : AllIn t :=
  ⟨hl, fun y hy => ⟨(hin y hy).1, (hin y hy).2, fun k hkk => by
    obtain ⟨i, hi⟩ := List.getElem?_of_mem hy
    have := hk.get hi k hkk
    have hlt := (List.getElem?_eq_some_iff.1 hi).1
    omega⟩⟩
theorem zero_test (w : World) : (zeroValue 63).run Tryz.prog w = .ok .nilFunc w := Tryz.zeroValue63 w

set_option maxHeartbeats 16000000 in
set_option maxRecDepth 100000 in
theorem Right_of (hkinds : ∀ w, Calls Tryz.prog 27 #[] w fun e w' => ∃ b E, e = .returned (.map (some b)) ∧ Kst w w' b (kindOf sNames) E) (v : Value) (t : List NodeD) (w : World) (ha : ArgT v t w) (hl : t.length ≤ 1000000) (hin : ∀ x ∈ t, x.2.2.1.length ≤ 1000000 ∧ x.2.2.2.2.length ≤ maxLen) (hwf : ∀ x ∈ t, (Lit.int .i64 x.1).wf = true) :
    Calls Tryz.prog 12 #[v] w fun e w' => e = .returned (.bool (rightT sNames t)) ∧ Below w.heap.size w w' := by
  have HKI := Lib.hid hkinds
  have hti := fun w' (h : Below w.heap.size w w') => tied_any v t w' (ha.below h) hl (fun x hx => (hin x hx).2)
  have HTI := Lib.hid hti
  have HA := Lib.hid ha
  have HIN := Lib.hid hin
  have HWF := Lib.hid hwf
  obtain ⟨R, hR⟩ := hid_ex (rightT sNames t)
  rw [hR.out]
  cases hB : tied t with
  | false =>
    obtain ⟨pa, ca, rfl, fa⟩ := ha
    have HRF : Hid (R = false) := by show _ = _; rw [← hR.out]; unfold rightT; rw [hB]; rfl
    rw [HRF.out]
    have hc := HTI.out w (Below.refl _ _)
    rw [hB] at hc
    obtain ⟨n, hn⟩ : ∃ n, n = t.length := ⟨_, rfl⟩
    rw [← hn] at hc ⊢
    clear hR HTI HA HIN HWF fa HRF hB hn hl hkinds HKI hti hin hwf
    go_enter Tryz.func12, Tryz.ntmps12
    go_wp2_with (go_at_call 26; refine hc.mono ?_; clear hc; rintro e w1 ⟨rfl, hb1⟩)
    go_ret
    exact ⟨rfl, hb1⟩
  | true =>
    obtain ⟨hkid, hpos⟩ := tied_kids hB
    have hal := allIn_of hl hin hkid
    obtain ⟨ga, oa, cat, rfl, hga, hnodes⟩ := ha.form (fun e => by rw [e] at hpos; simp at hpos)
    have HNODES := Lib.hid hnodes
    have HAL := Lib.hid hal
    have hsh := fun w' (h : Below w.heap.size w w') => shallow_any _ t w' (ha.below h) hl (fun x hx => (hin x hx).2) hkid
    have HSH := Lib.hid hsh
    have hc := HTI.out w (Below.refl _ _)
    rw [hB] at hc
    obtain ⟨k, hk⟩ : ∃ k, t.length = k + 1 := ⟨t.length - 1, by omega⟩
    obtain ⟨x, hx⟩ : ∃ x, t[k]? = some x := ⟨_, List.getElem?_eq_getElem (by omega)⟩
    have hlast : t.getLast? = some x := by rw [List.getLast?_eq_getElem?, hk]; simpa using hx
    obtain ⟨vk, a0, _, _, _, _, _⟩ := hnodes k x hx
    have hRx : R = (decide (x.1 = 40) && t.all (kinded sNames t) && shallow t) := by
      rw [← hR.out]; unfold rightT; rw [hB, hlast]; simp
    obtain ⟨x0, hx0⟩ : ∃ x0, x0 = x.1 := ⟨_, rfl⟩
    rw [← hx0] at a0 hRx
    have HRX := Lib.hid hRx
    have HK := Lib.hid hk
    have HK2 : Hid (k + 1 ≤ 1000000) := by show _ ≤ _; omega
    rw [hk] at hc ⊢
    have hk3 : k + 1 ≤ 1000000 := by omega
    clear hR HTI hB hk hl hkinds hti hin hwf hkid hpos hal hnodes hsh hlast hx hRx hx0 HIN
    have HAT := Lib.hid ha
    clear ha HA
    by_cases h40 : x0 = 40
    · subst h40
      have HR2 : Hid (R = (t.all (kinded sNames t) && shallow t)) := by show _ = _; rw [HRX.out]; simp
      clear HRX
      have hbk := fun w1 (h : Below w.heap.size w w1) => (h.cell (p := ⟨ga, oa + k * 5, none⟩) hga).trans a0
      have HBK := Lib.hid hbk
      clear hbk a0
      go_enter Tryz.func12, Tryz.ntmps12
      go_wp2_with (first | (go_at_call 26; refine hc.mono ?_; clear hc; rintro e w1 ⟨rfl, hb1⟩; have b0 := HBK.out w1 hb1) | (go_at_call 27; refine (HKI.out _).mono ?_; rintro e w2 ⟨b, E, rfl, hk2⟩))
      have hb2 : Below w.heap.size w w2 := hb1.trans (hk2.below.mono hb1.size)
      have HML0 : Hid (MapL w2 b (kindOf sNames)) := hk2.map.resolve_left (by simp [kindOf])
      clear hk2 b0 HKI
      go_loopw [24] (fun v24 wr => ∃ i : Nat, v24 = .int .i64 (i : Int) ∧ i ≤ k + 1 ∧ Below w.heap.size w wr ∧ Hid (MapL wr b (kindOf sNames)) ∧ Hid (t.all (kinded sNames t) = (t.drop i).all (kinded sNames t))) (fun v24 _ => k + 1 - (intOf v24).toNat)
      case atStart => exact ⟨0, rfl, Nat.zero_le _, hb2, HML0, rfl⟩
      case round =>
        obtain ⟨i, rfl, hi, hbel, HML, HT⟩ := hrel
        clear hb1 hb2 HML0
        by_cases hlt : i < k + 1
        · obtain ⟨x, hx⟩ : ∃ x, t[i]? = some x := ⟨_, List.getElem?_eq_getElem (by rw [HK.out]; exact hlt)⟩
          have hxm := List.mem_of_getElem? hx
          have hd := drop_cons t i x hx
          have hti := HT.out
          rw [hd, List.all_cons] at hti
          obtain ⟨vk, n0, n1, n2, n3, n4, n5⟩ := HNODES.out i x hx
          have hxw := HWF.out x hxm
          have p0 := (hbel.cell (p := ⟨ga, oa + i * 5, none⟩) hga).trans n0
          have p1 := (hbel.cell (p := ⟨ga, oa + i * 5 + 1, none⟩) hga).trans n1
          have p2 := (hbel.cell (p := ⟨ga, oa + i * 5 + 2, none⟩) hga).trans n2
          have p3 := (hbel.cell (p := ⟨ga, oa + i * 5 + 3, none⟩) hga).trans n3
          have p4 := (hbel.cell (p := ⟨ga, oa + i * 5 + 4, none⟩) hga).trans n4
          obtain ⟨W1, hW1⟩ : ∃ W1, W1 = wr.alloc (.cells #[.int .i64 x.1, .int .i64 x.2.1, .string ⟨x.2.2.1.toArray⟩, .int .i64 x.2.2.2.1, vk] 39) := ⟨_, rfl⟩
          have hbW : Below wr.heap.size wr W1 := by rw [hW1]; exact (Below.refl _ _).alloc (Nat.le_refl _) _
          have hbw : Below w.heap.size w W1 := hbel.trans (hbW.mono hbel.size)
          have hmlW := HML.out.kept hbW
          have HMW := Lib.hid hmlW
          obtain ⟨gm, nm, hm, hnm, hgx⟩ := hmlW
          have hlk := hm.get_ok 60 63 Tryz.underlying60 (zero_test W1) x.1 hxw
          have hat : ArgT (.slice (some ⟨ga, oa, none⟩) (k + 1) cat) t W1 := by rw [← HK.out]; exact HAT.out.below hbw
          have hnv : NodeV (.agg #[.int .i64 x.1, .int .i64 x.2.1, .string ⟨x.2.2.1.toArray⟩, .int .i64 x.2.2.2.1, vk]) x W1 := ⟨vk, rfl, n5.below hbw⟩
          have hkd : kinded sNames t x = match Tr.look (kindOf sNames) x.1 with
            | none => false
            | some T => T t x := rfl
          cases hlook : Tr.look (kindOf sNames) x.1 with
          | none =>
            rw [hlook] at hkd
            rw [(hgx x.1).1 hlook] at hlk
            simp only [Option.getD_none, Option.isSome_none] at hlk
            simp only at hkd
            rw [hkd, Bool.false_and] at hti
            have HRF : Hid (R = false) := by show _ = _; rw [HR2.out, hti]; rfl
            rw [hW1] at hlk hbw
            have HBW := Lib.hid hbw
            obtain ⟨x0, x1, x2, x3, ks⟩ := x
            obtain ⟨py, cy, rfl, fy⟩ := n5
            simp only at p0 p1 p2 p3 p4 hlk HBW
            obtain ⟨my, hmy⟩ : ∃ my, my = ks.length := ⟨_, rfl⟩
            rw [← hmy] at p4 hlk HBW
            clear hx hxm hd hti n0 n1 n2 n3 n4 fy hxw hm hnm hgx hat hnv hkd hlook HMW HML HT HNODES HWF HAL HSH hbw hbW hW1 hmy HAT
            go_wp2_with fail
            go_ret
            exact ⟨ret_bool HRF.out.symm, HBW.out⟩
          | some T =>
            rw [hlook] at hkd
            obtain ⟨fv, hfv, htest⟩ := (hgx x.1).2 T hlook
            rw [hfv] at hlk
            simp only [Option.getD_some, Option.isSome_some] at hlk
            simp only at hkd
            rw [hkd] at hti
            obtain ⟨kf, cf, rfl, ef, hcf⟩ := htest
            have hcall := hcf W1 _ _ t x (Kept.refl _) hat hnv HAL.out hxm trivial
            have HPOST : Hid (∀ w3, Below W1.heap.size W1 w3 → Below w.heap.size w w3 ∧ MapL w3 b (kindOf sNames)) := fun w3 h3 => ⟨hbw.trans (h3.mono hbw.size), HMW.out.kept h3⟩
            obtain ⟨Bx, hBx⟩ := hid_ex (T t x)
            rw [hBx.out] at hcall hti
            have HTI2 := Lib.hid hti
            obtain ⟨x0, x1, x2, x3, ks⟩ := x
            obtain ⟨py, cy, rfl, fy⟩ := n5
            simp only at p0 p1 p2 p3 p4 hlk hcall
            obtain ⟨my, hmy⟩ : ∃ my, my = ks.length := ⟨_, rfl⟩
            rw [hW1] at hlk hcall HPOST
            rw [← hmy] at p4 hlk hcall HPOST
            clear hx hxm hd hti n0 n1 n2 n3 n4 fy hxw hm hnm hgx hat hnv hkd hlook HMW HML HT hbw hbW hW1 hmy hcf hfv
            cases Bx with
            | true =>
              have HT2 : Hid (t.all (kinded sNames t) = (t.drop (i + 1)).all (kinded sNames t)) := by show _ = _; rw [HTI2.out, Bool.true_and]
              clear HTI2 hBx
              go_wp2_with (refine hcall.mono ?_; clear hcall; rintro e w3 ⟨rfl, hb3⟩)
              exact ⟨⟨i + 1, by go_num, by omega, (HPOST.out w3 hb3).1, (HPOST.out w3 hb3).2, HT2⟩, by simp [intOf]; omega⟩
            | false =>
              have HRF : Hid (R = false) := by show _ = _; rw [HR2.out, HTI2.out]; rfl
              clear HTI2 hBx
              go_wp2_with (refine hcall.mono ?_; clear hcall; rintro e w3 ⟨rfl, hb3⟩)
              go_ret
              exact ⟨ret_bool HRF.out.symm, (HPOST.out w3 hb3).1⟩
        · obtain rfl : i = k + 1 := by omega
          have HT2 : Hid (R = shallow t) := by
            show _ = _
            rw [HR2.out, HT.out, List.drop_eq_nil_of_le (by rw [HK.out]; exact Nat.le_refl _)]
            rfl
          have hc := HSH.out wr hbel
          rw [HK.out] at hc
          have HB := Lib.hid hbel
          clear HT HML HNODES HAL HSH HAT
          go_wp2_with (go_at_call 28; refine hc.mono ?_; clear hc; rintro e w3 ⟨rfl, hb3⟩)
          go_ret
          exact ⟨ret_bool HT2.out.symm, HB.out.trans (hb3.mono HB.out.size)⟩
    · have HR2 : Hid (R = false) := by show _ = _; rw [HRX.out]; simp [h40]
      have g40 : (x0 != 40) = true := by simp [h40]
      have hbk := fun w1 (h : Below w.heap.size w w1) => (h.cell (p := ⟨ga, oa + k * 5, none⟩) hga).trans a0
      have HBK := Lib.hid hbk
      clear hbk a0 HRX HSH HAL HNODES HWF HK HAT
      rw [HR2.out]
      go_enter Tryz.func12, Tryz.ntmps12
      go_wp2_with (go_at_call 26; refine hc.mono ?_; clear hc; rintro e w1 ⟨rfl, hb1⟩; have b0 := HBK.out w1 hb1)
      go_ret
      exact ⟨rfl, hb1⟩
end Go.Proofs.YtkmmcphiijolkaaGreatDoor

set_option linter.unusedVariables false
set_option linter.unusedSimpArgs false
namespace Go.Proofs.YtkmmcphiijolkaaGreatDoor
open Go.RowKit Go.Shelf
open Tr

/-- Whether a tree is right, of whatever tree that may be looked at. -/
def RightOk : Prop := ∀ (v : Value) (t : List NodeD) (w : World), ArgT v t w → t.length ≤ 1000000 → (∀ x ∈ t, x.2.2.1.length ≤ 1000000 ∧ x.2.2.2.2.length ≤ maxLen) → (∀ x ∈ t, (Lit.int .i64 x.1).wf = true) →
    Calls Tryz.prog 12 #[v] w fun e w' => e = .returned (.bool (rightT sNames t)) ∧ Below w.heap.size w w'

theorem awake_right : rightT sNames awakeT = true := right_awake sNames
theorem awake_depth : depthT awakeT 2 = 2 := by decide
theorem awake_size : (belowT awakeT 4).length = 5 := by decide

set_option maxHeartbeats 8000000 in
set_option maxRecDepth 100000 in
theorem awake_of (HR : RightOk) (w : World) : Calls Tryz.prog 8 #[] w fun e w' => e = .returned (.bool true) ∧ Below w.heap.size w w' := by
  obtain ⟨W0, hW0⟩ : ∃ W0, W0 = ((w.alloc (.cells #[.int .i64 0, .int .i64 1] 3)).alloc (.cells #[.int .i64 2] 3)).alloc (.cells #[.int .i64 3] 3) := ⟨_, rfl⟩
  have hs0 : W0.heap.size = w.heap.size + 3 := by rw [hW0]; simp
  have hb0 : Below w.heap.size w W0 := by rw [hW0]; exact (((Below.refl _ w).alloc (Nat.le_refl _) _).alloc (by simp) _).alloc (by simp; omega) _
  have k1 : KRow (.slice (some ⟨w.heap.size, 0, none⟩) 2 2) [0, 1] W0 := by
    rw [hW0]
    exact ((KRow.lit w #[.int .i64 0, .int .i64 1] [0, 1] rfl).below ((Below.refl _ _).alloc (Nat.le_refl _) _)).below ((Below.refl _ _).alloc (Nat.le_refl _) _)
  have k2 : KRow (.slice (some ⟨w.heap.size + 1, 0, none⟩) 1 1) [2] W0 := by
    rw [hW0]
    have := (KRow.lit (w.alloc (.cells #[.int .i64 0, .int .i64 1] 3)) #[.int .i64 2] [2] rfl).below ((Below.refl _ _).alloc (Nat.le_refl _) (.cells #[.int .i64 3] 3))
    simpa using this
  have k3 : KRow (.slice (some ⟨w.heap.size + 1 + 1, 0, none⟩) 1 1) [3] W0 := by
    rw [hW0]
    have := (KRow.lit ((w.alloc (.cells #[.int .i64 0, .int .i64 1] 3)).alloc (.cells #[.int .i64 2] 3)) #[.int .i64 3] [3] rfl)
    simpa using this
  have hT := TRow.lit w.heap.size [((6, 0, [97], 0, []), .slice none 0 0), ((4, 0, [], 2, []), .slice none 0 0), ((12, 0, [43], 0, [0, 1]), .slice (some ⟨w.heap.size, 0, none⟩) 2 2), ((42, 0, [], 0, [2]), .slice (some ⟨w.heap.size + 1, 0, none⟩) 1 1), ((40, 0, [], 0, [3]), .slice (some ⟨w.heap.size + 1 + 1, 0, none⟩) 1 1)] W0
    #[.int .i64 6, .int .i64 0, .string ⟨#[97]⟩, .int .i64 0, .slice none 0 0, .int .i64 4, .int .i64 0, .string ⟨#[]⟩, .int .i64 2, .slice none 0 0, .int .i64 12, .int .i64 0, .string ⟨#[43]⟩, .int .i64 0, .slice (some ⟨w.heap.size, 0, none⟩) 2 2, .int .i64 42, .int .i64 0, .string ⟨#[]⟩, .int .i64 0, .slice (some ⟨w.heap.size + 1, 0, none⟩) 1 1, .int .i64 40, .int .i64 0, .string ⟨#[]⟩, .int .i64 0, .slice (some ⟨w.heap.size + 1 + 1, 0, none⟩) 1 1]
    rfl (by omega) (by unfold maxLen; simp) (by
      intro p hp
      simp only [List.mem_cons, List.not_mem_nil, or_false] at hp
      rcases hp with rfl | rfl | rfl | rfl | rfl
      · exact KRow.nil_ _
      · exact KRow.nil_ _
      · exact k1
      · exact k2
      · exact k3)
  have hA := hT.argT
  rw [hs0] at hA
  obtain ⟨W1, hW1⟩ : ∃ W1, W1 = W0.alloc (.cells #[.int .i64 6, .int .i64 0, .string ⟨#[97]⟩, .int .i64 0, .slice none 0 0, .int .i64 4, .int .i64 0, .string ⟨#[]⟩, .int .i64 2, .slice none 0 0, .int .i64 12, .int .i64 0, .string ⟨#[43]⟩, .int .i64 0, .slice (some ⟨w.heap.size, 0, none⟩) 2 2, .int .i64 42, .int .i64 0, .string ⟨#[]⟩, .int .i64 0, .slice (some ⟨w.heap.size + 1, 0, none⟩) 1 1, .int .i64 40, .int .i64 0, .string ⟨#[]⟩, .int .i64 0, .slice (some ⟨w.heap.size + 1 + 1, 0, none⟩) 1 1] 39) := ⟨_, rfl⟩
  rw [← hW1] at hA
  have hb1 : Below w.heap.size w W1 := by rw [hW1]; exact hb0.alloc (by omega) _
  have hA1 : ArgT (.slice (some ⟨w.heap.size + 3, 0, none⟩) 5 5) awakeT W1 := hA
  have hin : ∀ x ∈ awakeT, x.2.2.1.length ≤ 1000000 ∧ x.2.2.2.2.length ≤ maxLen := by
    intro x hx
    simp only [awakeT, List.mem_cons, List.not_mem_nil, or_false] at hx
    unfold maxLen
    rcases hx with rfl | rfl | rfl | rfl | rfl <;> simp
  have hwf : ∀ x ∈ awakeT, (Lit.int .i64 x.1).wf = true := by decide
  have c1 := fun W (h : Below W1.heap.size W1 W) => HR (.slice (some ⟨w.heap.size + 3, 0, none⟩) 5 5) awakeT W (hA1.below h) (by decide) hin hwf
  have c2 := fun W (h : Below W1.heap.size W1 W) => Depth_any W (.slice (some ⟨w.heap.size + 3, 0, none⟩) 5 5) awakeT (hA1.below h) (by decide) (fun x hx => (hin x hx).2) 2 (by decide)
  have c3 := fun W (h : Below W1.heap.size W1 W) => Size_any W (.slice (some ⟨w.heap.size + 3, 0, none⟩) 5 5) awakeT (hA1.below h) (by decide) (fun x hx => (hin x hx).2) 4
  rw [awake_right] at c1
  rw [awake_depth] at c2
  rw [awake_size] at c3
  have hc1 := c1 W1 (Below.refl _ _)
  rw [hW1, hW0] at hc1
  have HW : Hid (W1 = W1) := rfl
  have C2 := Lib.hid c2
  have C3 := Lib.hid c3
  have HB1 := Lib.hid hb1
  have hpost : ∀ W, Below W1.heap.size W1 W → Below w.heap.size w W := fun W h => hb1.trans (h.mono hb1.size)
  have HP := Lib.hid hpost
  rw [hW1, hW0] at C2 C3 HP
  clear c1 c2 c3 hin hwf hA1 hA hT k1 k2 k3 hb0 hb1 hpost hW0 hW1 hs0 HW HB1
  go_enter Tryz.func8, Tryz.ntmps8
  go_wp2_with (first | (go_at_call 12; refine hc1.mono ?_; clear hc1; rintro e w1 ⟨rfl, hb1⟩) | (go_at_call 21; refine (C2.out _ hb1).mono ?_; rintro e w2 ⟨rfl, hb2⟩) | (go_at_call 22; refine (C3.out _ (hb1.trans (hb2.mono hb1.size))).mono ?_; rintro e w3 ⟨rfl, hb3⟩))
  go_ret
  exact ⟨rfl, HP.out _ ((hb1.trans (hb2.mono hb1.size)).trans (hb3.mono (Nat.le_trans hb1.size hb2.size)))⟩

theorem rest_tmod (x n : Int) : (x.tmod n + n) % n = x % n := by
  rw [Int.add_emod_right]
  have h := Int.tmod_add_mul_tdiv x n
  conv => rhs; rw [← h]
  rw [Int.add_mul_emod_self_left]
set_option maxHeartbeats 2000000 in
theorem rest_any (x n : Int) (w : World) (hn : 0 < n) (hn2 : n ≤ 1000000) (hx : (Lit.int .i64 x).wf = true) : Calls Tryz.prog 15 #[.int .i64 x, .int .i64 n] w fun e w' => e = .returned (.int .i64 (x % n)) ∧ w = w' := by
  have h1 := Int.lt_tmod_of_pos x hn
  have h2 := Int.tmod_lt_of_pos x hn
  have hr := rest_tmod x n
  have HR := Lib.hid hr
  have hn0 : (n == 0) = false := by simp; omega
  clear hr
  go_enter Tryz.func15, Tryz.ntmps15
  go_wp2
  go_ret
  exact ⟨congrArg (fun z => Ending.returned (.int .i64 z)) HR.out, rfl⟩
end Go.Proofs.YtkmmcphiijolkaaGreatDoor
