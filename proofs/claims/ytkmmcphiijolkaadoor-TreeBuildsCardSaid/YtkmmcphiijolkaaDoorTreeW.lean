/-
  Whether a text is names with one blank between each two, at this program.
-/
import Derived.Test.YtkmmcphiijolkaaDoorTreeQ
import Derived.Test.YtkmmcphiijolkaaDoorTreeV
import Derived.Test.YtkmmcphiijolkaaDoorTreeG
set_option linter.unusedVariables false
set_option linter.unusedSimpArgs false
namespace Go.Proofs.YtkmmcphiijolkaaDoor
open Go.RowKit Go.Shelf
open Tr
attribute [local go_sem] Oper.semAt_some

namespace Tr
/-- The parts of a text between signs c; cur: what has come of the first one. -/
def splitGo (c : UInt8) : Sp.Bs → Sp.Bs → List Sp.Bs
  | cur, [] => [cur]
  | cur, x :: l => if x = c then cur :: splitGo c [] l else splitGo c (cur ++ [x]) l
def sNames (s : Sp.Bs) : Bool := (splitGo 32 [] s).all Sp.nm
theorem splitGo_some (c : UInt8) : ∀ (i : Nat) (r cur : Sp.Bs), r[i]? = some c → (∀ k : Nat, k < i → r[k]? ≠ some c) → splitGo c cur r = (cur ++ r.take i) :: splitGo c [] (r.drop (i + 1))
  | i, [], cur, h, _ => by simp at h
  | 0, x :: l, cur, h, _ => by
    simp only [List.getElem?_cons_zero, Option.some.injEq] at h
    subst h
    simp [splitGo]
  | i + 1, x :: l, cur, h, hn => by
    have hx : x ≠ c := fun e => hn 0 (by omega) (by simp [e])
    have := splitGo_some c i l (cur ++ [x]) (by simpa using h) (fun k hk => by have := hn (k + 1) (by omega); simpa using this)
    rw [splitGo, if_neg hx, this]
    simp
theorem splitGo_none (c : UInt8) : ∀ (r cur : Sp.Bs), (∀ k : Nat, r[k]? ≠ some c) → splitGo c cur r = [cur ++ r]
  | [], cur, _ => by simp [splitGo]
  | x :: l, cur, hn => by
    have hx : x ≠ c := fun e => hn 0 (by simp [e])
    rw [splitGo, if_neg hx, splitGo_none c l (cur ++ [x]) (fun k => by have := hn (k + 1); simpa using this)]
    simp
end Tr
theorem bytes_self (b : ByteArray) : (⟨b.data.toList.toArray⟩ : ByteArray) = b := by simp
theorem bytes_ext {a b : ByteArray} (h : a.data.toList = b.data.toList) : a = b := by rw [← bytes_self a, h, bytes_self]
theorem extract_front (r : ByteArray) (i : Nat) : (r.extract 0 i).data.toList = r.data.toList.take i := by
  rw [ByteArray.data_extract, Array.toList_extract]
  simp [List.extract]
def boxSize (b : Nat) (w : World) : Nat := match w.cell? ⟨b, 0, none⟩ with
  | some (.string s) => s.size
  | _ => 0

set_option maxHeartbeats 8000000 in
set_option maxRecDepth 100000 in
theorem split_gives (c : UInt8) (n : Nat) (bs bp bv : Nat) (s : ByteArray) (hs : s.size ≤ 1000000) (hd1 : bs ≠ bp) (hd2 : bs ≠ bv) (R : Nat → Prop) (w : World) (hn1 : ¬ R bs) (hn2 : ¬ R bp) (hn3 : ¬ R bv)
    (h1 : w.cell? ⟨bs, 0, none⟩ = some (.string s)) (hf : w.frozen? ⟨bs, 0, none⟩ = false) (h2 : w.cell? ⟨bp, 0, none⟩ = some (.string ⟨#[c]⟩)) (h3 : w.cell? ⟨bv, 0, none⟩ = some (.int .i64 0)) :
    GivesS Fence.wide n Tryd.prog 94 #[.pointer (some ⟨bp, 0, none⟩), .pointer (some ⟨bs, 0, none⟩), .pointer (some ⟨bv, 0, none⟩)] (fun x : Sp.Bs => #[.string ⟨x.toArray⟩]) (fun q => q <+: splitGo c [] s.data.toList) (fun xs => xs = splitGo c [] s.data.toList) R (fun k => k = bs) w := by
  intro l J Jx W hl hlW hW hJ hJx hY h0
  have hbs := cell_lt h1
  have hbp := cell_lt h2
  have hbv := cell_lt h3
  simp only at hbs hbp hbv
  have c1 : W.cell? ⟨bs, 0, none⟩ = some (.string s) := (hW.cell (p := ⟨bs, 0, none⟩) hbs).trans h1
  have f1 : W.frozen? ⟨bs, 0, none⟩ = false := (hW.frozen (p := ⟨bs, 0, none⟩) hbs).trans hf
  have c2 : W.cell? ⟨bp, 0, none⟩ = some (.string ⟨#[c]⟩) := (hW.cell (p := ⟨bp, 0, none⟩) hbp).trans h2
  have c3 : W.cell? ⟨bv, 0, none⟩ = some (.int .i64 0) := (hW.cell (p := ⟨bv, 0, none⟩) hbv).trans h3
  have hWs := hW.size
  have HJ := Lib.hid hJ
  have HY := Lib.hid hY
  have HJX := Lib.hid hJx
  have H0 := Lib.hid h0
  obtain ⟨L, HL⟩ := hid_ex (splitGo c [] s.data.toList)
  rw [HL.out] at HY
  rw [HL.out]
  clear h1 hf h2 h3 hJ hJx hY h0 hW
  have hkeep : ∀ A B : World, But (fun k => R k ∨ k = l) A B → W.heap.size ≤ A.heap.size → ∀ k, (k = bs ∨ k = bp ∨ k = bv) → B.heap[k]? = A.heap[k]? := fun A B hB hs k hk => by
    refine (hB.both k (by rcases hk with rfl | rfl | rfl <;> omega) ?_).1
    rintro (e | e)
    · rcases hk with rfl | rfl | rfl
      · exact hn1 e
      · exact hn2 e
      · exact hn3 e
    · rcases hk with rfl | rfl | rfl <;> omega
  have HK := Lib.hid hkeep
  clear hkeep
  refine callsIn_of_wp Tryd.func94 rfl trivial ?_ rfl
  simp only [Tryd.ntmps94, List.size_toArray, List.length_cons, List.length_nil, Nat.reduceAdd, Nat.reduceSub, Array.replicate_succ, Array.replicate_zero, List.push_toArray, List.append_toArray, List.nil_append, List.cons_append]
  gi_wp2_with fail
  gi_loopw [7] (fun v7 wr => ∃ (pre : List Sp.Bs) (r : ByteArray), Hid (J pre wr) ∧ r.size ≤ 1000000 ∧ W.heap.size ≤ wr.heap.size ∧ wr.cell? ⟨bs, 0, none⟩ = some (.string r) ∧ wr.frozen? ⟨bs, 0, none⟩ = false ∧ wr.cell? ⟨bp, 0, none⟩ = some (.string ⟨#[c]⟩) ∧ wr.cell? ⟨bv, 0, none⟩ = some (.int .i64 0) ∧ Hid (L = pre ++ splitGo c [] r.data.toList)) (fun v7 wr => boxSize bs wr)
  case atStart =>
    exact ⟨[], s, H0, hs, Nat.le_refl _, c1, f1, c2, c3, by show _ = _; rw [← HL.out]; rfl⟩
  case round =>
    clear c1 f1 c2 c3 H0
    obtain ⟨pre, r, HP, hrs, hwr, c1, f1, c2, c3, HX⟩ := hrel
    have HI := Tryd.strings_Index_one r c
    have hge := Lib.indexByte_ge r.data.toList c
    by_cases hm : Lib.indexByte r.data.toList c = -1
    · have hnone := Lib.indexByte_none hm
      rw [hm] at HI
      have HN : Hid (L = pre ++ [r.data.toList]) := by
        show _ = _
        rw [HX.out, splitGo_none _ _ _ hnone]
        rfl
      have HI' := Lib.hid HI
      have hy0 := HY.out pre r.data.toList wr HP.out hwr (by rw [← HN.out]; exact List.prefix_refl _)
      obtain ⟨fn, tmps, assign, body, hy, hR⟩ := hy0
      rw [bytes_self] at hy
      have HRR := Lib.hid hR
      clear HI hR hge hm hnone HX
      gi_wp2_with fail
      refine ⟨trivial, fun h => by simp [Fence.wide] at h, (callsIn_wide.2 (HI'.out wr)).mono ?_⟩
      rintro e w' ⟨rfl, rfl⟩
      gi_wp2_with fail
      refine ⟨fun h => by simp [Fence.wide] at h, HRR.out.mono ?_⟩
      rintro e W2 ⟨hb2, (⟨rfl, hJ2⟩ | ⟨rfl, hJ2⟩)⟩
      · have hsz := hb2.size
        clear HRR hy
        gi_wp2_with fail
        go_end0
        exact ⟨⟨_, rfl⟩, by omega, Or.inl ⟨_, HN.out.symm, hJ2⟩⟩
      · have hsz := hb2.size
        clear HRR hy
        gi_wp2_with fail
        go_end0
        exact ⟨⟨_, rfl⟩, by omega, Or.inr ⟨_, hJ2⟩⟩
    · obtain ⟨i, hi⟩ : ∃ i : Nat, Lib.indexByte r.data.toList c = (i : Int) := ⟨(Lib.indexByte r.data.toList c).toNat, by omega⟩
      obtain ⟨hi1, hi2⟩ := Lib.indexByte_some hi
      have hlt : i < r.size := by rw [← size_list]; exact (List.getElem?_eq_some_iff.1 hi1).1
      obtain ⟨x, HXB⟩ := hid_ex (r.extract 0 i)
      obtain ⟨r', HRB⟩ := hid_ex (r.extract (i + 1) r.size)
      have hxl : x.data.toList = r.data.toList.take i := by rw [← HXB.out, extract_front]
      have hrl' : r'.data.toList = r.data.toList.drop (i + 1) := by rw [← HRB.out]; exact Lib.extract_to_end r (i + 1)
      have hrz' : r'.size < r.size := by rw [← HRB.out]; simp [ByteArray.size_extract]; omega
      have HN : Hid (L = (pre ++ [x.data.toList]) ++ splitGo c [] r'.data.toList) := by
        show _ = _
        rw [HX.out, splitGo_some c i _ _ hi1 hi2, hxl, hrl']
        simp
      rw [hi] at HI
      have HI' := Lib.hid HI
      have hy0 := HY.out pre x.data.toList wr HP.out hwr ⟨_, HN.out.symm⟩
      obtain ⟨fn, tmps, assign, body, hy, hR⟩ := hy0
      rw [bytes_self] at hy
      have HRR := Lib.hid hR
      have hs1 : ∀ w, (Instr.slice 9 (.string r) none (some (.int .i64 (i : Int))) none).run Tryd.prog w = .ok (.string x) w := by
        intro w
        have h := run_slice_string_h w 9 r Tryd.underlying9 .i64 (i : Int) (by omega) (by omega)
        rw [Int.toNat_natCast, HXB.out] at h
        exact h
      have hs2 : ∀ w, (Instr.slice 9 (.string r) (some (.int .i64 ((i : Int) + 1))) none none).run Tryd.prog w = .ok (.string r') w := by
        intro w
        have h := run_slice_string_l w 9 r Tryd.underlying9 .i64 ((i : Int) + 1) (by omega) (by omega)
        rw [show ((i : Int) + 1).toNat = i + 1 by omega, HRB.out] at h
        exact h
      have hw0 : IntKind.i64.wrap (i : Int) = (i : Int) := IntWalk.i64_in _ (by omega)
      have hw1 : IntKind.i64.wrap ((i : Int) + 1) = (i : Int) + 1 := IntWalk.i64_in _ (by omega)
      have hneg : ¬ (i : Int) < 0 := by omega
      have hrs' : r'.size ≤ 1000000 := by omega
      have c0 := c1
      clear HI hR hge hm hi1 hi2 HX HXB HRB hxl hrl' hi
      gi_wp2_with fail
      refine ⟨trivial, fun h => by simp [Fence.wide] at h, (callsIn_wide.2 (HI'.out wr)).mono ?_⟩
      rintro e w' ⟨rfl, rfl⟩
      gi_wp2_with fail
      refine ⟨fun h => by simp [Fence.wide] at h, HRR.out.mono ?_⟩
      rintro e W2 ⟨hb2, (⟨rfl, hJ2⟩ | ⟨rfl, hJ2⟩)⟩
      · clear HRR hy
        have hsz := hb2.size
        have b1 := HK.out _ _ hb2 hwr bs (Or.inl rfl)
        have b2 := HK.out _ _ hb2 hwr bp (Or.inr (Or.inl rfl))
        have b3 := HK.out _ _ hb2 hwr bv (Or.inr (Or.inr rfl))
        replace c1 := (World.cell?_of_block (a := ⟨bs, 0, none⟩) b1).trans c1
        replace f1 := (World.frozen?_of_block (a := ⟨bs, 0, none⟩) b1).trans f1
        replace c2 := (World.cell?_of_block (a := ⟨bp, 0, none⟩) b2).trans c2
        replace c3 := (World.cell?_of_block (a := ⟨bv, 0, none⟩) b3).trans c3
        have hJ3 := Lib.hid (HJ.out _ _ (W2.setCell ⟨bs, 0, none⟩ (.string r')) hJ2 (But.setCell (p := fun k => k = bs) (Chg.refl _ W2) (x := ⟨bs, 0, none⟩) (fun _ => rfl) _) (by omega))
        have d1 : (W2.setCell ⟨bs, 0, none⟩ (.string r')).cell? ⟨bs, 0, none⟩ = some (.string r') := World.cell?_setCell_same _ _ _ c1
        have d2 : (W2.setCell ⟨bs, 0, none⟩ (.string r')).cell? ⟨bp, 0, none⟩ = some (.string ⟨#[c]⟩) := (World.cell?_setCell_other _ _ _ _ (by simp [hd1])).trans c2
        have d3 : (W2.setCell ⟨bs, 0, none⟩ (.string r')).cell? ⟨bv, 0, none⟩ = some (.int .i64 0) := (World.cell?_setCell_other _ _ _ _ (by simp [hd2])).trans c3
        have d4 : W.heap.size ≤ (W2.setCell ⟨bs, 0, none⟩ (.string r')).heap.size := by simp [World.setCell]; omega
        have hm1 : boxSize bs (W2.setCell ⟨bs, 0, none⟩ (.string r')) < boxSize bs w' := by
          unfold boxSize
          rw [d1, c0]
          exact hrz'
        clear b1 b2 b3 hJ2 hb2
        gi_wp2_with fail
        exact ⟨⟨_, r', hJ3, hrs', d4, d1, by rw [World.frozen?_setCell]; exact f1, d2, d3, HN⟩, hm1⟩
      · have hsz := hb2.size
        clear HRR hy
        gi_wp2_with fail
        refine bodyPost_ret (results_none rfl _ _ _) rfl ?_
        exact ⟨⟨_, rfl⟩, by omega, Or.inr ⟨_, hJ2⟩⟩

theorem splitSeq_is (c : UInt8) (n : Nat) (s : ByteArray) (w : World) : CallsIn Fence.wide n Tryd.prog 77 #[.string s, .string ⟨#[c]⟩] w fun e w' =>
    e = .returned (.func (.func 94) #[] #[.pointer (some ⟨w.heap.size + 1, 0, none⟩), .pointer (some ⟨w.heap.size, 0, none⟩), .pointer (some ⟨w.heap.size + 2, 0, none⟩)]) ∧
    w' = ((w.alloc (.cells #[.string s] 9)).alloc (.cells #[.string ⟨#[c]⟩] 9)).alloc (.cells #[.int .i64 0] 3) := by
  refine callsIn_wide.2 ?_
  have hmf : ∀ (fn : Fn) (first cap : Array Value) (w : World), (Instr.makeFunc fn first cap).run Tryd.prog w = .ok (.func fn first cap) w := fun _ _ _ _ => rfl
  go_enter Tryd.func77, Tryd.ntmps77
  go_wp2
  go_ret
  exact ⟨rfl, rfl⟩

theorem names_pre {L q : List Sp.Bs} {x : Sp.Bs} (h : q ++ [x] <+: L) (hx : Sp.nm x = false) : L.all Sp.nm = false := by
  obtain ⟨r, rfl⟩ := h
  simp [hx]
theorem splitGo_size (c : UInt8) : ∀ (l cur : Sp.Bs) (x : Sp.Bs), x ∈ splitGo c cur l → x.length ≤ cur.length + l.length
  | [], cur, x, h => by
    simp [splitGo] at h
    subst h; simp
  | y :: l, cur, x, h => by
    rw [splitGo] at h
    split at h
    · rcases List.mem_cons.1 h with rfl | h
      · omega
      · have := splitGo_size c l [] x h
        simp at this ⊢
        omega
    · have := splitGo_size c l (cur ++ [y]) x h
      simp at this ⊢
      omega

set_option maxHeartbeats 8000000 in
set_option maxRecDepth 100000 in
theorem names_any (s : ByteArray) (w : World) (hs : s.size ≤ 1000000) : Calls Tryd.prog 62 #[.string s] w fun e w' => e = .returned (.bool (sNames s.data.toList)) ∧ Below w.heap.size w w' := by
  refine (callsIn_wide (n := 3)).1 ?_
  have hd : Fence.wide.depth = none := rfl
  have hro : Fence.wide.round = none := rfl
  have hsz : ∀ x, x ∈ splitGo 32 [] s.data.toList → x.length ≤ 1000000 := fun x hx => by
    have := splitGo_size 32 s.data.toList [] x hx
    rw [size_list] at this
    simp at this
    omega
  have HSZ := Lib.hid hsz
  have hnames : sNames s.data.toList = (splitGo 32 [] s.data.toList).all Sp.nm := rfl
  have HNM := Lib.hid hnames
  clear hsz hnames
  obtain ⟨B, HB⟩ := hid_ex (sNames s.data.toList)
  rw [HB.out]
  refine callsIn_of_wp_marks Tryd.func62 rfl trivial ?_ hro
  simp only [Tryd.ntmps62, List.size_toArray, List.length_cons, List.length_nil, Nat.reduceAdd, Nat.reduceSub, Array.replicate_succ, Array.replicate_zero, List.push_toArray, List.append_toArray, List.nil_append, List.cons_append]
  gi_wp2_with fail
  refine ⟨trivial, (splitSeq_is 32 _ s _).mono ?_⟩
  rintro e w' ⟨rfl, rfl⟩
  gi_wp2_with fail
  obtain ⟨W, hW⟩ : ∃ W, W = (((w.alloc (.cells #[.bool false] 4)).alloc (.cells #[.string s] 9)).alloc (.cells #[.string ⟨#[32]⟩] 9)).alloc (.cells #[.int .i64 0] 3) := ⟨_, rfl⟩
  have hbW : Below w.heap.size w W := by rw [hW]; exact ((((Below.refl _ w).alloc (Nat.le_refl _) _).alloc (by simp) _).alloc (by simp; omega) _).alloc (by simp; omega) _
  have hsW : W.heap.size = w.heap.size + 4 := by rw [hW]; simp
  have q0 : W.cell? ⟨w.heap.size, 0, none⟩ = some (.bool false) := by
    rw [hW, World.cell?_alloc_past _ _ _ (by simp; omega), World.cell?_alloc_past _ _ _ (by simp; omega), World.cell?_alloc_past _ _ _ (by simp), World.cell?_alloc_at _ _ _ _ rfl]; rfl
  have q0f : W.frozen? ⟨w.heap.size, 0, none⟩ = false := by rw [hW]; simp [go_sem]
  have q1 : W.cell? ⟨w.heap.size + 1, 0, none⟩ = some (.string s) := by
    rw [hW, World.cell?_alloc_past _ _ _ (by simp), World.cell?_alloc_past _ _ _ (by simp), World.cell?_alloc_at _ _ _ _ (by simp)]; rfl
  have q1f : W.frozen? ⟨w.heap.size + 1, 0, none⟩ = false := by rw [hW]; simp [go_sem]
  have q2 : W.cell? ⟨w.heap.size + 1 + 1, 0, none⟩ = some (.string ⟨#[32]⟩) := by
    rw [hW, World.cell?_alloc_past _ _ _ (by simp), World.cell?_alloc_at _ _ _ _ (by simp)]
    rfl
  have q3 : W.cell? ⟨w.heap.size + 1 + 2, 0, none⟩ = some (.int .i64 0) := by
    rw [hW, World.cell?_alloc_at _ _ _ _ (by simp)]
    rfl
  have hg := split_gives 32 (3 - 1) (w.heap.size + 1) (w.heap.size + 1 + 1) (w.heap.size + 1 + 2) s hs (by omega) (by omega) (fun k => k = w.heap.size) W (by omega) (by omega) (by omega) q1 q1f q2 q3
  have HG := Lib.hid hg
  rw [show ((((w.alloc (.cells #[.bool false] 4)).alloc (.cells #[.string s] 9)).alloc (.cells #[.string ⟨#[32]⟩] 9)).alloc (.cells #[.int .i64 0] 3)) = W from hW.symm]
  clear hW hg
  refine wpIn_rangeFunc_S hro (depthless hd _) (gf := 94) (lb := #[.pointer (some ⟨w.heap.size + 1 + 1, 0, none⟩), .pointer (some ⟨w.heap.size + 1, 0, none⟩), .pointer (some ⟨w.heap.size + 1 + 2, 0, none⟩)]) rfl trivial (enters_of Tryd.func94 (by kernel_rfl) rfl)
    (R := fun k => k = w.heap.size) (own := fun k => k = w.heap.size + 1) (fun k e => by omega) (fun k e => by omega) HG.out (fun _ => rfl)
    (fun q A => (∀ x ∈ q, Sp.nm x = true) ∧ A.cell? ⟨w.heap.size, 0, none⟩ = some (.bool false) ∧ A.frozen? ⟨w.heap.size, 0, none⟩ = false)
    (fun c q A => c = .ret ∧ B = false ∧ A.cell? ⟨w.heap.size, 0, none⟩ = some (.bool false))
    (fun q A X ⟨u0, u1, u2⟩ hX hs => by
      have h1 := (hX.both w.heap.size (by omega) (by omega)).1
      exact ⟨u0, (World.cell?_of_block (a := ⟨w.heap.size, 0, none⟩) h1).trans u1, (World.frozen?_of_block (a := ⟨w.heap.size, 0, none⟩) h1).trans u2⟩)
    (fun c q A X ⟨u0, u1, u2⟩ hX hs => ⟨u0, u1, (World.cell?_of_block (a := ⟨w.heap.size, 0, none⟩) ((hX.both w.heap.size (by omega) (by omega)).1)).trans u2⟩)
    ⟨fun x hx => (by cases hx), q0, q0f⟩
    (fun x => { tmps := #[.string s, undef, .pointer (some ⟨w.heap.size, 0, none⟩), .string ⟨x.toArray⟩, .string s, .func (.func 94) #[] #[.pointer (some ⟨w.heap.size + 1 + 1, 0, none⟩), .pointer (some ⟨w.heap.size + 1, 0, none⟩), .pointer (some ⟨w.heap.size + 1 + 2, 0, none⟩)], .string ⟨x.toArray⟩, undef, undef, undef], defers := [] })
    ?assign ?body ?done ?stop
  case assign =>
    intro l x W K hK
    gi_wp2
    exact hK
  case body =>
    rintro l2 q x A ⟨u0, u1, u2⟩ hS hsz
    have hxl := HSZ.out x (hS.subset (by simp))
    have hcall := CallsIn.inRound l2 (show CallsIn Fence.wide (3 - 1 - 1 - 1) Tryd.prog 49 _ A _ from callsIn_wide.2 (name_any ⟨x.toArray⟩ A (by rw [← size_list]; simpa using hxl)))
    simp only [List.toList_toArray] at hcall
    cases hx : Sp.nm x with
    | true =>
      rw [hx] at hcall
      have HX : Hid (∀ A2, Below A.heap.size A A2 → But (fun k => k = w.heap.size) A A2 ∧ ((∀ y ∈ q ++ [x], Sp.nm y = true) ∧ A2.cell? ⟨w.heap.size, 0, none⟩ = some (.bool false) ∧ A2.frozen? ⟨w.heap.size, 0, none⟩ = false)) := fun A2 hA2 =>
        ⟨But.of_below (Chg.refl _ A) hA2 (Nat.le_refl _), fun y hy => by
          rcases List.mem_append.1 hy with hy | hy
          · exact u0 y hy
          · simp at hy; rw [hy]; exact hx, (hA2.cell (p := ⟨w.heap.size, 0, none⟩) (by show w.heap.size < _; omega)).trans u1, (hA2.frozen (p := ⟨w.heap.size, 0, none⟩) (by show w.heap.size < _; omega)).trans u2⟩
      clear u0 u1 u2 hS hx hxl q0 q0f q1 q1f q2 q3
      gi_wp2_with ((try refine ⟨trivial, ?_⟩); refine hcall.mono ?_; clear hcall; rintro e A2 ⟨rfl, hA2⟩)
      exact HX.out A2 hA2
    | false =>
      rw [hx] at hcall
      have HBF : Hid (B = false) := by
        show _ = _
        rw [← HB.out, HNM.out]
        exact names_pre hS hx
      have HX : Hid (∀ A2, Below A.heap.size A A2 → But (fun k => k = w.heap.size) A (A2.setCell ⟨w.heap.size, 0, none⟩ (.bool false)) ∧ A2.cell? ⟨w.heap.size, 0, none⟩ = some (.bool false) ∧ A2.frozen? ⟨w.heap.size, 0, none⟩ = false) := fun A2 hA2 =>
        ⟨But.setCell (p := fun k => k = w.heap.size) (But.of_below (Chg.refl _ A) hA2 (Nat.le_refl _)) (x := ⟨w.heap.size, 0, none⟩) (fun _ => rfl) _, (hA2.cell (p := ⟨w.heap.size, 0, none⟩) (by show w.heap.size < _; omega)).trans u1, (hA2.frozen (p := ⟨w.heap.size, 0, none⟩) (by show w.heap.size < _; omega)).trans u2⟩
      clear u0 u1 u2 hS hx hxl q0 q0f q1 q1f q2 q3
      gi_wp2_with ((try refine ⟨trivial, ?_⟩); refine hcall.mono ?_; clear hcall; rintro e A2 ⟨rfl, hA2⟩; obtain ⟨v1, v2, v3⟩ := HX.out A2 hA2)
      exact ⟨v1, rfl, HBF.out, World.cell?_setCell_same' _ _ _ (by rw [v2]; rfl)⟩
  case done =>
    rintro xs A rfl ⟨u0, u1, u2⟩ hcA hK
    have HBT : Hid (B = true) := by
      show _ = _
      rw [← HB.out, HNM.out]
      exact List.all_eq_true.2 u0
    have hA := hcA.size
    have hbA : Below w.heap.size w A := hbW.trans (hcA.below (by omega) (fun k hk e => by omega))
    have HY : Hid (∀ X, X = (A.setCell ⟨w.heap.size, 0, none⟩ (.bool true)).putObj W.heap.size (.deferred none) → Below w.heap.size w X ∧ X.cell? ⟨w.heap.size, 0, none⟩ = some (.bool true)) := fun X hX => by
      subst hX
      refine ⟨hbA.trans (((Below.refl _ A).setCell (p := ⟨w.heap.size, 0, none⟩) (Nat.le_refl _) _).trans (below_putObj (B := w.heap.size) _ (by omega) _)), ?_⟩
      rw [World.cell?_of_block (w := A.setCell ⟨w.heap.size, 0, none⟩ (.bool true)) (World.putObj_heap_other (by show w.heap.size ≠ _; omega))]
      exact World.cell?_setCell_same' _ _ _ (by rw [u1]; rfl)
    have hK2 : (A.setCell ⟨w.heap.size, 0, none⟩ (.bool true)).heap[W.heap.size]? = some (.deferred (some [])) := (Below.heap_setCell A ⟨w.heap.size, 0, none⟩ _ W.heap.size (by simp; omega)).trans hK
    clear u0 q0 q0f q1 q1f q2 q3 hK hcA hbA
    gi_wp2
    refine ⟨by simp, .inl ⟨_, _, rfl, run_takeDeferred hK2, ?_⟩⟩
    obtain ⟨z1, z2⟩ := HY.out _ rfl
    exact ⟨_, results_bool rfl _ _ w.heap.size true rfl z2, by rw [HBT.out], z1⟩
  case stop =>
    rintro c q A ⟨rfl, hBf, u3⟩ hcA hK
    have hA := hcA.size
    have hbA : Below w.heap.size w A := hbW.trans (hcA.below (by omega) (fun k hk e => by omega))
    have HBF := Lib.hid hBf
    clear hBf
    have HY : Hid (∀ X, X = A.putObj W.heap.size (.deferred none) → Below w.heap.size w X ∧ X.cell? ⟨w.heap.size, 0, none⟩ = some (.bool false)) := fun X hX => by
      subst hX
      refine ⟨hbA.trans (below_putObj _ (by omega) _), ?_⟩
      rw [World.cell?_of_block (w := A) (World.putObj_heap_other (by show w.heap.size ≠ _; omega))]
      exact u3
    clear u3 q0 q0f q1 q1f q2 q3 hcA hbA
    gi_wp2
    refine ⟨by simp, .inl ⟨_, _, rfl, run_takeDeferred hK, ?_⟩⟩
    obtain ⟨z1, z2⟩ := HY.out _ rfl
    exact ⟨_, results_bool rfl _ _ w.heap.size false rfl z2, by rw [HBF.out], z1⟩
theorem text_names (w : World) : IsText sNames (.func (.func 62) #[] #[]) w := text_of w (enters_of Tryd.func62 (by kernel_rfl) rfl) names_any
end Go.Proofs.YtkmmcphiijolkaaDoor
