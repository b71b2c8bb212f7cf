/-
  Texts of the tree package put behind one another: TreeL, TreeCC.
-/
import Derived.Test.YtkmmcphiijolkaaGreatDoorZd
import Derived.Test.YtkmmcphiijolkaaGreatDoorZb
set_option linter.unusedVariables false
set_option linter.unusedSimpArgs false
namespace Go.Proofs.YtkmmcphiijolkaaGreatDoor
open Go.RowKit Go.Shelf
open Tr
attribute [local go_sem] Oper.semAt_some

/-- Marks of ranges over functions that have ended. -/
def marksD (bs : List Nat) : List Deferred := bs.map fun b => { target := .collected b, args := #[] }
def Marks (w : World) (bs : List Nat) : Prop := bs.Nodup ∧ ∀ b ∈ bs, w.heap[b]? = some (.deferred (some []))
theorem Marks.but {w w' : World} {bs : List Nat} {p : Nat → Prop} (h : Marks w bs) (hb : But p w w') (hp : ∀ b ∈ bs, ¬ p b) : Marks w' bs :=
  ⟨h.1, fun b hm => ((hb.both b (Array.getElem?_eq_some_iff.1 (h.2 b hm)).1 (hp b hm)).1).trans (h.2 b hm)⟩
theorem leaves_marks {F : Fence} {n : Nat} {P : Program} {fn : Func} {tmps : Array Value} {R : Ending → World → Prop} : ∀ (bs : List Nat) (w : World), Marks w bs → (∀ w', But (fun k => k ∈ bs) w w' → LeavesInM F n P fn tmps R [] .returning w') → LeavesInM F n P fn tmps R (marksD bs) .returning w
  | [], w, _, hR => hR w (Chg.refl _ w)
  | b :: bs, w, hm, hR => by
    refine ⟨by simp, .inl ⟨b, _, rfl, run_takeDeferred (hm.2 b (by simp)), ?_⟩⟩
    have hb1 : But (fun k => k = b) w (w.putObj b (.deferred none)) := But.putObj (p := fun k => k = b) (Chg.refl _ w) (fun _ => rfl) _
    have hnd := List.nodup_cons.1 hm.1
    refine leaves_marks bs _ ⟨hnd.2, fun c hc => ?_⟩ (fun w' h' => hR w' ((hb1.more fun k _ e => by rw [e]; simp).trans (h'.more fun k _ e => by simp [e])))
    rw [World.putObj_heap_other (fun e => hnd.1 (by rw [← e]; exact hc))]
    exact hm.2 c (by simp [hc])
theorem sorted_take {ys : List Nat} (h : ys.Pairwise (· ≤ ·)) {j y k : Nat} (hy : ys[j]? = some y) (hk : k ∈ ys) (hlt : k < y) : k ∈ ys.take j := by
  have hd := drop_cons ys j y hy
  rw [← List.take_append_drop j ys] at hk h
  rcases List.mem_append.1 hk with h1 | h1
  · exact h1
  · rw [hd] at h1 h
    have hp := (List.pairwise_append.1 h).2.1
    rcases List.mem_cons.1 h1 with rfl | h1
    · omega
    · have := (List.pairwise_cons.1 hp).1 k h1
      omega
/-- A row of numbers of the call's own, in its form. -/
theorem own_form {base : Nat} {v : Value} {ys : List Nat} {w : World} (h : w.ownsRow base 3 1 v ys.length (ys.map fun x : Nat => .int .i64 (x : Int))) :
    ∃ pr cr, v = .slice pr ys.length cr ∧ ∀ (j y : Nat), ys[j]? = some y → ∃ g, pr = some ⟨g, 0, none⟩ ∧ base ≤ g ∧ g < w.heap.size ∧ w.cell? ⟨g, j, none⟩ = some (.int .i64 (y : Int)) := by
  rcases h.2 with ⟨rfl, hn⟩ | ⟨g, cap, cur, rfl, hg, hgb, hnc, hcm, hcs, htk⟩
  · have hx : ys = [] := by cases ys with
      | nil => rfl
      | cons a l => simp at hn
    subst hx
    exact ⟨none, 0, rfl, fun j y hy => by simp at hy⟩
  · refine ⟨_, cap, rfl, fun j y hy => ⟨g, rfl, hg, (Array.getElem?_eq_some_iff.1 hgb).1, ?_⟩⟩
    have hj := (List.getElem?_eq_some_iff.1 hy).1
    rw [cell_of_row w g j cur 3 (0, 0) hgb]
    have h1 : (cur.toList.take (ys.length * 1))[j]? = some (.int .i64 (y : Int)) := by rw [htk, List.getElem?_map, hy]; rfl
    rw [List.getElem?_take_of_lt (by omega), Array.getElem?_toList] at h1
    exact h1
/-- What the map of depths holds when j numbers have been gone over. -/
def depM (t : List NodeD) (ys : List Nat) : Int → Option Value := fun x => if 0 ≤ x ∧ x.toNat ∈ ys then some (.int .i64 (depF t x.toNat : Int)) else none
theorem zero_int (w : World) : (zeroValue 3).run Tryz.prog w = .ok (.int .i64 0) w := Tryz.zeroValue3 w

set_option maxHeartbeats 16000000 in
set_option maxRecDepth 100000 in
theorem Depth_in (F : Fence) (hF : F = Fence.wide) (hf : Fen F) (n : Nat) (w : World) (tv : Value) (t : List NodeD) (ha : ArgT tv t w) (hl : t.length ≤ 1000000) (hks : ∀ x ∈ t, x.2.2.2.2.length ≤ maxLen) (node : Int) (hwf : (Lit.int .i64 node).wf = true) :
    CallsIn F n Tryz.prog 21 #[tv, .int .i64 node] w fun e w' => e = .returned (.int .i64 (depthT t node : Int)) ∧ Below w.heap.size w w' := by
  have HA := Lib.hid ha
  have hd := hf.d
  have hro := hf.r
  have hfb := hf.b
  have hfs := hf.so
  obtain ⟨pa, ca, rfl, fa⟩ := ha
  obtain ⟨m, hm⟩ : ∃ m, m = t.length := ⟨_, rfl⟩
  have HM := Lib.hid hm
  rw [← hm] at HA ⊢
  clear fa hm
  have hmm := @run_makeMap Tryz.prog
  obtain ⟨W2, hW2⟩ : ∃ W2, W2 = (((w.alloc (.map #[] 0)).alloc (.cells #[.map (some w.heap.size)] 83)).alloc (.cells #[.slice pa m ca] 23)).alloc (.cells #[.int .i64 node] 3) := ⟨_, rfl⟩
  have hb2 : Below w.heap.size w W2 := by rw [hW2]; exact ((((Below.refl _ w).alloc (Nat.le_refl _) _).alloc (by simp) _).alloc (by simp; omega) _).alloc (by simp; omega) _
  have hs2 : W2.heap.size = w.heap.size + 4 := by rw [hW2]; simp
  have q0 : MapI W2 w.heap.size 0 (fun _ => none) := by rw [hW2]; exact (((MapI.made w).alloc _).alloc _).alloc _
  have q1 : W2.cell? ⟨w.heap.size + 1, 0, none⟩ = some (.map (some w.heap.size)) := by
    rw [hW2, World.cell?_alloc_past _ _ _ (by simp), World.cell?_alloc_past _ _ _ (by simp), World.cell?_alloc_at _ _ _ _ (by simp)]; rfl
  have q2 : W2.cell? ⟨w.heap.size + 1 + 1, 0, none⟩ = some (.slice pa m ca) := by
    rw [hW2, World.cell?_alloc_past _ _ _ (by simp), World.cell?_alloc_at _ _ _ _ (by simp)]
    rfl
  have q3 : W2.cell? ⟨w.heap.size + 1 + 1 + 1, 0, none⟩ = some (.int .i64 node) := by
    rw [hW2, World.cell?_alloc_at _ _ _ _ (by simp)]; rfl
  have hit : IterR Fence.wide 89 #[.pointer (some ⟨w.heap.size + 1 + 1, 0, none⟩), .pointer (some ⟨w.heap.size + 1 + 1 + 1, 0, none⟩)] (Few t) (fun xs => xs = belowT t node) W2 :=
    below_iter Fence.wide fen_wide w W2 (.slice pa m ca) t HA.out hl hks node _ _ hb2 (by omega) (by omega) q2 q3
  have hsort := Sorted_any W2 89 _ (enters_of Tryz.func89 (by kernel_rfl) rfl) (Few t) (fun xs => xs = belowT t node) (fun q h => Nat.le_trans (few_length h) hl) (fun q h => by rw [h]; exact Nat.le_trans (few_length (below_few t node)) hl) hit
  have hsort2 := hsort.mono (R' := fun e WS => ∃ (ys : List Nat) (pr : Option Addr) (cr ny : Nat), e = .returned (.slice pr ny cr) ∧ Hid (ny = ys.length) ∧ ny ≤ 1000000 ∧ Hid (ys.Perm (belowT t node)) ∧ Hid (ys.Pairwise (· ≤ ·)) ∧
      Hid (∀ (j y : Nat), ys[j]? = some y → ∃ g, pr = some ⟨g, 0, none⟩ ∧ W2.heap.size ≤ g ∧ g < WS.heap.size ∧ WS.cell? ⟨g, j, none⟩ = some (.int .i64 (y : Int))) ∧ Below W2.heap.size W2 WS) (by
    rintro e WS ⟨v, xs, ys, rfl, hp, hpw, rfl, hown, hbs⟩
    obtain ⟨pr, cr, rfl, hrow⟩ := own_form hown
    exact ⟨ys, pr, cr, ys.length, rfl, rfl, by rw [hp.length_eq]; exact Nat.le_trans (few_length (below_few t node)) hl, hp, hpw, hrow, hbs⟩)
  have hsortF : ∀ k, CallsIn F k Tryz.prog 42 _ W2 _ := fun k => by rw [hF]; exact callsIn_wide.2 hsort2
  have HSF := Lib.hid hsortF
  rw [hW2] at HSF
  clear hit hsort hsort2 hsortF hF
  refine callsIn_of_wp_marks Tryz.func21 rfl hf.dp ?_ hro
  simp only [Tryz.ntmps21, List.size_toArray, List.length_cons, List.length_nil, Nat.reduceAdd, Nat.reduceSub, Array.replicate_succ, Array.replicate_zero, List.push_toArray, List.append_toArray, List.nil_append, List.cons_append]
  gi_wp2_with (first | ((try refine ⟨depthless hd _, ?_⟩); gi_at_call 43; refine (below_in F _ hf.b hro pa m ca node _).mono ?_; rintro e w' ⟨rfl, rfl⟩) | ((try refine ⟨depthless hd _, ?_⟩); gi_at_call 42; refine (HSF.out _).mono ?_; rintro e WS ⟨ys, pr, cr, ny, rfl, HNYE, hnyl, HP, HPW, HROW, hbs⟩))
  rw [← hW2] at hbs HROW
  have hbS : Below w.heap.size w WS := hb2.trans (hbs.mono hb2.size)
  have q0S := q0.below hbs q0.lt
  have q1S := (hbs.cell (p := ⟨w.heap.size + 1, 0, none⟩) (by show w.heap.size + 1 < _; omega)).trans q1
  have hsS := hbs.size
  clear hmm HSF hW2 q0 q1 q2 q3
  refine wpIn_loop (fun a wr => ∃ (j : Nat) (bs : List Nat) (u7 u8 u9 u17 u18 u19 u20 u21 u22 u24 u25 u26 u27 u28 u29 u30 u31 u32 u33 : Value), a = { tmps := #[.slice pa m ca, .int .i64 node, undef, undef, .int .i64 0, .pointer (some ⟨w.heap.size + 1, 0, none⟩), undef, u7, u8, u9, .map (some w.heap.size), .slice pa m ca, .int .i64 node,
      .func (.func 89) #[] #[.pointer (some ⟨w.heap.size + 1 + 1, 0, none⟩), .pointer (some ⟨w.heap.size + 1 + 1 + 1, 0, none⟩)], .slice pr ny cr, .int .i64 (ny : Int), .int .i64 (j : Int), u17, u18, u19, u20, u21, u22, undef, u24, u25, u26, u27, u28, u29, u30, u31, u32, u33, undef, undef, undef], defers := marksD bs } ∧
      j ≤ ny ∧ MapI wr w.heap.size j (depM t (ys.take j)) ∧ But (fun k => k = w.heap.size) WS wr ∧ Marks wr bs ∧ ∀ b ∈ bs, WS.heap.size ≤ b) (fun a _ => ny - (intOf (a.tmps.getD 16 undef)).toNat) ?atStart ?round
  case atStart => exact ⟨0, [], _, _, _, _, _, _, _, _, _, _, _, _, _, _, _, _, _, _, _, rfl, Nat.zero_le _, q0S.congr (fun x _ => by simp [depM]), Chg.refl _ _, ⟨List.nodup_nil, fun b hb => by cases hb⟩, fun b hb => by cases hb⟩
  case round =>
    rintro a wr ⟨j, bs, u7, u8, u9, u17, u18, u19, u20, u21, u22, u24, u25, u26, u27, u28, u29, u30, u31, u32, u33, rfl, hj, hmp, hbut, hmk, hbs2⟩
    have hszr := hbut.size
    have c1 : wr.cell? ⟨w.heap.size + 1, 0, none⟩ = some (.map (some w.heap.size)) := (World.cell?_of_block (a := ⟨w.heap.size + 1, 0, none⟩) (hbut.both (w.heap.size + 1) (by omega) (fun e : w.heap.size + 1 = w.heap.size => by omega)).1).trans q1S
    have HMK := Lib.hid hmk
    have HBS2 := Lib.hid hbs2
    clear q0S q1S hmk hbs2
    by_cases hjn : j < ny
    · obtain ⟨y, hy⟩ : ∃ y, ys[j]? = some y := ⟨_, List.getElem?_eq_getElem (by rw [← HNYE.out]; exact hjn)⟩
      obtain ⟨g, rfl, hg1, hg2, hg3⟩ := HROW.out j y hy
      have b0 := (World.cell?_of_block (a := ⟨g, j, none⟩) (hbut.both g (by omega) (fun e : g = w.heap.size => by omega)).1).trans hg3
      clear hg3
      have hyb : y ∈ belowT t node := HP.out.subset (List.mem_of_getElem? hy)
      have hyt : y < t.length := below_lt t node y hyb
      obtain ⟨x, hx⟩ : ∃ x, t[y]? = some x := ⟨_, List.getElem?_eq_getElem hyt⟩
      have hxl := hks x (List.mem_of_getElem? hx)
      have hbr : Below w.heap.size w wr := hbS.trans (hbut.below (by omega) (fun k hk e => by omega))
      have hkin := fun (n : Nat) => kids_in F hd n hf.k hf.a hro (.slice pa m ca) t w (wr.alloc (.cells #[.int .i64 0] 3)) HA.out (hbr.alloc hbr.size _) y x hx hl
      have hkn : kidN t y = kidsOf y x.2.2.2.2 := by
        unfold kidN nodeAt
        rw [Int.toNat_natCast, hx]; rfl
      have HKN := Lib.hid hkn
      have HKIN := Lib.hid hkin
      have HY := Lib.hid hy
      have HYB := Lib.hid hyb
      have HX := Lib.hid hx
      have HXL := Lib.hid hxl
      have hkf := hf.k
      clear hkin hy hx hyb hxl hkn
      gi_wp2_with ((try refine ⟨depthless hd _, ?_⟩); gi_at_call 45; refine (HKIN.out _).mono ?_; rintro e WK ⟨kv, hkv, rfl, hWK⟩)
      obtain ⟨W3, hW3⟩ : ∃ W3, W3 = ((wr.alloc (.cells #[.int .i64 0] 3)).alloc (.cells #[kv] 24)).alloc (.cells #[.int .i64 (y : Int)] 3) := ⟨_, rfl⟩
      have hbK : Below wr.heap.size wr W3 := by rw [hW3]; exact (((Below.refl _ wr).alloc (Nat.le_refl _) _).alloc (by simp) _).alloc (by simp; omega) _
      have hsK : W3.heap.size = wr.heap.size + 3 := by rw [hW3]; simp
      have d0 : W3.cell? ⟨wr.heap.size, 0, none⟩ = some (.int .i64 0) := by
        rw [hW3, World.cell?_alloc_past _ _ _ (by simp; omega), World.cell?_alloc_past _ _ _ (by simp), World.cell?_alloc_at _ _ _ _ rfl]; rfl
      have d0f : W3.frozen? ⟨wr.heap.size, 0, none⟩ = false := by rw [hW3]; simp [go_sem]
      have d1 : W3.cell? ⟨wr.heap.size + 1, 0, none⟩ = some kv := by
        rw [hW3, World.cell?_alloc_past _ _ _ (by simp), World.cell?_alloc_at _ _ _ _ (by simp)]; rfl
      have d2 : W3.cell? ⟨wr.heap.size + 1 + 1, 0, none⟩ = some (.int .i64 (y : Int)) := by
        rw [hW3, World.cell?_alloc_at _ _ _ _ (by simp)]; rfl
      have hmp3 : MapI W3 w.heap.size j (depM t (ys.take j)) := hmp.below hbK hmp.lt
      have c3 : W3.cell? ⟨w.heap.size + 1, 0, none⟩ = some (.map (some w.heap.size)) := (hbK.cell (p := ⟨w.heap.size + 1, 0, none⟩) (by show w.heap.size + 1 < _; omega)).trans c1
      have hg := ahead_gives F hd hro (n - 1) hf.a1 w kv x.2.2.2.2 hkv HXL.out y (wr.heap.size + 1) (wr.heap.size + 1 + 1) (fun _ k => k = wr.heap.size) W3 (Dyn.const _ _) (hbr.trans (hbK.mono hbr.size)) (fun _ k e => by have := hbr.size; omega) (by omega) (by omega) (by omega) d1 d2
      have HG := Lib.hid hg
      have HMK3 : Hid (Marks W3 bs) := ⟨HMK.out.1, fun b hb => (hbK.block b (Array.getElem?_eq_some_iff.1 (HMK.out.2 b hb)).1).trans (HMK.out.2 b hb)⟩
      have HBS3 : Hid (∀ b ∈ bs, b < wr.heap.size) := fun b hb => (Array.getElem?_eq_some_iff.1 (HMK.out.2 b hb)).1
      have hbut3 : But (fun k => k = w.heap.size) WS W3 := But.of_below hbut hbK hszr
      rw [← hW3]
      obtain ⟨BD, hBD⟩ : ∃ BD, BD = wr.heap.size := ⟨_, rfl⟩
      rw [← hBD] at hsK d0 d0f d1 d2 HBS3 hszr HG
      have hfa1 := hf.a1
      clear hWK hW3 hg hbK hmp c1 b0 hkv
      rw [← hBD]
      have HBD := Lib.hid hBD
      clear hBD
      refine wpIn_rangeFunc_R hro (depthless hd _) (gf := 87) (lb := #[.pointer (some ⟨BD + 1, 0, none⟩), .pointer (some ⟨BD + 1 + 1, 0, none⟩)]) rfl hfa1 (enters_of Tryz.func87 (by kernel_rfl) rfl)
        (R := fun _ k => k = BD) (Dyn.const _ _) HG.out (fun _ => rfl)
        (fun q A => A.cell? ⟨BD, 0, none⟩ = some (.int .i64 ((q.foldl (fun a k => max a (depF t k)) 0 : Nat) : Int)) ∧ A.frozen? ⟨BD, 0, none⟩ = false ∧ MapI A w.heap.size j (depM t (ys.take j)) ∧ A.cell? ⟨w.heap.size + 1, 0, none⟩ = some (.map (some w.heap.size)))
        (fun c q A => False) (fun q A _ hs k e => by omega)
        (fun q A B ⟨u0, u1, u2, u3⟩ hST hs => have hB := hST.b
          ⟨(hB.cell (p := ⟨BD, 0, none⟩) (by show BD < _; omega)).trans u0, (hB.frozen (p := ⟨BD, 0, none⟩) (by show BD < _; omega)).trans u1, u2.below hB (by omega), (hB.cell (p := ⟨w.heap.size + 1, 0, none⟩) (by show w.heap.size + 1 < _; omega)).trans u3⟩)
        (fun c q A B h _ _ => h) ⟨d0, d0f, hmp3, c3⟩
        (fun k => { tmps := #[.slice pa m ca, .int .i64 node, undef, undef, .int .i64 0, .pointer (some ⟨w.heap.size + 1, 0, none⟩), undef, .int .i64 (y : Int), .pointer (some ⟨BD, 0, none⟩), .int .i64 (k : Int), .map (some w.heap.size), .slice pa m ca, .int .i64 node,
          .func (.func 89) #[] #[.pointer (some ⟨w.heap.size + 1 + 1, 0, none⟩), .pointer (some ⟨w.heap.size + 1 + 1 + 1, 0, none⟩)], .slice (some ⟨g, 0, none⟩) ny cr, .int .i64 (ny : Int), .int .i64 (j : Int), .bool true, .pointer (some ⟨g, j, none⟩), .int .i64 (y : Int), .slice pa m ca, .int .i64 (y : Int),
          .func (.func 87) #[] #[.pointer (some ⟨BD + 1, 0, none⟩), .pointer (some ⟨BD + 1 + 1, 0, none⟩)], .int .i64 (k : Int), u24, u25, u26, u27, u28, u29, u30, u31, u32, u33, undef, undef, undef], defers := [] })
        ?assign ?body ?done ?stop
      case assign =>
        intro l x W K hK
        gi_wp2
        exact hK
      case body =>
        rintro l2 q k A ⟨u0, u1, u2, u3⟩ hS hsz
        have hkm : k ∈ kidN t y := by rw [HKN.out]; exact hS.subset (by simp)
        have hky := kidN_lt t y k hkm
        have hkt : k ∈ ys.take j := sorted_take HPW.out HY.out (HP.out.symm.subset (below_closed t node y HYB.out k hkm)) hky
        have hlk := u2.get 83 3 Tryz.underlying83 (zero_int A) (k : Int) (wf_node (show k < t.length by omega) hl)
        have hdm : depM t (ys.take j) (k : Int) = some (.int .i64 (depF t k : Int)) := by unfold depM; rw [if_pos ⟨by omega, by rw [Int.toNat_natCast]; exact hkt⟩, Int.toNat_natCast]
        rw [hdm] at hlk
        simp only [Option.getD_some] at hlk
        obtain ⟨D, hD⟩ := hid_ex (q.foldl (fun a k => max a (depF t k)) 0)
        obtain ⟨dk, hdk⟩ := hid_ex (depF t k)
        rw [hD.out] at u0
        rw [hdk.out] at hlk
        have hmx : max (D : Int) (dk : Int) = ((max D dk : Nat) : Int) := by omega
        have HE : Hid ((q ++ [k]).foldl (fun a k => max a (depF t k)) 0 = max D dk) := by
          show _ = _
          rw [List.foldl_append, hD.out]
          simp only [List.foldl_cons, List.foldl_nil]
          rw [hdk.out]
        have HU2 := Lib.hid u2
        clear hkm hky hkt hdm hD hdk hS u2 d0 d0f d1 d2 hmp3 c3
        gi_wp2
        refine ⟨(Chg.refl (fun _ k => k = BD) A).setCell (Dyn.const _ 0) (p := ⟨BD, 0, none⟩) (Nat.zero_le _) (Nat.zero_le _) (fun _ => rfl) _, ?_, by rw [World.frozen?_setCell]; exact u1, ?_, ?_⟩
        · rw [HE.out]
          exact World.cell?_setCell_same' _ _ _ (by rw [u0]; rfl)
        · exact HU2.out.of_block (Below.heap_setCell A ⟨BD, 0, none⟩ _ w.heap.size (by show w.heap.size ≠ BD; omega))
        · rw [World.cell?_setCell_other _ _ _ _ (fun e => by injection e with e; omega)]; exact u3
      case done =>
        rintro q A rfl ⟨u0, u1, u2, u3⟩ hcA hK hnD
        obtain ⟨D, hD⟩ := hid_ex ((kidsOf y x.2.2.2.2).foldl (fun a k => max a (depF t k)) 0)
        rw [hD.out] at u0
        have hdy : depF t y = D + 1 := by rw [depF_eq, HKN.out, hD.out]
        have hdl := depF_le t y
        have hDl : D ≤ y := by omega
        have hytl : y < 1000000 := by omega
        obtain ⟨W5, hup, hm5, hg5⟩ := u2.put (by omega) 83 3 Tryz.underlying83 (y : Int) (wf_node hyt hl) (.int .i64 ((D : Int) + 1))
        have hbut5 : But (fun k => k = w.heap.size) A W5 := ⟨hg5.os, hg5.tape, hg5.output, hg5.size, fun k hk hn => ⟨hg5.block k hk (fun e => hn (by injection e)), fun e => hn e⟩⟩
        have hcs := hcA.size
        have HB5 : Hid (But (fun k => k = w.heap.size) WS W5) := (show But (fun k => k = w.heap.size) WS A from ⟨hcA.os.trans hbut3.os, hcA.tape.trans hbut3.tape, hcA.output.trans hbut3.output, Nat.le_trans hbut3.size hcA.size, fun k hk hn => ⟨((hcA.both k (Nat.lt_of_lt_of_le hk hbut3.size) (fun e => by omega)).1).trans (hbut3.both k hk hn).1, fun e => hn e⟩⟩).trans hbut5
        have HMA : Hid (Marks A (W3.heap.size :: bs)) := ⟨List.nodup_cons.2 ⟨fun hm => by have := HBS3.out _ hm; omega, HMK3.out.1⟩, fun b hb => by
          rcases List.mem_cons.1 hb with rfl | hb
          · exact hK
          · have hlt := HBS3.out b hb
            exact ((hcA.both b (by omega) (fun e => by omega)).1).trans (HMK3.out.2 b hb)⟩
        have HM5 : Hid (Marks W5 (W3.heap.size :: bs)) := Marks.but HMA.out hbut5 (fun b hb => by
          rcases List.mem_cons.1 hb with rfl | hb
          · intro e; omega
          · have := HBS2.out b hb; intro e; omega)
        have HBS5 : Hid (∀ b ∈ W3.heap.size :: bs, WS.heap.size ≤ b) := fun b hb => by
          rcases List.mem_cons.1 hb with rfl | hb
          · omega
          · exact HBS2.out b hb
        have HMP5 : Hid (MapI W5 w.heap.size (j + 1) (depM t (ys.take (j + 1)))) := hm5.congr (fun z _ => by
          have hts := take_snoc ys j y HY.out
          rw [hts]
          unfold depM
          by_cases hz : z = (y : Int)
          · subst hz
            rw [if_pos rfl, if_pos ⟨by omega, by simp⟩, Int.toNat_natCast, hdy]
            simp
          · rw [if_neg hz]
            by_cases h0 : 0 ≤ z
            · have : (z.toNat ∈ ys.take j ++ [y]) ↔ z.toNat ∈ ys.take j := by
                rw [List.mem_append]
                simp
                intro e; omega
              simp only [this]
            · simp [h0])
        have hw : IntKind.i64.wrap ((D : Int) + 1) = (D : Int) + 1 := IntWalk.i64_in _ (by omega)
        clear hm5 hg5 hbut5 hdy hD u1 u2 d0 d0f d1 d2 hmp3 c3 hcA hK hnD hbut hbut3
        gi_wp2
        exact ⟨⟨j + 1, W3.heap.size :: bs, _, _, _, _, _, _, _, _, _, _, _, _, _, _, _, _, _, _, _, rfl, by omega, HMP5.out, HB5.out, HM5.out, HBS5.out⟩, by simp [intOf]; omega⟩
      case stop =>
        rintro c q A h
        exact h.elim
    · obtain rfl : j = ny := by omega
      rw [HNYE.out, List.take_length] at hmp
      have hlk := hmp.get 83 3 Tryz.underlying83 (zero_int wr) node hwf
      have hres : (depM t ys node).getD (.int .i64 0) = .int .i64 (depthT t node : Int) := by
        unfold depM depthT
        by_cases hn : 0 ≤ node ∧ node < (t.length : Int)
        · rw [if_pos hn, if_pos ⟨hn.1, HP.out.symm.subset (below_self t node hn)⟩]
          rfl
        · have hb : belowT t node = [] := by unfold belowT; rw [if_neg hn]
          have hy : ys = [] := by have := HP.out; rw [hb] at this; exact this.eq_nil
          rw [if_neg hn, hy]
          simp
      rw [hres] at hlk
      obtain ⟨R0, hR0⟩ := hid_ex (depthT t node)
      rw [hR0.out] at hlk
      have hbr : Below w.heap.size w wr := hbS.trans (hbut.below (by omega) (fun k hk e => by omega))
      have HBR := Lib.hid hbr
      clear hres hbr hmp hbut HROW
      gi_wp2
      refine leaves_marks bs _ HMK.out (fun w' h' => ⟨_, results_tmp rfl _ _ _, by rw [hR0.out]; rfl, HBR.out.trans (h'.below (by omega) (fun k hk e => by have := HBS2.out k e; omega))⟩)
theorem Depth_any (w : World) (tv : Value) (t : List NodeD) (ha : ArgT tv t w) (hl : t.length ≤ 1000000) (hks : ∀ x ∈ t, x.2.2.2.2.length ≤ maxLen) (node : Int) (hwf : (Lit.int .i64 node).wf = true) :
    Calls Tryz.prog 21 #[tv, .int .i64 node] w fun e w' => e = .returned (.int .i64 (depthT t node : Int)) ∧ Below w.heap.size w w' :=
  (callsIn_wide (n := 3)).1 (Depth_in Fence.wide rfl fen_wide 3 w tv t ha hl hks node hwf)
end Go.Proofs.YtkmmcphiijolkaaGreatDoor

set_option linter.unusedVariables false
set_option linter.unusedSimpArgs false
namespace Go.Proofs.YtkmmcphiijolkaaGreatDoor
open Go.RowKit Go.Shelf
open Tr

/-- A builder: its block, and what it holds. -/
structure Bld (base bB : Nat) (v : Value) (P : List (NodeD × Value)) (w : World) : Prop where
  blk : w.heap[bB]? = some (.cells #[v] 44 (0, 0))
  row : TRow base v P w
  hb : base ≤ bB
  form : ∃ p c, v = .slice p P.length c
theorem Bld.cell {base bB : Nat} {v : Value} {P : List (NodeD × Value)} {w : World} (h : Bld base bB v P w) : w.cell? ⟨bB, 0, none⟩ = some v := by
  rw [cell_of_row w bB 0 _ _ _ h.blk]; rfl
theorem Bld.frozen {base bB : Nat} {v : Value} {P : List (NodeD × Value)} {w : World} (h : Bld base bB v P w) : w.frozen? ⟨bB, 0, none⟩ = false := by
  have := h.blk
  simp [World.frozen?, this]
theorem Bld.below {base bB : Nat} {v : Value} {P : List (NodeD × Value)} {w w' : World} (h : Bld base bB v P w) (hb : Below w.heap.size w w') : Bld base bB v P w' :=
  ⟨(hb.block bB (Array.getElem?_eq_some_iff.1 h.blk).1).trans h.blk, h.row.below hb, h.hb, h.form⟩
theorem Bld.ne {base bB : Nat} {v : Value} {P : List (NodeD × Value)} {w : World} (h : Bld base bB v P w) : v.ownBlock ≠ some bB := by
  intro e
  rcases h.row.1.2 with ⟨rfl, _⟩ | ⟨g, cap, cur, rfl, _, hgb, _⟩
  · simp [Value.ownBlock] at e
  · simp only [Value.ownBlock, Option.some.injEq] at e
    subst e
    have := h.blk
    rw [hgb] at this
    injection this with this
    injection this with _ h2
    exact absurd h2 (by decide)
theorem KRow.set {v : Value} {l : List Int} {w : World} (h : KRow v l w) {bB : Nat} {u x : Value} {T : TypeId} {fr : Nat × Nat} (hb : w.heap[bB]? = some (.cells #[u] T fr)) (hu : ∀ i, u ≠ .int .i64 i) : KRow v l (w.setCell ⟨bB, 0, none⟩ x) := by
  obtain ⟨pa, cap, e, hc⟩ := h
  refine ⟨pa, cap, e, fun k c hk => ?_, hc.2⟩
  obtain ⟨g, o, e2, hg, a0⟩ := hc.1 k c hk
  refine ⟨g, o, e2, by simpa [World.setCell] using hg, ?_⟩
  have hne : g ≠ bB := by
    rintro rfl
    rw [cell_of_row w g (o + k) _ _ _ hb] at a0
    cases ho : o + k with
    | zero => rw [ho] at a0; simp at a0; exact hu _ a0
    | succ j => rw [ho] at a0; simp at a0
  rw [World.cell?_of_block (w := w) (Below.heap_setCell w ⟨bB, 0, none⟩ x g hne)]
  exact a0
theorem TRow.set {base : Nat} {v : Value} {P : List (NodeD × Value)} {w : World} (h : TRow base v P w) {bB : Nat} {u x : Value} {T : TypeId} {fr : Nat × Nat} (hb : w.heap[bB]? = some (.cells #[u] T fr)) (hu : ∀ i, u ≠ .int .i64 i) (hne : v.ownBlock ≠ some bB) : TRow base v P (w.setCell ⟨bB, 0, none⟩ x) := by
  refine ⟨⟨h.1.1, ?_⟩, fun p hp => ⟨(h.2 p hp).1.set hb hu, (h.2 p hp).2⟩⟩
  rcases h.1.2 with h2 | ⟨g, cap, cur, rfl, hg, hgb, r⟩
  · exact Or.inl h2
  · exact Or.inr ⟨g, cap, cur, rfl, hg, (Below.heap_setCell w ⟨bB, 0, none⟩ x g (fun e => hne (by simp only at e; rw [← e]; rfl))).trans hgb, r⟩
theorem kidsOf_length (i : Nat) : ∀ l : List Int, (kidsOf i l).length ≤ l.length
  | [] => Nat.le_refl _
  | x :: l => by
    have := kidsOf_length i l
    simp only [kidsOf]
    split <;> simp <;> omega
def castL (l : List Nat) : List Int := l.map fun x : Nat => (x : Int)

theorem own_krow {base : Nat} {v : Value} {ys : List Nat} {w : World} (h : w.ownsRow base 3 1 v ys.length (ys.map fun x : Nat => .int .i64 (x : Int))) :
    ∃ p c, v = .slice p ys.length c ∧ KRow v (castL ys) w ∧ ∀ g, v.ownBlock = some g → base ≤ g := by
  obtain ⟨pr, cr, e, hrow⟩ := own_form h
  subst e
  refine ⟨pr, cr, rfl, ⟨pr, cr, by rw [castL, List.length_map], fun k c hk => ?_, ?_⟩, fun g e => (h.lt g e).1⟩
  · rw [castL, List.getElem?_map] at hk
    cases hy : ys[k]? with
    | none => rw [hy] at hk; simp at hk
    | some y =>
      rw [hy] at hk
      simp only [Option.map_some, Option.some.injEq] at hk
      subst hk
      obtain ⟨g, e, _, hg, hc⟩ := hrow k y hy
      exact ⟨g, 0, e, hg, by rw [Nat.zero_add]; exact hc⟩
  · rw [castL, List.length_map]
    rcases h.2 with ⟨e, hn⟩ | ⟨g, cap, cur, e, hg, hgb, hnc, _⟩
    · rw [hn]; exact Nat.zero_le _
    · injection e with e1 e2 e3
      rw [e3]; exact hnc
/-- Nodes that are written out are appended to a row of the call's own; what turned, and where it lies now. -/
theorem wpList_tapp2 {ops : Array Oper} {rest : List Oper} {o : Oper} {a : Act} {Q' : Exit → Act → World → Prop} (hgd : o.guard = none) (s x : Operand)
    (ho : o.op = .call { callee := .builtin .append, args := #[s, x], argTypes := #[23, 23] }) (base : Nat) (v : Value) (P : List (NodeD × Value)) (w : World) (hT : TRow base v P w) (hbase : base ≤ w.heap.size) (w2 : World) (hb : Below w.heap.size w w2)
    (Q : List (NodeD × Value)) (n m : Nat) (hn : P.length = n) (hm : Q.length = m) (hQ : 0 < m) (cs : Array Value) (hcs : cs.toList = flatT Q) (hs : a.eval s = v) (hx : a.eval x = .slice (some ⟨w2.heap.size, 0, none⟩) m m)
    (hq : ∀ q ∈ Q, KRow q.2 q.1.2.2.2.2 w2 ∧ (q.1.2.2.2.2 ≠ [] → ∀ g, q.2.ownBlock = some g → w.heap.size ≤ g)) (hlen : n + m ≤ 1000000)
    (h : ∀ g c w', Hid (TRow base (.slice (some ⟨g, 0, none⟩) (n + m) c) (P ++ Q) w') → Hid ((P ++ Q).length = n + m) → Hid (But (fun k => v.ownBlock = some k) w w') → Hid (some g = v.ownBlock ∨ w.heap.size ≤ g) → wpList Tryz.prog ops Q' rest (a.put o.dst (.slice (some ⟨g, 0, none⟩) (n + m) c)) w') :
    wpList Tryz.prog ops Q' (o :: rest) a (w2.alloc (.cells cs 39)) := by
  subst hn
  subst hm
  obtain ⟨i0, hi, hz0, hz1, hz2⟩ := info_parts infoNode
  have hb2 : Below w.heap.size w (w2.alloc (.cells cs 39)) := hb.alloc hb.size _
  have hown : (w2.alloc (.cells cs 39)).ownsRow base 39 5 v P.length (flatT P) := (hT.below hb2).1
  refine wpList_append_own_at _ hgd s x 23 ho base 39 i0 _ 5 64 Tryz.underlying23 hi hz0 hz1 hz2 rfl (by decide) v P.length (flatT P) hs hown ⟨w2.heap.size, 0, none⟩ Q.length Q.length (flatT Q) hx (flatT_length Q) (nodesL w2 Q cs hcs) ?_ (by unfold maxLen; omega) (by omega) (by have := hb.size; simp; omega) ?_
  · intro u hu
    rcases flatT_one Q u hu with ⟨i, rfl⟩ | ⟨s, rfl⟩ | ⟨q, hqm, rfl⟩
    · rfl
    · rfl
    · obtain ⟨pa, cap, e, _⟩ := (hq q hqm).1
      rw [e]; rfl
  · intro v' w' hown' hgrow _ hloc
    have hT' := hT.app hb2 hown' hgrow hloc (fun q hqm => ⟨(hq q hqm).1.below ((Below.refl _ _).alloc (Nat.le_refl _) _), (hq q hqm).2⟩)
    obtain ⟨g, c, rfl⟩ := hT'.form (by rw [List.length_append]; omega)
    rw [List.length_append] at hT' ⊢
    have hs2 := hb2.size
    refine h g c w' hT' (show _ = _ by rw [List.length_append]) (show But _ _ _ from ⟨hgrow.os.trans hb2.os, hgrow.tape.trans hb2.tape, hgrow.output.trans hb2.output, Nat.le_trans hs2 hgrow.size, fun k hk hn => ⟨(hgrow.block k (by omega) (fun e => hn e.symm)).trans (hb2.block k hk), fun e => hn e⟩⟩) ?_
    show _ ∨ _
    rcases hloc with e | e
    · exact Or.inl e
    · simp only [Value.ownBlock, Option.some.injEq] at e
      exact Or.inr (by omega)

set_option maxHeartbeats 8000000 in
set_option maxRecDepth 100000 in
theorem Add_any (base bB : Nat) (v : Value) (P : List (NodeD × Value)) (w : World) (hB : Bld base bB v P w) (hbase : base ≤ w.heap.size) (op at_ n : Int) (s : ByteArray) (kv : Value) (ks : List Int) (hk : KRow kv ks w) (hkl : ks.length ≤ 1000000) (hP : P.length + 1 ≤ 1000000) :
    Calls Tryz.prog 18 #[.pointer (some ⟨bB, 0, none⟩), .int .i64 op, .int .i64 at_, .string s, .int .i64 n, kv] w fun e w' => e = .returned (.int .i64 (P.length : Int)) ∧ ∃ v' vk, Bld base bB v' (P ++ [((op, at_, s.data.toList, n, castL (kidsOf P.length ks)), vk)]) w' ∧
      But (fun k => k = bB ∨ v.ownBlock = some k) w w' ∧ (v'.ownBlock = v.ownBlock ∨ ∃ g, v'.ownBlock = some g ∧ w.heap.size ≤ g) ∧ ∀ g, vk.ownBlock = some g → w.heap.size ≤ g := by
  have HB := Lib.hid hB
  have c0 := hB.cell
  obtain ⟨pv, cv, rfl⟩ := hB.form
  have hbl := (Array.getElem?_eq_some_iff.1 hB.blk).1
  have HK := Lib.hid hk
  obtain ⟨pk, ck, rfl, fk⟩ := hk
  obtain ⟨m, hm⟩ : ∃ m, m = P.length := ⟨_, rfl⟩
  have HM := Lib.hid hm
  rw [← hm] at c0 hP HB ⊢
  obtain ⟨q, hq⟩ : ∃ q, q = ks.length := ⟨_, rfl⟩
  rw [← hq] at HK ⊢
  have hah := ahead_in Fence.wide 3 trivial rfl (.slice pk q ck) (m : Int) w pk q ck rfl
  have hah' := callsIn_wide.1 hah
  have hb2 : Below w.heap.size w ((w.alloc (.cells #[.slice pk q ck] 24)).alloc (.cells #[.int .i64 (m : Int)] 3)) := ((Below.refl _ _).alloc (Nat.le_refl _) _).alloc (by simp) _
  have hs2 : ((w.alloc (.cells #[.slice pk q ck] 24)).alloc (.cells #[.int .i64 (m : Int)] 3)).heap.size = w.heap.size + 2 := by simp
  have d1 : ((w.alloc (.cells #[.slice pk q ck] 24)).alloc (.cells #[.int .i64 (m : Int)] 3)).cell? ⟨w.heap.size, 0, none⟩ = some (.slice pk q ck) := by
    rw [World.cell?_alloc_past _ _ _ (by simp), World.cell?_alloc_at _ _ _ _ rfl]; rfl
  have d2 : ((w.alloc (.cells #[.slice pk q ck] 24)).alloc (.cells #[.int .i64 (m : Int)] 3)).cell? ⟨w.heap.size + 1, 0, none⟩ = some (.int .i64 (m : Int)) := by
    rw [World.cell?_alloc_at _ _ _ _ (by simp)]; rfl
  obtain ⟨W2, hW2⟩ : ∃ W2, W2 = ((w.alloc (.cells #[.slice pk q ck] 24)).alloc (.cells #[.int .i64 (m : Int)] 3)) := ⟨_, rfl⟩
  rw [← hW2] at hb2 hs2 d1 d2
  have hit : IterR Fence.wide 87 #[.pointer (some ⟨w.heap.size, 0, none⟩), .pointer (some ⟨w.heap.size + 1, 0, none⟩)] (fun pre => pre <+: kidsOf m ks) (fun xs => xs = kidsOf m ks) W2 :=
    fun n Wc R hbc hD hR0 => ahead_gives Fence.wide rfl rfl n trivial w (.slice pk q ck) ks HK.out (by unfold maxLen; omega) m w.heap.size (w.heap.size + 1) R Wc hD (hb2.trans (hbc.mono hb2.size)) (fun A k e => by have := hR0 A k e; omega) (by have := hbc.size; omega) (by have := hbc.size; omega) (fun e => by have := hR0 _ _ e; omega)
      ((hbc.cell (p := ⟨w.heap.size, 0, none⟩) (by show w.heap.size < _; omega)).trans d1) ((hbc.cell (p := ⟨w.heap.size + 1, 0, none⟩) (by show w.heap.size + 1 < _; omega)).trans d2)
  have hlenk : ∀ q, q <+: kidsOf m ks → q.length ≤ 1000000 := fun q hq => Nat.le_trans hq.length_le (Nat.le_trans (kidsOf_length m ks) hkl)
  have hcol := callsIn_wide.1 (Collect_in Fence.wide fen_wide 3 W2 87 _ trivial (enters_of Tryz.func87 (by kernel_rfl) rfl) (fun pre => pre <+: kidsOf m ks) (fun xs => xs = kidsOf m ks) hlenk hit)
  have hcol2 := hcol.mono (R' := fun e W3 => ∃ (pr : Option Addr) (nr cr : Nat), e = .returned (.slice pr nr cr) ∧ Hid (KRow (.slice pr nr cr) (castL (kidsOf m ks)) W3) ∧ Hid (∀ g, (Value.slice pr nr cr).ownBlock = some g → w.heap.size ≤ g) ∧ Hid (Below w.heap.size w W3)) (by
    rintro e W3 ⟨v, xs, rfl, rfl, hown, hb3⟩
    obtain ⟨p, c, rfl, h1, h2⟩ := own_krow hown
    exact ⟨p, _, c, rfl, h1, fun g e => by have := h2 g e; omega, hb2.trans (hb3.mono hb2.size)⟩)
  rw [hW2] at hcol2
  have HCF : Hid (∀ w5, But (fun k => (Value.slice pv m cv).ownBlock = some k) w w5 → w5.cell? ⟨bB, 0, none⟩ = some (.slice pv m cv) ∧ w5.frozen? ⟨bB, 0, none⟩ = false) := fun w5 h5 => by
    have h1 := (h5.both bB hbl HB.out.ne).1
    exact ⟨(World.cell?_of_block (a := ⟨bB, 0, none⟩) h1).trans c0, (World.frozen?_of_block (a := ⟨bB, 0, none⟩) h1).trans HB.out.frozen⟩
  have HS : Hid ((⟨s.data.toList.toArray⟩ : ByteArray) = s) := (show _ = _ by simp)
  clear hah hB fk hm hq hit hcol hlenk hb2 hs2 d1 d2 hW2
  go_enter Tryz.func18, Tryz.ntmps18
  go_wp2_with (first
    | (go_at_call 40; refine hah'.mono ?_; clear hah'; rintro e w' ⟨rfl, rfl⟩)
    | (go_at_call 39; refine hcol2.mono ?_; clear hcol2; rintro e W3 ⟨pr, nr, cr, rfl, HKR, HKB, HB3⟩; have c3 := (HB3.out.cell (p := ⟨bB, 0, none⟩) hbl).trans c0)
    | (at_builtin; refine wpList_tapp2 rfl _ _ rfl base _ P w HB.out.row hbase _ HB3.out [((op, at_, s.data.toList, n, castL (kidsOf m ks)), .slice pr nr cr)] m 1 HM.out.symm rfl (by decide) _ (by simp [flatT, flatN]) rfl (by rfl) (by intro q hq; simp only [List.mem_cons, List.not_mem_nil, or_false] at hq; subst hq; exact ⟨HKR.out, fun _ => HKB.out⟩) (by omega) ?_; intro g5 c5 w5 HT5 HL5 HBut HLoc; have c6 := (HCF.out w5 HBut.out).1; have f6 := (HCF.out w5 HBut.out).2))
  go_ret
  have hblk5 : w5.heap[bB]? = some (.cells #[.slice pv m cv] 44 (0, 0)) := ((HBut.out.both bB hbl HB.out.ne).1).trans HB.out.blk
  have hne5 : (Value.slice (some ⟨g5, 0, none⟩) (m + 1) c5).ownBlock ≠ some bB := by
    intro e
    simp only [Value.ownBlock, Option.some.injEq] at e
    subst e
    rcases HLoc.out with h | h
    · exact HB.out.ne h.symm
    · omega
  refine ⟨rfl, _, .slice pr nr cr, ⟨?_, HT5.out.set hblk5 (fun i e => by cases e) hne5, HB.out.hb, ⟨_, _, by rw [HL5.out]⟩⟩, But.setCell (p := fun k => k = bB ∨ (Value.slice pv m cv).ownBlock = some k) (HBut.out.more fun k _ e => Or.inr e) (x := ⟨bB, 0, none⟩) (fun _ => Or.inl rfl) _, ?_, HKB.out⟩
  · simp [World.setCell, Array.getElem?_modify, hblk5]
  · rcases HLoc.out with h | h
    · exact Or.inl h
    · exact Or.inr ⟨g5, rfl, h⟩
end Go.Proofs.YtkmmcphiijolkaaGreatDoor
