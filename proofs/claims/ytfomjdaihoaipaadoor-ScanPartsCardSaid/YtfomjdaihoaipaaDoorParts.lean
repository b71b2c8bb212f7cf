/-
  The tokens of a line, a blank, and another line are those of both: the walk of the statement ScanParts.
-/
import Derived.Test.YtfomjdaihoaipaaDoorPlaces
import Derived.Test.YtfomjdaihoaipaaDoorJoins
set_option linter.unusedVariables false
set_option linter.unusedSimpArgs false
namespace Go.Proofs.YtfomjdaihoaipaaDoor
open Go.RowKit Go.Shelf

/-- A row that lies at an address, with room for what it has. -/
theorem Row4.laid {B : Nat} {v : Value} {l : List T4} {w : World} (h : Row4 B v l w) (hv : v ≠ .slice none 0 0) : ∃ g cap, v = .slice (some ⟨g, 0, none⟩) l.length cap ∧ l.length ≤ cap ∧ g < w.heap.size ∧ B ≤ g ∧ ∀ j u, (l.flatMap c4)[j]? = some u → w.cell? ((⟨g, 0, none⟩ : Addr).add j) = some u := by
  have hc := fun g hg j u hj => World.ownsRow.cells h (g := g) hg j u hj
  rcases h.2 with ⟨rfl, hn⟩ | ⟨g, cap, cur, rfl, hbg, hg, hcap, _⟩
  · exact absurd rfl hv
  · exact ⟨g, cap, rfl, hcap, heap_of_some hg, hbg, fun j u hj => hc g rfl j u hj⟩

set_option maxHeartbeats 4000000 in
set_option maxRecDepth 100000 in
/-- As shift_any; and the row that comes lies at an address. -/
theorem shift_laid (B : Nat) (va : Value) (l : List T4) (by_ : Int) (w : World) (ha : Row4 B va l w) (hl : l.length ≤ 1000000) :
    Calls Tryd.prog 30 #[va, .int .i64 by_] w fun e w' => ∃ v', e = .returned v' ∧ v' ≠ .slice none 0 0 ∧ Row4 w.heap.size v' (l.map (sh4 by_)) w' ∧ Below w.heap.size w w' := by
  obtain ⟨i0, hi, hz0, hz1, hz2⟩ := info_parts infoTok
  obtain ⟨pa, ca, rfl, fa⟩ := ha.form
  have FA := Lib.hid fa
  clear fa ha
  go_enter Tryd.func30, Tryd.ntmps30
  go_wp2_with fail
  go_loopw [5, 6] (fun v5 v6 wr => ∃ k : Nat, v6 = .int .i64 k ∧ k ≤ l.length ∧ Hid (v5 ≠ .slice none 0 0) ∧ Row4 w.heap.size v5 ((l.take k).map (sh4 by_)) wr ∧ Below w.heap.size w wr) (fun _ v6 wr => l.length - (intOf v6).toNat)
  case atStart =>
    refine ⟨0, rfl, Nat.zero_le _, ?_, ?_, ?_⟩
    · show _ ≠ _; simp
    · exact row_lit w [] #[] rfl (by decide)
    · exact (Below.refl _ w).alloc (Nat.le_refl _) _
  case round =>
    obtain ⟨k, rfl, hk, HNE, hrow, hbel⟩ := hrel
    by_cases hlt : k < l.length
    · obtain ⟨x, hx⟩ : ∃ x, l[k]? = some x := ⟨_, List.getElem?_eq_getElem hlt⟩
      obtain ⟨g, rfl, hg, _, a0, a1, a2, a3⟩ := FA.out k x hx
      have b0 := (hbel.cell (p := ⟨g, k * 4, none⟩) hg).trans a0
      have b1 := (hbel.cell (p := ⟨g, k * 4 + 1, none⟩) hg).trans a1
      have b2 := (hbel.cell (p := ⟨g, k * 4 + 2, none⟩) hg).trans a2
      have b3 := (hbel.cell (p := ⟨g, k * 4 + 3, none⟩) hg).trans a3
      clear a0 a1 a2 a3
      have hgw : g < wr.heap.size := Nat.lt_of_lt_of_le hg hbel.size
      clear FA
      have hz1' : w.heap.size ≤ wr.heap.size := hbel.size
      have hlen : ((l.take k).map (sh4 by_)).length = k := by rw [List.length_map, List.length_take]; omega
      obtain ⟨m, HM⟩ := hid_ex ((l.take k).map (sh4 by_))
      rw [HM.out] at hlen hrow
      have hrow' : wr.ownsRow w.heap.size 36 4 _ m.length (m.flatMap c4) := hrow
      clear hrow
      go_wp2_with (at_builtin; refine wpList_append_own _ rfl _ _ 23 rfl w.heap.size 36 i0 (.agg #[.int .i64 0, .int .i64 0, .string ⟨#[]⟩, .int .i64 0]) 4 40 Tryd.underlying23 hi hz0 hz1 hz2 rfl (by decide) _ _ _ rfl ((hrow'.alloc _).alloc _) ⟨wr.heap.size + 1, 0, none⟩ 1 1 [.int .i64 x.1, .int .i64 (wrap64 (x.2.1 + by_)), .string ⟨x.2.2.1.toArray⟩, .int .i64 x.2.2.2] rfl rfl ?c1 ?c2 ?c3 ?c4 ?c5 ?_)
      case c1 =>
        intro j u hj
        match j, hj with
        | 0, hj => simp at hj; subst hj; simp [Addr.add]
        | 1, hj => simp at hj; subst hj; simp [Addr.add]
        | 2, hj => simp at hj; subst hj; simp [Addr.add]
        | 3, hj => simp at hj; subst hj; simp [Addr.add]
      case c2 => intro u hu; simp at hu; rcases hu with rfl | rfl | rfl | rfl <;> rfl
      case c3 => unfold maxLen; omega
      case c4 => omega
      case c5 => simp; omega
      intro v' w2 hown' hgrow hnil
      have HNE' : Hid (v' ≠ .slice none 0 0) := hnil
      have hbel2 : Below w.heap.size w w2 := ((hbel.alloc hz1' _).alloc (by simp; omega) _).grown hgrow (by simp; omega) (fun k hk => (hrow'.lt k hk).1)
      have hrow2 : Row4 w.heap.size v' ((l.take (k + 1)).map (sh4 by_)) w2 := by
        have e : (l.take (k + 1)).map (sh4 by_) = m ++ [sh4 by_ x] := by
          rw [List.take_add_one, hx, List.map_append, HM.out]
          rfl
        unfold Row4
        rw [e, List.length_append, List.flatMap_append, hlen]
        exact hown'
      clear hown' hgrow hrow' hbel hz1' hlen HM hx HNE hnil
      go_wp2_with fail
      go_roundw
      case rel => exact ⟨k + 1, by go_num, by omega, HNE', hrow2, hbel2⟩
      case measure => simp [intOf]; omega
    · clear FA
      go_wp2_with fail
      go_ret
      rw [List.take_of_length_le (by omega)] at hrow
      exact ⟨_, rfl, HNE.out, hrow, hbel⟩

theorem parts_moved (at_ : Int) (d n : Nat) (us : List (Nat × Sp.Tk)) (z : Int) (hz : z = wrap64 (wrap64 (at_ + (n : Int)) + 1)) (hd : d = n + 1) : (us.map (abs4 0)).map (sh4 z) = (Sp.moved d us).map (abs4 at_) := by
  unfold Sp.moved
  rw [List.map_map, List.map_map]
  apply List.map_congr_left
  intro x _
  simp only [Function.comp, sh4, abs4]
  congr 2
  subst hz hd
  unfold wrap64
  omega
theorem line_tuple (s : ByteArray) (hs : s.size ≤ 60000) (at_ : Int) (w : World) (hE : Env w) :
    Calls Tryd.prog 16 #[.string s, .int .i64 at_] w fun e w' => (∃ v1 v2 v3, e = .returned (.tuple #[v1, v2, v3])) ∧ Below w.heap.size w w' := by
  refine (line_any s hs at_ w hE).mono ?_
  rintro e w' ⟨hl, hb⟩
  obtain ⟨v1, v2, v3, he, _⟩ := kind_tuple (kind_of hl)
  exact ⟨⟨v1, v2, v3, he⟩, hb⟩

theorem line_told {s : ByteArray} {p : Nat} {er z : Int} (h : Hid (Sp.lex s.data.toList = .error (p, er))) (hs : s.size ≤ 60000) (at_ : Int) (hz : Hid (wrap64 (at_ + (p : Int)) = z)) (w : World) (hE : Env w) :
    Calls Tryd.prog 16 #[.string s, .int .i64 at_] w fun e w' => e = .returned (.tuple #[.slice none 0 0, .int .i64 z, .int .i64 er]) ∧ Below w.heap.size w w' := by
  have hz := hz.out
  subst hz
  exact line_is h hs at_ w hE
theorem row_take (l : List T4) (n : Nat) (j : Nat) (u : Value) (h : ((l.take n).flatMap c4)[j]? = some u) : (l.flatMap c4)[j]? = some u := by
  have e : l.flatMap c4 = (l.take n).flatMap c4 ++ (l.drop n).flatMap c4 := by rw [← List.flatMap_append, List.take_append_drop]
  rw [e, List.getElem?_append_left ((List.getElem?_eq_some_iff.1 h).1)]
  exact h
theorem c4_len (l : List T4) : (l.flatMap c4).length = l.length * 4 := by
  induction l with
  | nil => rfl
  | cons x l ih => rw [List.flatMap_cons, List.length_append, ih]; simp [c4]; omega
theorem c4_one (l : List T4) : ∀ u ∈ l.flatMap c4, u.oneCell' = true := by
  intro u hu
  obtain ⟨x, _, hx⟩ := List.mem_flatMap.1 hu
  simp [c4] at hx
  rcases hx with rfl | rfl | rfl | rfl <;> rfl

namespace lawParts
set_option maxHeartbeats 16000000 in
set_option maxRecDepth 100000 in
theorem walk (a b : ByteArray) (at_ : Int) (ha : a.size ≤ maxLen) (hb : b.size ≤ maxLen) (w : World) (hE : Env w) : Calls Tryd.prog 7 #[.string a, .string b, .int .i64 at_] w fun e w' => e = .returned (.bool true) ∧ Below w.heap.size w w' := by
  obtain ⟨x, HF⟩ := hid_ex (a.extract 0 (min a.size 100))
  have hx : x.size ≤ 100 := by rw [← HF.out]; simp [ByteArray.size_extract]; omega
  obtain ⟨y, HG⟩ := hid_ex (b.extract 0 (min b.size 100))
  have hy : y.size ≤ 100 := by rw [← HG.out]; simp [ByteArray.size_extract]; omega
  obtain ⟨xx, HXX⟩ := hid_ex (x ++ (⟨#[32, 120]⟩ : ByteArray))
  have hxx : xx.data.toList = x.data.toList ++ [32, 120] := by rw [← HXX.out]; simp
  have hxs : xx.size = x.size + 2 := by rw [← size_list, hxx, List.length_append, size_list]; rfl
  obtain ⟨xy, HXY⟩ := hid_ex (x ++ (⟨#[32]⟩ : ByteArray) ++ y)
  have hxy : xy.data.toList = x.data.toList ++ 32 :: y.data.toList := by rw [← HXY.out]; simp
  have hxys : xy.size = x.size + 1 + y.size := by rw [← size_list, hxy, List.length_append, List.length_cons, size_list, size_list]; omega
  obtain ⟨X, HX⟩ := hid_ex (Sp.lex xx.data.toList)
  go_enter Tryd.func7, Tryd.ntmps7
  go_wp2_with fail
  refine (shown_any w hE).mono ?_
  rintro e w1 ⟨rfl, hb1⟩
  have hE1 := hE.below hb1 hE.size
  go_wp2_with fail
  refine (few_any a w1 ha).mono ?_
  rintro e w1' ⟨rfl, rfl⟩
  rw [HF.out]
  go_wp2_with fail
  refine (few_any b w1 hb).mono ?_
  rintro e w1' ⟨rfl, rfl⟩
  rw [HG.out]
  go_wp2_with fail
  rw [HXX.out]
  refine (line_is HX (by omega) at_ w1 hE1).mono ?_
  rintro e w2 ⟨hl2, hb2'⟩
  have hb2 := hb1.trans (hb2'.mono hb1.size)
  have hE2 := hE.below hb2 hE.size
  clear hb2' hb1 hE1 HF HG
  have simple : ∀ v1 v2 v3 : Value, True := fun _ _ _ => trivial
  cases X with
  | error q =>
    obtain ⟨p, er⟩ := q
    obtain rfl := hl2
    have her := (lex_err HX.out).1
    have hj := HX.out
    rw [hxx] at hj
    have hj := Sp.lex_join_err hj
    clear simple
    go_wp2_with fail
    refine (line_tuple y (by omega) 0 w2 hE2).mono ?_
    rintro e w3 ⟨⟨v13, v14, v15, rfl⟩, hb3'⟩
    have hb3 := hb2.trans (hb3'.mono hb2.size)
    have hE3 := hE.below hb3 hE.size
    clear hb3' hb2 hE2
    by_cases h12 : er = 12
    · subst h12
      clear her hj
      go_wp2_with fail
      rw [HXY.out]
      refine (line_tuple xy (by omega) at_ w3 hE3).mono ?_
      rintro e w4 ⟨⟨v16, v17, v18, rfl⟩, hb4'⟩
      have hb4 := hb3.trans (hb4'.mono hb3.size)
      clear hb4' hb3 hE3 HX HXX HXY
      go_wp2_with fail
      go_ret
      exact ⟨rfl, hb4⟩
    · have hu := hj.resolve_left h12 y.data.toList
      rw [← hxy] at hu
      have HU := Lib.hid hu
      have g0 : ((er : Int) == 0) = false := by rcases her with rfl | rfl | rfl <;> decide
      have g12 : ((er : Int) == 12) = false := by simp; exact h12
      clear her hj hu h12
      go_wp2_with fail
      rw [HXY.out]
      refine (line_is HU (by omega) at_ w3 hE3).mono ?_
      rintro e w4 ⟨rfl, hb4'⟩
      have hb4 := hb3.trans (hb4'.mono hb3.size)
      clear hb4' hb3 hE3 HX HXX HXY HU
      go_wp2_with fail
      go_ret
      exact ⟨rfl, hb4⟩
  | ok ts =>
    obtain ⟨va, rfl, hra⟩ := hl2
    have RA := hra.row4
    have hcnt := Sp.lex_count HX.out
    rw [size_list] at hcnt
    clear hra simple
    by_cases h0 : ts.length = 0
    · obtain ⟨pa, ca, rfl, _⟩ := RA.form
      have hl0 : (ts.map (abs4 at_)).length = 0 := by rw [List.length_map]; exact h0
      rw [hl0]
      clear hcnt RA HX HXX h0 hl0
      go_wp2_with fail
      refine (line_tuple y (by omega) 0 w2 hE2).mono ?_
      rintro e w3 ⟨⟨v13, v14, v15, rfl⟩, hb3'⟩
      have hb3 := hb2.trans (hb3'.mono hb2.size)
      have hE3 := hE.below hb3 hE.size
      clear hb3' hb2 hE2
      go_wp2_with fail
      rw [HXY.out]
      refine (line_tuple xy (by omega) at_ w3 hE3).mono ?_
      rintro e w4 ⟨⟨v16, v17, v18, rfl⟩, hb4'⟩
      have hb4 := hb3.trans (hb4'.mono hb3.size)
      clear hb4' hb3 hE3 HXY
      go_wp2_with fail
      go_ret
      exact ⟨rfl, hb4⟩
    · obtain ⟨z, hz⟩ : ∃ z, ts[ts.length - 1]? = some z := ⟨_, List.getElem?_eq_getElem (by omega)⟩
      have hva : va ≠ .slice none 0 0 := by
        intro e
        obtain ⟨pa, ca, e2, _⟩ := RA.form
        rw [e] at e2
        simp at e2
        exact h0 (by rw [e2.2.1])
      obtain ⟨g, cap, rfl, hcap, hg, _, hcells⟩ := RA.laid hva
      have at0 := fun j (hj : j < 4) u (hu : (c4 (abs4 at_ z))[j]? = some u) => hcells ((ts.length - 1) * 4 + j) u (by rw [c4_at _ _ _ hj, List.getElem?_map, hz]; exact hu)
      have a0 := at0 0 (by omega) _ rfl
      have a1 := at0 1 (by omega) _ rfl
      have a2 := at0 2 (by omega) _ rfl
      have a3 := at0 3 (by omega) _ rfl
      simp only [Addr.add_lit, Nat.zero_add, Nat.add_zero, abs4] at a0 a1 a2 a3
      have hcmp := fun wx => neq_tok wx z.2.kind (wrap64 (at_ + (z.1 : Int))) z.2.num 1 (wrap64 (wrap64 (at_ + (x.size : Int)) + 1)) 0 ⟨z.2.text.toArray⟩ ⟨#[120]⟩
      obtain ⟨bb, HB⟩ := hid_ex (!(z.2.kind == 1 && (wrap64 (at_ + (z.1 : Int)) == wrap64 (wrap64 (at_ + (x.size : Int)) + 1) && ((⟨z.2.text.toArray⟩ : ByteArray).toList == (⟨#[120]⟩ : ByteArray).toList && z.2.num == 0))))
      rw [HB.out] at hcmp
      obtain ⟨zk, hzk⟩ : ∃ zk, zk = z.2.kind := ⟨_, rfl⟩
      obtain ⟨za, hza⟩ : ∃ za, za = wrap64 (at_ + (z.1 : Int)) := ⟨_, rfl⟩
      obtain ⟨zt, hzt⟩ : ∃ zt : ByteArray, zt = ⟨z.2.text.toArray⟩ := ⟨_, rfl⟩
      obtain ⟨zn, hzn⟩ : ∃ zn, zn = z.2.num := ⟨_, rfl⟩
      rw [← hzk] at a0 hcmp
      rw [← hza] at a1 hcmp
      rw [← hzt] at a2 hcmp
      rw [← hzn] at a3 hcmp
      have hn1 : (ts.map (abs4 at_)).length = ts.length := List.length_map _
      rw [hn1] at hcap ⊢
      have hw1 : IntKind.i64.wrap ((ts.length : Int) - 1) = (ts.length : Int) - 1 := IntWalk.i64_in _ (by omega)
      have hw2 : 0 ≤ (ts.length : Int) - 1 := by omega
      have hw3 : (ts.length : Int) - 1 < (ts.length : Int) := by omega
      have hw4 : ((ts.length : Int) - 1).toNat = ts.length - 1 := by omega
      have hw5 : (ts.length : Int) - 1 ≤ (cap : Int) := by omega
      have gl0 : ((ts.length : Int) == 0) = false := by rw [Bool.eq_false_iff]; intro h; have := eq_of_beq h; omega
      cases bb with
      | true =>
        clear RA HX HXX h0 HB hzk hza hzt hzn hcells at0 hva hn1 hz
        go_wp2_with fail
        refine (line_tuple y (by omega) 0 w2 hE2).mono ?_
        rintro e w3 ⟨⟨v13, v14, v15, rfl⟩, hb3'⟩
        replace a0 := (hb3'.cell (p := ⟨g, (ts.length - 1) * 4, none⟩) hg).trans a0
        replace a1 := (hb3'.cell (p := ⟨g, (ts.length - 1) * 4 + 1, none⟩) hg).trans a1
        replace a2 := (hb3'.cell (p := ⟨g, (ts.length - 1) * 4 + 2, none⟩) hg).trans a2
        replace a3 := (hb3'.cell (p := ⟨g, (ts.length - 1) * 4 + 3, none⟩) hg).trans a3
        replace hg := Nat.lt_of_lt_of_le hg hb3'.size
        have hb3 := hb2.trans (hb3'.mono hb2.size)
        have hE3 := hE.below hb3 hE.size
        clear hb3' hb2 hE2
        go_wp2_with fail
        rw [HXY.out]
        refine (line_tuple xy (by omega) at_ w3 hE3).mono ?_
        rintro e w4 ⟨⟨v16, v17, v18, rfl⟩, hb4'⟩
        replace a0 := (hb4'.cell (p := ⟨g, (ts.length - 1) * 4, none⟩) hg).trans a0
        replace a1 := (hb4'.cell (p := ⟨g, (ts.length - 1) * 4 + 1, none⟩) hg).trans a1
        replace a2 := (hb4'.cell (p := ⟨g, (ts.length - 1) * 4 + 2, none⟩) hg).trans a2
        replace a3 := (hb4'.cell (p := ⟨g, (ts.length - 1) * 4 + 3, none⟩) hg).trans a3
        replace hg := Nat.lt_of_lt_of_le hg hb4'.size
        have hb4 := hb3.trans (hb4'.mono hb3.size)
        clear hb4' hb3 hE3 HXY
        go_wp2_with fail
        go_ret
        exact ⟨rfl, hb4⟩
      | false =>
        have hzm := List.mem_of_getElem? hz
        have hzp : z.1 = x.data.toList.length + 1 := by
          have h1 := HB.out
          simp only [Bool.not_eq_false', Bool.and_eq_true] at h1
          have h2 := eq_of_beq h1.2.1
          have h3 := (Sp.lex_places HX.out).1 _ _ hz
          rw [size_list] at h3 ⊢
          unfold wrap64 at h2
          omega
        have hlx := HX.out
        rw [hxx] at hlx
        obtain ⟨ts', z', hts, hu⟩ := Sp.lex_join_ok hlx hzm hzp
        have huy := hu y.data.toList
        rw [← hxy, size_list] at huy
        have htsl : ts'.length = ts.length - 1 := by rw [hts]; simp
        have htk : ts.take (ts.length - 1) = ts' := by rw [← htsl, hts]; simp
        obtain ⟨M, HM⟩ := hid_ex (Sp.lex y.data.toList)
        rw [HM.out] at huy
        have RA1 := Lib.hid RA
        clear RA HX HXX h0 HB hzk hza hzt hzn at0 hva hn1 hz hzm hzp hlx hu hts
        cases M with
        | error q =>
          obtain ⟨k, f⟩ := q
          have hfer := (lex_err HM.out).1
          have gf : ((f : Int) != 0) = true := by rcases hfer with rfl | rfl | rfl <;> decide
          have HU : Hid (Sp.lex xy.data.toList = .error (k + (x.size + 1), f)) := huy
          obtain ⟨zj, HZJ⟩ := hid_ex (wrap64 (at_ + ((k + (x.size + 1) : Nat) : Int)))
          obtain ⟨zq, HZQ⟩ := hid_ex (wrap64 (0 + (k : Int)))
          have gj : (zj == wrap64 (wrap64 (wrap64 (at_ + (x.size : Int)) + 1) + zq)) = true := by
            rw [beq_iff_eq, ← HZJ.out, ← HZQ.out]; unfold wrap64; omega
          clear huy hfer hcells RA1
          go_wp2_with fail
          refine (line_told HM (by omega) 0 HZQ w2 hE2).mono ?_
          rintro e w3 ⟨rfl, hb3'⟩
          replace a0 := (hb3'.cell (p := ⟨g, (ts.length - 1) * 4, none⟩) hg).trans a0
          replace a1 := (hb3'.cell (p := ⟨g, (ts.length - 1) * 4 + 1, none⟩) hg).trans a1
          replace a2 := (hb3'.cell (p := ⟨g, (ts.length - 1) * 4 + 2, none⟩) hg).trans a2
          replace a3 := (hb3'.cell (p := ⟨g, (ts.length - 1) * 4 + 3, none⟩) hg).trans a3
          replace hg := Nat.lt_of_lt_of_le hg hb3'.size
          have hb3 := hb2.trans (hb3'.mono hb2.size)
          have hE3 := hE.below hb3 hE.size
          clear hb3' hb2 hE2
          go_wp2_with fail
          rw [HXY.out]
          refine (line_told HU (by omega) at_ HZJ w3 hE3).mono ?_
          rintro e w4 ⟨rfl, hb4'⟩
          replace a0 := (hb4'.cell (p := ⟨g, (ts.length - 1) * 4, none⟩) hg).trans a0
          replace a1 := (hb4'.cell (p := ⟨g, (ts.length - 1) * 4 + 1, none⟩) hg).trans a1
          replace a2 := (hb4'.cell (p := ⟨g, (ts.length - 1) * 4 + 2, none⟩) hg).trans a2
          replace a3 := (hb4'.cell (p := ⟨g, (ts.length - 1) * 4 + 3, none⟩) hg).trans a3
          replace hg := Nat.lt_of_lt_of_le hg hb4'.size
          have hb4 := hb3.trans (hb4'.mono hb3.size)
          clear hb4' hb3 hE3 HXY HU HM
          go_wp2_with fail
          go_ret
          exact ⟨rfl, hb4⟩
        | ok us =>
          have HU : Hid (Sp.lex xy.data.toList = .ok (ts' ++ Sp.moved (x.size + 1) us)) := huy
          have husc := Sp.lex_count HM.out
          rw [size_list] at husc
          clear huy hcells
          go_wp2_with fail
          refine (line_is HM (by omega) 0 w2 hE2).mono ?_
          rintro e w3 ⟨⟨vm, rfl, hrm⟩, hb3'⟩
          have RM := hrm.row4
          replace a0 := (hb3'.cell (p := ⟨g, (ts.length - 1) * 4, none⟩) hg).trans a0
          replace a1 := (hb3'.cell (p := ⟨g, (ts.length - 1) * 4 + 1, none⟩) hg).trans a1
          replace a2 := (hb3'.cell (p := ⟨g, (ts.length - 1) * 4 + 2, none⟩) hg).trans a2
          replace a3 := (hb3'.cell (p := ⟨g, (ts.length - 1) * 4 + 3, none⟩) hg).trans a3
          replace hg := Nat.lt_of_lt_of_le hg hb3'.size
          have RA2 := RA1.out.below hb3'
          have hb3 := hb2.trans (hb3'.mono hb2.size)
          have hE3 := hE.below hb3 hE.size
          clear hb3' hb2 hE2 RA1 hrm HM
          go_wp2_with fail
          rw [HXY.out]
          refine (line_is HU (by omega) at_ w3 hE3).mono ?_
          rintro e w4 ⟨⟨vq, rfl, hrq⟩, hb4'⟩
          have RQ := hrq.row4
          have RM2 := RM.below hb4'
          have RA3 := RA2.below hb4'
          replace a0 := (hb4'.cell (p := ⟨g, (ts.length - 1) * 4, none⟩) hg).trans a0
          replace a1 := (hb4'.cell (p := ⟨g, (ts.length - 1) * 4 + 1, none⟩) hg).trans a1
          replace a2 := (hb4'.cell (p := ⟨g, (ts.length - 1) * 4 + 2, none⟩) hg).trans a2
          replace a3 := (hb4'.cell (p := ⟨g, (ts.length - 1) * 4 + 3, none⟩) hg).trans a3
          replace hg := Nat.lt_of_lt_of_le hg hb4'.size
          have hb4 := hb3.trans (hb4'.mono hb3.size)
          clear hb4' hb3 hE3 HXY HU hrq RM RA2
          have hmap : ((ts.map (abs4 at_)).take (ts.length - 1)) = ts'.map (abs4 at_) := by rw [← List.map_take, htk]
          have hrow0 : (w4.alloc (Obj.cells #[] 36)).ownsRow w4.heap.size 36 4 (.slice (some ⟨w4.heap.size, 0, none⟩) 0 0) 0 [] := row_lit w4 [] #[] rfl (by decide)
          have hcl := RA3.laid (by simp)
          obtain ⟨g', cap', hgg, _, _, _, hcells⟩ := hcl
          obtain ⟨i0, hi, hz0, hz1, hz2⟩ := info_parts infoTok
          have hn1 : (ts.map (abs4 at_)).length = ts.length := List.length_map _
          simp only [hn1, Value.slice.injEq, Option.some.injEq, Addr.mk.injEq, and_true, true_and] at hgg
          obtain ⟨rfl, rfl⟩ := hgg
          have HCELLS := Lib.hid hcells
          clear hcells
          go_wp2_with (at_builtin; refine wpList_append_own _ rfl _ _ 23 rfl w4.heap.size 36 i0 (.agg #[.int .i64 0, .int .i64 0, .string ⟨#[]⟩, .int .i64 0]) 4 40 Tryd.underlying23 hi hz0 hz1 hz2 rfl (by decide) _ _ _ rfl hrow0 ⟨g, 0, none⟩ (ts.length - 1) cap ((ts'.map (abs4 at_)).flatMap c4) rfl ?c0 ?c1 ?c2 ?c3 ?c4 ?c5 ?_)
          case c0 => rw [c4_len, List.length_map, htsl]
          case c1 =>
            intro j u hj
            rw [← hmap] at hj
            have h1 := HCELLS.out j u (row_take _ _ _ _ hj)
            exact (((Below.refl w4.heap.size w4).alloc (Nat.le_refl _) _).cell (p := (⟨g, 0, none⟩ : Addr).add j) (by rw [Addr.add_lit]; exact hg)).trans h1
          case c2 => exact c4_one _
          case c3 => unfold maxLen; omega
          case c4 => omega
          case c5 => simp
          intro v5 w5 hown5 hgrow5 hne5
          have hbelA : Below w4.heap.size w4 w5 := ((Below.refl w4.heap.size w4).alloc (Nat.le_refl _) _).grown hgrow5 (by simp) (fun k hk => (hrow0.lt k hk).1)
          have SH := Lib.hid (shift_laid _ _ _ (wrap64 (wrap64 (at_ + (x.size : Int)) + 1)) w5 (RM2.below hbelA) (by rw [List.length_map]; omega))
          have HO5 := Lib.hid hown5
          have HCQ := Lib.hid RQ
          clear hgrow5 hne5 HCELLS RM2 RA3 hrow0 hown5 RQ a0 a1 a2 a3 hcmp
          go_wp2_with fail
          refine SH.out.mono ?_
          rintro e w6 ⟨vs, rfl, hnes, hrs, hb6⟩
          have hl8 : ((us.map (abs4 0)).map (sh4 (wrap64 (wrap64 (at_ + (x.size : Int)) + 1)))).length = us.length := by rw [List.length_map, List.length_map]
          have hmv := parts_moved at_ (x.size + 1) x.size us _ rfl rfl
          obtain ⟨gs, caps, rfl, hcaps, hgs, _, hcs⟩ := hrs.laid hnes
          have HCS := Lib.hid hcs
          have hR5 : Row4 w4.heap.size v5 (ts'.map (abs4 at_)) w5 := by
            unfold Row4
            rw [List.length_map, htsl]
            exact HO5.out
          have hR6 := hR5.below hb6
          unfold Row4 at hR6
          rw [List.length_map, htsl] at hR6
          have hbel46 := hbelA.trans (hb6.mono hbelA.size)
          rw [hl8] at hcaps ⊢
          clear SH HO5 hR5 hrs hnes hcs
          go_wp2_with (at_builtin; refine wpList_append_own _ rfl _ _ 23 rfl w4.heap.size 36 i0 (.agg #[.int .i64 0, .int .i64 0, .string ⟨#[]⟩, .int .i64 0]) 4 40 Tryd.underlying23 hi hz0 hz1 hz2 rfl (by decide) _ _ _ rfl hR6 ⟨gs, 0, none⟩ us.length caps (((us.map (abs4 0)).map (sh4 (wrap64 (wrap64 (at_ + (x.size : Int)) + 1)))).flatMap c4) rfl ?c0 ?c1 ?c2 ?c3 ?c4 ?c5 ?_)
          case c0 => rw [c4_len, hl8]
          case c1 => exact HCS.out
          case c2 => exact c4_one _
          case c3 => unfold maxLen; omega
          case c4 => omega
          case c5 => exact hbel46.size
          intro v8 w8 hown8 hgrow8 _
          have hbel48 : Below w4.heap.size w4 w8 := hbel46.grown hgrow8 hbel46.size (fun k hk => (hR6.lt k hk).1)
          have hR8 : Row4 w4.heap.size v8 ((ts' ++ Sp.moved (x.size + 1) us).map (abs4 at_)) w8 := by
            unfold Row4
            have hmvl : (Sp.moved (x.size + 1) us).length = us.length := by unfold Sp.moved; rw [List.length_map]
            rw [List.map_append, List.length_append, List.length_map, htsl, List.length_map, hmvl, List.flatMap_append]
            exact hown8
          have hlq : ((ts' ++ Sp.moved (x.size + 1) us).map (abs4 at_)).length ≤ 1000000 := by
            rw [List.length_map, List.length_append, htsl]
            unfold Sp.moved
            rw [List.length_map]
            omega
          have SA := Lib.hid (same_is (b := true) (by show _ = _; simp) _ _ _ _ w8 (HCQ.out.below hbel48) hR8 hlq hlq)
          have hb8 := hb4.trans (hbel48.mono hb4.size)
          clear hown8 hgrow8 hR8 hR6 HCS hbel46 hbelA hbel48 hb4 HCQ
          go_wp2_with fail
          refine SA.out.mono ?_
          rintro e w9 ⟨rfl, hb9'⟩
          have hb9 := hb8.trans (hb9'.mono hb8.size)
          clear SA hb9' hb8
          go_wp2_with fail
          go_ret
          exact ⟨rfl, hb9⟩
end lawParts
end Go.Proofs.YtfomjdaihoaipaaDoor
