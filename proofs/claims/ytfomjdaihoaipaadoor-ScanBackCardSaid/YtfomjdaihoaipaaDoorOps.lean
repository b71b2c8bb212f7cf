/-
  Each operator is one token, and of two next to each other the longest ones from the left: the walk of the statement ScanOps.
-/
import Derived.Test.YtfomjdaihoaipaaDoorQuotes
import Derived.Deep.DeepCutAuto
import Derived.IntWalk
set_option linter.unusedVariables false
set_option linter.unusedSimpArgs false
namespace Go.Proofs.YtfomjdaihoaipaaDoor
open Go.RowKit Go.Shelf

namespace Sp
/-- The operators, as the document's table has them. -/
def refL : List Bs := [[43], [45], [42], [47, 47], [37], [42, 42], [61, 61], [33, 61], [60], [60, 61], [62], [62, 61], [61], [43, 61], [45, 61], [42, 61], [47, 47, 61], [37, 61], [42, 42, 61], [40], [41], [91], [93], [123], [125], [44], [58], [46]]
/-- These tokens are operators next to each other from a place on, and say these bytes. -/
def chk : Nat → List (Nat × Tk) → Bs → Bool
  | _, [], rest => rest.isEmpty
  | pos, (p, t) :: ts, rest => decide (p = pos) && decide (t.kind = 4) && t.text.isPrefixOf rest && chk (pos + t.text.length) ts (rest.drop t.text.length)
theorem chk_said : ∀ (ts : List (Nat × Tk)) (pos : Nat) (rest : Bs), chk pos ts rest = true → (∀ (k : Nat) x, ts[k]? = some x → x.2.kind = 4 ∧ x.1 = pos + ((ts.take k).flatMap (·.2.text)).length) ∧ ts.flatMap (·.2.text) = rest := by
  intro ts
  induction ts with
  | nil => intro pos rest h; simp [chk] at h; exact ⟨fun k x hx => by simp at hx, by simp [h]⟩
  | cons y ts ih =>
    intro pos rest h
    obtain ⟨p, t⟩ := y
    simp only [chk, Bool.and_eq_true, decide_eq_true_eq] at h
    obtain ⟨⟨⟨h1, h2⟩, h3⟩, h4⟩ := h
    obtain ⟨i1, i2⟩ := ih _ _ h4
    obtain ⟨u, hu⟩ := List.isPrefixOf_iff_prefix.1 h3
    refine ⟨?_, ?_⟩
    · intro k x hx
      cases k with
      | zero => simp at hx; subst hx; exact ⟨h2, by simp [h1]⟩
      | succ k =>
        rw [List.getElem?_cons_succ] at hx
        obtain ⟨a, b⟩ := i1 k x hx
        refine ⟨a, ?_⟩
        rw [b, List.take_succ_cons, List.flatMap_cons, List.length_append]
        show pos + t.text.length + _ = pos + (t.text.length + _)
        omega
    · rw [List.flatMap_cons, i2, ← hu]
      simp
def pairOk (a b : Bs) : Bool := match lex (a ++ b) with
  | .error (_, e) => decide (e = 10)
  | .ok ts => chk 0 ts (a ++ b) && (match ts with
    | [] => false
    | (_, t) :: _ => decide (a.length ≤ t.text.length)) && decide (ts.length ≤ 10)
theorem ref_pairs : (refL.all fun a => refL.all fun b => pairOk a b) = true := by kernel_rfl
def oneTk (a : Bs) : List (Nat × Tk) := [(0, ⟨4, a, 0, a.length⟩)]
def twoTk (a b : Bs) : List (Nat × Tk) := [(0, ⟨4, a, 0, a.length⟩), (a.length + 1, ⟨4, b, 0, b.length⟩)]
def tkEq (x y : Nat × Tk) : Bool := decide (x.1 = y.1) && decide (x.2.kind = y.2.kind) && decide (x.2.text = y.2.text) && decide (x.2.num = y.2.num) && decide (x.2.size = y.2.size)
def tksEq : List (Nat × Tk) → List (Nat × Tk) → Bool
  | [], [] => true
  | x :: l, y :: m => tkEq x y && tksEq l m
  | _, _ => false
theorem tksEq_eq : ∀ l m, tksEq l m = true → l = m := by
  intro l
  induction l with
  | nil => intro m h; cases m with | nil => rfl | cons => cases h
  | cons x l ih =>
    intro m h
    cases m with
    | nil => cases h
    | cons y m =>
      simp only [tksEq, tkEq, Bool.and_eq_true, decide_eq_true_eq] at h
      obtain ⟨⟨⟨⟨⟨h1, h2⟩, h3⟩, h4⟩, h5⟩, h6⟩ := h
      rw [ih m h6]
      obtain ⟨p, ⟨k, t, n, z⟩⟩ := x
      obtain ⟨p', ⟨k', t', n', z'⟩⟩ := y
      simp only at h1 h2 h3 h4 h5
      subst h1 h2 h3 h4 h5
      rfl
def lexIs (l : Bs) (m : List (Nat × Tk)) : Bool := match lex l with
  | .error _ => false
  | .ok ts => tksEq ts m
theorem lexIs_eq {l : Bs} {m : List (Nat × Tk)} (h : lexIs l m = true) : lex l = .ok m := by
  unfold lexIs at h
  cases hx : lex l with
  | error y => rw [hx] at h; cases h
  | ok ts => rw [hx] at h; rw [tksEq_eq _ _ h]
theorem ref_ones : (refL.all fun a => lexIs a (oneTk a)) = true := by kernel_rfl
theorem ref_twos : (refL.all fun a => refL.all fun b => lexIs (a ++ (32 :: b)) (twoTk a b)) = true := by kernel_rfl
theorem ref_sizes : (refL.all fun a => decide (1 ≤ a.length) && decide (a.length ≤ 3)) = true := by kernel_rfl
end Sp

def refArr : Array Value := #[.string ⟨#[43]⟩, .string ⟨#[45]⟩, .string ⟨#[42]⟩, .string ⟨#[47, 47]⟩, .string ⟨#[37]⟩, .string ⟨#[42, 42]⟩, .string ⟨#[61, 61]⟩, .string ⟨#[33, 61]⟩, .string ⟨#[60]⟩, .string ⟨#[60, 61]⟩, .string ⟨#[62]⟩, .string ⟨#[62, 61]⟩, .string ⟨#[61]⟩, .string ⟨#[43, 61]⟩, .string ⟨#[45, 61]⟩, .string ⟨#[42, 61]⟩, .string ⟨#[47, 47, 61]⟩, .string ⟨#[37, 61]⟩, .string ⟨#[42, 42, 61]⟩, .string ⟨#[40]⟩, .string ⟨#[41]⟩, .string ⟨#[91]⟩, .string ⟨#[93]⟩, .string ⟨#[123]⟩, .string ⟨#[125]⟩, .string ⟨#[44]⟩, .string ⟨#[58]⟩, .string ⟨#[46]⟩]
theorem ops_ref (w : World) : Calls Tryd.prog 32 #[] w fun e w' => e = .returned (.slice (some ⟨w.heap.size, 0, none⟩) 28 28) ∧ w' = w.alloc (.cells refArr 9) := by
  go_enter Tryd.func32, Tryd.ntmps32
  go_wp2_with fail
  go_ret
  exact ⟨rfl, rfl⟩
theorem ref_list : refArr.toList = Sp.refL.map fun l => Value.string ⟨l.toArray⟩ := rfl
theorem ref_cell (w : World) (j : Nat) (h : j < 28) : ∃ ba : ByteArray, ba.data.toList ∈ Sp.refL ∧ (w.alloc (.cells refArr 9)).cell? ⟨w.heap.size, j, none⟩ = some (.string ba) := by
  have hl : j < Sp.refL.length := h
  refine ⟨⟨Sp.refL[j].toArray⟩, by rw [mk_list]; exact List.getElem_mem hl, ?_⟩
  have e : refArr[j]? = some (.string ⟨Sp.refL[j].toArray⟩) := by
    rw [← Array.getElem?_toList, ref_list, List.getElem?_map, List.getElem?_eq_getElem hl]
    rfl
  have e2 : (w.alloc (.cells refArr 9)).heap[w.heap.size]? = some (.cells refArr 9) := by unfold World.alloc; exact Array.getElem?_push_size
  unfold World.cell?
  rw [show (⟨w.heap.size, j, none⟩ : Addr).block = w.heap.size from rfl, e2]
  exact e
theorem ref_two {a b : Sp.Bs} (ha : a ∈ Sp.refL) (hb : b ∈ Sp.refL) {f : Sp.Bs → Sp.Bs → Bool} (h : (Sp.refL.all fun a => Sp.refL.all fun b => f a b) = true) : f a b = true :=
  List.all_eq_true.1 (List.all_eq_true.1 h a ha) b hb

theorem flat_ge {l : List (Nat × Sp.Tk)} {u : Nat × Sp.Tk} (h : u ∈ l) : u.2.text.length ≤ (l.flatMap (·.2.text)).length := by
  induction l with
  | nil => cases h
  | cons x l ih =>
    rw [List.flatMap_cons, List.length_append]
    rcases List.mem_cons.1 h with rfl | h
    · omega
    · have := ih h
      omega
namespace lawOps
set_option maxHeartbeats 16000000 in
set_option maxRecDepth 100000 in
theorem walk (i k : UInt8) (at_ : Int) (hat : (Lit.int .i64 at_).wf = true) (w : World) (hE : Env w) : Calls Tryd.prog 12 #[.int .u8 (i.toNat : Int), .int .u8 (k.toNat : Int), .int .i64 at_] w fun e w' => e = .returned (.bool true) ∧ Below w.heap.size w w' := by
  have hi0 := i.toNat_lt
  have hk0 := k.toNat_lt
  obtain ⟨x, HX⟩ := hid_ex (i.toNat % 28)
  obtain ⟨y, HY⟩ := hid_ex (k.toNat % 28)
  have hx28 : x < 28 := by rw [← HX.out]; omega
  have hy28 : y < 28 := by rw [← HY.out]; omega
  have hmx : ((i.toNat : Int)).tmod 28 = (x : Int) := by rw [← HX.out]; rw [Int.tmod_eq_emod_of_nonneg (by omega)]; omega
  have hmy : ((k.toNat : Int)).tmod 28 = (y : Int) := by rw [← HY.out]; rw [Int.tmod_eq_emod_of_nonneg (by omega)]; omega
  have hex : ((i.toNat : Int)) % 28 = (x : Int) := by rw [← HX.out]; omega
  have hey : ((k.toNat : Int)) % 28 = (y : Int) := by rw [← HY.out]; omega
  clear HX HY
  go_enter Tryd.func12, Tryd.ntmps12
  go_wp2_with fail
  refine (shown_any w hE).mono ?_
  rintro e w1 ⟨rfl, hb1⟩
  go_wp2_with fail
  refine (ops_ref w1).mono ?_
  rintro e w2 ⟨rfl, hw2⟩
  have hb2 : Below w.heap.size w w2 := by rw [hw2]; exact hb1.alloc hb1.size _
  have hE2 := hE.below hb2 hE.size
  obtain ⟨a, ha, hca⟩ := ref_cell w1 x hx28
  obtain ⟨b, hb, hcb⟩ := ref_cell w1 y hy28
  rw [← hw2] at hca hcb
  clear hw2 hb1
  have hsa := List.all_eq_true.1 Sp.ref_sizes _ ha
  have hsb := List.all_eq_true.1 Sp.ref_sizes _ hb
  simp only [Bool.and_eq_true, decide_eq_true_eq, size_list] at hsa hsb
  obtain ⟨hsa1, hsa3⟩ := hsa
  obtain ⟨hsb1, hsb3⟩ := hsb
  have L1 : Hid (Sp.lex a.data.toList = .ok (Sp.oneTk a.data.toList)) := Sp.lexIs_eq (List.all_eq_true.1 Sp.ref_ones _ ha)
  obtain ⟨ab, HAB⟩ := hid_ex (a ++ (⟨#[32]⟩ : ByteArray) ++ b)
  obtain ⟨aa, HAA⟩ := hid_ex (a ++ b)
  have L2 : Hid (Sp.lex ab.data.toList = .ok (Sp.twoTk a.data.toList b.data.toList)) := by
    show _ = _
    rw [← HAB.out]
    have := Sp.lexIs_eq (ref_two ha hb Sp.ref_twos)
    rw [← this]
    congr 1
    simp
  have hps := ref_two ha hb Sp.ref_pairs
  have haal : aa.data.toList = a.data.toList ++ b.data.toList := by rw [← HAA.out]; simp
  have hab5 : ab.size ≤ 10 := by rw [← HAB.out]; simp [ByteArray.size_append]; show a.size + 1 + b.size ≤ 10; omega
  have haa5 : aa.size ≤ 10 := by rw [← HAA.out]; simp [ByteArray.size_append]; omega
  obtain ⟨X, HXX⟩ := hid_ex (Sp.lex aa.data.toList)
  have hatb := bounds_i64 hat
  have ez0 : wrap64 (at_ + ((0 : Nat) : Int)) = at_ := by unfold wrap64; omega
  have ez1 : wrap64 (at_ + ((a.data.toList.length + 1 : Nat) : Int)) = wrap64 (wrap64 (at_ + (a.size : Int)) + 1) := by rw [size_list]; unfold wrap64; omega
  go_wp2_with fail
  refine (line_is L1 (by omega) at_ w2 hE2).mono ?_
  rintro e w3 ⟨⟨va, rfl, hra⟩, hb3'⟩
  obtain ⟨pa, ca, rfl, fa⟩ := hra.row4.form
  obtain ⟨ga, rfl, hga, _, a0, a1, a2, a3⟩ := fa 0 _ rfl
  have hb3 := hb2.trans (hb3'.mono hb2.size)
  have hE3 := hE.below hb3 hE.size
  simp only [abs4, toArray_data, ez0] at a0 a1 a2 a3
  clear hb3' hb2 hE2 hra fa hca hcb
  go_wp2_with fail
  rw [HAB.out]
  refine (line_is L2 (by omega) at_ w3 hE3).mono ?_
  rintro e w4 ⟨⟨vb, rfl, hrb⟩, hb4'⟩
  obtain ⟨pb, cb, rfl, fb⟩ := hrb.row4.form
  obtain ⟨gb, rfl, hgb, _, b0, b1, b2, b3⟩ := fb 1 _ rfl
  have hb4 := hb3.trans (hb4'.mono hb3.size)
  have hE4 := hE.below hb4 hE.size
  simp only [abs4, toArray_data, ez1] at b0 b1 b2 b3
  replace a0 := (hb4'.cell hga).trans a0
  replace a1 := (hb4'.cell hga).trans a1
  replace a2 := (hb4'.cell hga).trans a2
  replace a3 := (hb4'.cell hga).trans a3
  have hga4 : ga < w4.heap.size := Nat.lt_of_lt_of_le hga hb4'.size
  clear hb4' hb3 hE3 hrb fb
  go_wp2_with fail
  rw [HAA.out]
  refine (line_is HXX (by omega) at_ w4 hE4).mono ?_
  rintro e w5 ⟨hX, hb5'⟩
  have hb5 := hb4.trans (hb5'.mono hb4.size)
  replace a0 := (hb5'.cell hga4).trans a0
  replace a1 := (hb5'.cell hga4).trans a1
  replace a2 := (hb5'.cell hga4).trans a2
  replace a3 := (hb5'.cell hga4).trans a3
  replace b0 := (hb5'.cell hgb).trans b0
  replace b1 := (hb5'.cell hgb).trans b1
  replace b2 := (hb5'.cell hgb).trans b2
  replace b3 := (hb5'.cell hgb).trans b3
  have hc1 := fun wx => neq_tok wx 4 at_ 0 4 at_ 0 a a
  have hc2 := fun wx => neq_tok wx 4 (wrap64 (wrap64 (at_ + (a.size : Int)) + 1)) 0 4 (wrap64 (wrap64 (at_ + (a.size : Int)) + 1)) 0 b b
  have tt : ∀ s : ByteArray, (!((4 : Int) == 4 && ((0 : Int) == 0 && (s.toList == s.toList && (0 : Int) == 0)))) = false := by intro s; simp
  simp only [beq_self_eq_true, Bool.and_true, Bool.not_true] at hc1 hc2
  clear L1 L2 hat ez0 ez1 hga hgb hga4 hE4 hb4 hb5'
  cases X with
  | error y =>
    obtain ⟨p, er⟩ := y
    have her : er = 10 := by
      unfold Sp.pairOk at hps
      rw [← haal, HXX.out] at hps
      simpa using hps
    subst her
    obtain rfl := hX
    go_wp2_with fail
    go_ret
    exact ⟨rfl, hb5⟩
  | ok ts =>
    obtain ⟨vc, rfl, hrc⟩ := hX
    unfold Sp.pairOk at hps
    rw [← haal, HXX.out] at hps
    simp only [Bool.and_eq_true, decide_eq_true_eq] at hps
    obtain ⟨⟨hp1, hp2⟩, hp3⟩ := hps
    obtain ⟨hk1, hk2⟩ := Sp.chk_said ts 0 _ hp1
    obtain ⟨pc, cc, rfl, fc⟩ := hrc.row4.form
    simp only [List.length_map]
    have hlen1 : 1 ≤ ts.length := by
      cases ts with
      | nil => simp at hp2
      | cons => simp
    obtain ⟨t0, ht0⟩ : ∃ t0, ts[0]? = some t0 := ⟨_, List.getElem?_eq_getElem (by omega)⟩
    have hp2' : a.size ≤ t0.2.text.length := by
      cases ts with
      | nil => simp at hp2
      | cons u us =>
        obtain ⟨p, t⟩ := u
        simp at ht0 hp2
        subst ht0
        rw [← size_list]
        exact hp2
    have FC := Lib.hid fc
    have K1 := Lib.hid hk1
    have K2 := Lib.hid hk2
    have HT0 := Lib.hid ht0
    have HAL := Lib.hid haal
    clear fc hk1 hk2 hrc hp1 hp2 ht0 HXX haal
    go_wp2_with fail
    go_loopw [20, 21] (fun v20 v21 wr => ∃ (j : Nat) (al : ByteArray), v20 = .string al ∧ v21 = .int .i64 j ∧ j ≤ ts.length ∧ Hid (al.data.toList = (ts.take j).flatMap (·.2.text)) ∧ al.size ≤ 100 * j ∧ wr = w5) (fun _ v21 wr => ts.length - (intOf v21).toNat)
    case atStart => exact ⟨0, ⟨#[]⟩, rfl, rfl, Nat.zero_le _, rfl, by decide, rfl⟩
    case round =>
      obtain ⟨j, al, rfl, rfl, hj, HL, hals, rfl⟩ := hrel
      by_cases hlt : j < ts.length
      · obtain ⟨u, hu⟩ : ∃ u, ts[j]? = some u := ⟨_, List.getElem?_eq_getElem hlt⟩
        obtain ⟨gc, rfl, hgc, _, c0, c1, c2, c3⟩ := FC.out j (abs4 at_ u) (by rw [List.getElem?_map, hu]; rfl)
        obtain ⟨ku, pu⟩ := K1.out j u hu
        have hpl : u.1 = al.size := by rw [pu, ← HL.out, size_list, Nat.zero_add]
        simp only [abs4, ku, hpl] at c0 c1 c2 c3
        obtain ⟨tb, htb⟩ : ∃ tb : ByteArray, tb = ⟨u.2.text.toArray⟩ := ⟨_, rfl⟩
        rw [← htb] at c2
        have htl : tb.data.toList = u.2.text := by rw [htb]
        have HN : Hid ((al ++ tb).data.toList = (ts.take (j + 1)).flatMap (·.2.text)) := by
          show _ = _
          rw [List.take_add_one, List.flatMap_append, ← HL.out, hu]
          simp [htl]
        have hts : tb.size ≤ 100 := by
          have h1 : tb.size ≤ (ts.flatMap (·.2.text)).length := by
            have hm := List.mem_of_getElem? hu
            rw [← size_list, htl]
            exact flat_ge hm
          rw [K2.out, size_list] at h1
          omega
        have hsz : (al ++ tb).size ≤ 100 * (j + 1) := by simp [ByteArray.size_append]; omega
        clear FC K1 K2 HT0 HAL HL hu ku pu hpl htb htl
        go_wp2_with fail
        go_roundw
        case rel => exact ⟨j + 1, al ++ tb, rfl, by go_num, by omega, HN, hsz, trivial⟩
        case measure => simp [intOf]; omega
      · have hall : al = a ++ b := by
          have h1 := HL.out
          rw [List.take_of_length_le (by omega), K2.out] at h1
          rw [HAA.out, ← toArray_data al, h1, toArray_data]
        subst hall
        obtain ⟨gc, rfl, hgc, _, c0, c1, c2, c3⟩ := FC.out 0 (abs4 at_ t0) (by rw [List.getElem?_map, HT0.out]; rfl)
        simp only [abs4] at c0 c1 c2 c3
        obtain ⟨tb, htb⟩ : ∃ tb : ByteArray, tb = ⟨t0.2.text.toArray⟩ := ⟨_, rfl⟩
        rw [← htb] at c2
        have htl : a.size ≤ tb.size := by rw [htb, mk_size]; exact hp2'
        have hge : decide ((a.size : Int) ≤ (tb.size : Int)) = true := by simp; omega
        clear FC K1 K2 HT0 HAL HL htb hp2'
        go_wp2_with fail
        go_ret
        exact ⟨rfl, hb5⟩
end lawOps
end Go.Proofs.YtfomjdaihoaipaaDoor
