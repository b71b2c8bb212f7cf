/-
  What the program's Text tells, at this program.
-/
import Derived.Test.YtaekjkihdecmcaaNuRg
import Derived.Laws.BytesString
import Derived.Laws.Cells
set_option linter.unusedVariables false
set_option linter.unusedSimpArgs false
namespace Go.Proofs.Ytaekjkihdecmcaa
open Go.RowKit

/-- The room of twenty bytes, filled from behind. -/
structure Rm (w0 : World) (br ba k : Nat) (u : Nu.Bs) (W : World) : Prop where
  at_ : W.heap[ba]? = some (.cells #[.int .i64 (k : Int)] 3)
  room : ∃ cs, W.heap[br]? = some (.cells cs 52) ∧ cs.size = 20 ∧ ∀ j c, u[j]? = some c → cs[k + j]? = some (.int .u8 (c.toNat : Int))
  len : k + u.length = 20
  ne : br ≠ ba
  lo : w0.heap.size ≤ br ∧ w0.heap.size ≤ ba
  bel : Below w0.heap.size w0 W
theorem Rm.start (w0 : World) (cs : Array Value) (h : cs.size = 20) : Rm w0 w0.heap.size (w0.heap.size + 1) 20 [] ((w0.alloc (.cells cs 52)).alloc (.cells #[.int .i64 20] 3)) := by
  refine ⟨?_, ⟨cs, ?_, h, fun j c hj => by simp at hj⟩, rfl, by omega, ⟨Nat.le_refl _, by omega⟩, ((Below.refl _ w0).alloc (Nat.le_refl _) _).alloc (by simp) _⟩
  · show ((w0.heap.push _).push _)[_]? = _
    rw [Array.getElem?_push, if_pos (by simp)]; rfl
  · show ((w0.heap.push _).push _)[_]? = _
    rw [Array.getElem?_push, if_neg (by simp), Array.getElem?_push, if_pos rfl]
theorem Rm.put {w0 W : World} {br ba k : Nat} {u : Nu.Bs} {c : UInt8} (h : Rm w0 br ba (k + 1) u W) : Rm w0 br ba k (c :: u) ((W.setCell ⟨ba, 0, none⟩ (.int .i64 (k : Int))).setCell ⟨br, k, none⟩ (.int .u8 (c.toNat : Int))) := by
  obtain ⟨cs, h1, h2, h3⟩ := h.room
  have hne := h.ne
  have hl := h.len
  refine ⟨?_, ⟨cs.set! k (.int .u8 (c.toNat : Int)), ?_, by simp [h2], fun j d hj => ?_⟩, by simp; omega, hne, h.lo, ?_⟩
  · unfold World.setCell
    simp only [Array.getElem?_modify, if_neg hne, if_true, h.at_, Option.map_some]
    rfl
  · unfold World.setCell
    simp only [Array.getElem?_modify, if_true, if_neg (Ne.symm hne), h1, Option.map_some]
    rfl
  · rw [Array.set!_eq_setIfInBounds, Array.getElem?_setIfInBounds]
    cases j with
    | zero =>
      simp at hj
      subst hj
      rw [Nat.add_zero, if_pos rfl, if_pos (by omega)]
    | succ j =>
      rw [if_neg (by omega), show k + (j + 1) = k + 1 + j by omega]
      exact h3 j d (by simpa using hj)
  · exact (h.bel.setCell h.lo.2 _).setCell h.lo.1 _
set_option maxHeartbeats 1000000 in
theorem ahead_is {w0 W : World} {br ba k : Nat} {u : Nu.Bs} {c : UInt8} {bv : Int} (H : Hid (Rm w0 br ba (k + 1) u W)) (hb : Hid (bv = (c.toNat : Int))) :
    Calls Try.prog 31 #[.int .u8 bv, .pointer (some ⟨ba, 0, none⟩), .pointer (some ⟨br, 0, none⟩)] W fun e w' => e = .returned (.tuple #[]) ∧ Hid (Rm w0 br ba k (c :: u) w') := by
  have h := H.out
  obtain ⟨cs, h1, h2, h3⟩ := h.room
  have hl := h.len
  have hne := h.ne
  have hne' : ba ≠ br := Ne.symm hne
  have a1 : W.cell? ⟨ba, 0, none⟩ = some (.int .i64 ((k + 1 : Nat) : Int)) := by simp [World.cell?, h.at_]
  have a2 : W.frozen? ⟨ba, 0, none⟩ = false := by simp [World.frozen?, h.at_]
  have b1 : (W.setCell ⟨ba, 0, none⟩ (.int .i64 (k : Int))).cell? ⟨br, k, none⟩ = some (cs[k]'(by omega)) := by
    unfold World.setCell World.cell?
    simp only [Array.getElem?_modify, if_neg hne', h1]
    rw [show cs[k]? = some (cs[k]'(by omega)) from Array.getElem?_eq_getElem (by omega)]
    rfl
  have b1' : W.cell? ⟨br, k, none⟩ = some (cs[k]'(by omega)) := by
    unfold World.cell?
    simp only [h1]
    rw [show cs[k]? = some (cs[k]'(by omega)) from Array.getElem?_eq_getElem (by omega)]
    rfl
  have b2 : W.frozen? ⟨br, k, none⟩ = false := by simp [World.frozen?, h1]
  have w1 : IntKind.i64.wrap (((k + 1 : Nat) : Int) - 1) = (k : Int) := by rw [wrap_def]; omega
  obtain ⟨K, hK⟩ : ∃ K : Int, ((k + 1 : Nat) : Int) = K := ⟨_, rfl⟩
  rw [hK] at a1 w1
  have hkb : ((k : Int) < 20) := by omega
  generalize cs[k]'(by omega) = x at b1 b1'
  clear h h1 h2 h3 hl hK
  go_enter Try.func31, Try.ntmps31
  go_wp2_with fail
  go_end0
  refine ⟨rfl, (show Rm _ _ _ _ _ _ from ?_)⟩
  have h := H.out.put (c := c)
  rw [← hb.out] at h
  exact h
theorem str_fold (u : List UInt8) : ∀ acc : ByteArray, (u.map (fun c => (c.toNat : Int))).foldl (fun r n => r.push (UInt8.ofNat n.toNat)) acc = acc ++ ⟨u.toArray⟩ := by
  induction u with
  | nil => intro acc; apply ByteArray.ext; simp
  | cons c u ih =>
    intro acc
    rw [List.map_cons, List.foldl_cons, ih]
    apply ByteArray.ext
    simp
theorem room_text {w0 W : World} {br ba k : Nat} {u : Nu.Bs} (H : Rm w0 br ba k u W) (cap n : Nat) (hn : n = u.length) : (convert 55 9 (.slice (some ⟨br, k, none⟩) n cap)).run Try.prog W = .ok (.string ⟨u.toArray⟩) W := by
  obtain ⟨cs, h1, h2, h3⟩ := H.room
  rw [run_convert_bytes_string _ _ _ 5 _ _ _ Try.underlying55 Try.underlying5 Try.underlying9]
  have h := run_loadCells_list (P := Try.prog) (w := W) ⟨br, k, none⟩ ((u.map (fun c => (c.toNat : Int))).map (Value.int .u8)) (fun j v hj => by
    rw [List.getElem?_map, List.getElem?_map] at hj
    cases hu : u[j]? with
    | none => rw [hu] at hj; cases hj
    | some c =>
      rw [hu] at hj
      simp only [Option.map_some, Option.some.injEq] at hj
      subst hj
      have h4 := h3 j c hu
      have e : (⟨br, k, none⟩ : Addr).add j = ⟨br, k + j, none⟩ := by
        unfold Addr.add
        split
        · rename_i e; subst e; rfl
        · rfl
      rw [e]
      unfold World.cell?
      simp only [h1]
      rw [h4]
      rfl)
  simp only [List.length_map] at h
  rw [hn, run_bytesToString _ _ _ _ (u.map (fun c => (c.toNat : Int))) h, str_fold]
  congr 2
theorem Rm.cell {w0 W : World} {br ba k : Nat} {u : Nu.Bs} (h : Rm w0 br ba k u W) : W.cell? ⟨ba, 0, none⟩ = some (.int .i64 (k : Int)) := by simp [World.cell?, h.at_]
theorem slice_room (br k : Nat) (hk : k < 20) (W : World) : (Instr.sliceAt 52 (.pointer (some ⟨br, 0, none⟩)) (some (.int .i64 (k : Int))) none none).run Try.prog W = .ok (.slice (some ⟨br, k, none⟩) (20 - k) (20 - k)) W := by
  have ht : Try.prog.underlying 52 = some (.array (Try.prog.arrayLen 52) (Try.prog.elem 52)) := by kernel_rfl
  have hl : Try.prog.arrayLen 52 = 20 := by kernel_rfl
  have he : Try.prog.elem 52 = 5 := by kernel_rfl
  have hs : ∀ W, (sizeOf 5).run Try.prog W = .ok 1 W := fun W => by kernel_rfl
  rw [run_sliceAt_array_l W _ _ ht .i64 (k : Int) (by omega) (by rw [hl]; omega), he, hs, hl]
  simp only [Result.andThen, Int.toNat_natCast, Nat.mul_one, slicedAt]
  rw [if_neg (by omega)]
  congr 3
  unfold Addr.add
  split
  · rename_i e; subst e; rfl
  · simp
set_option maxHeartbeats 4000000 in
theorem nText_is {z : Int} {t : Nu.Bs} (ht : Hid (Nu.text z = t)) (w : World) (hz : Nu.fits z = true) :
    Calls Try.prog 21 #[.int .i64 z] w fun e w' => e = .returned (.string ⟨t.toArray⟩) ∧ Below w.heap.size w w' := by
  rw [Nu.fits_iff] at hz
  obtain ⟨N, hN⟩ : ∃ N, z.natAbs = N := ⟨_, rfl⟩
  have HN := Lib.hid hN
  have hNb : N ≤ 9223372036854775808 := by omega
  have HL : Hid ((Nu.dec N).length ≤ 19) := (show _ ≤ _ from Nu.dec_length_le N 19 (by decide) (by omega))
  clear hN
  go_enter Try.func21, Try.ntmps21
  go_wp2_with (go_at_call 32; refine (nsize_is HN _ hz).mono ?_; rintro e w' ⟨rfl, rfl⟩)
  go_loopw [6] (fun v6 wr => ∃ (Y k : Nat) (u : Nu.Bs), v6 = .int .u64 (Y : Int) ∧ Y ≤ N ∧ Hid (Rm w w.heap.size (w.heap.size + 1) k u wr) ∧ Hid (Nu.dec N = Nu.dec Y ++ u)) (fun v6 _ => (intOf v6).toNat)
  case atStart => exact ⟨N, 20, [], rfl, Nat.le_refl _, Rm.start w _ rfl, (show _ = _ by rw [List.append_nil])⟩
  case round =>
    obtain ⟨Y, k, u, rfl, hY, HR, HU⟩ := hrel
    have hYu : (Y : Int) ≤ 9223372036854775808 := by omega
    have hlen : (Nu.dec Y).length + u.length ≤ 19 := by
      have := HL.out; rw [HU.out, List.length_append] at this; exact this
    have hku := HR.out.len
    by_cases h9 : 9 < Y
    · have hd := Nu.dec_big (n := Y) (by omega)
      have hd1 : 1 ≤ (Nu.dec (Y / 10)).length := by
        rcases Nat.eq_zero_or_pos (Nu.dec (Y / 10)).length with e | e
        · exact absurd (List.length_eq_zero_iff.1 e) (Nu.dec_ne _)
        · exact e
      rw [hd, List.length_append, List.length_singleton] at hlen
      obtain ⟨m, rfl⟩ : ∃ m, k = m + 1 := ⟨k - 1, by omega⟩
      have h1 : (Y : Int).tmod 10 = ((Y % 10 : Nat) : Int) := by rw [Int.tmod_eq_emod_of_nonneg (by omega)]; rfl
      have h2 : (Y : Int).tdiv 10 = ((Y / 10 : Nat) : Int) := by rw [Int.tdiv_eq_ediv_of_nonneg (by omega)]; rfl
      obtain ⟨r, hr⟩ : ∃ r, Y % 10 = r := ⟨_, rfl⟩
      obtain ⟨q, hq⟩ : ∃ q, Y / 10 = q := ⟨_, rfl⟩
      have hr9 : r < 10 := by omega
      rw [hr] at h1 hd
      rw [hq] at h2 hd
      have hqY : q < Y := by omega
      have w1 : IntKind.u64.wrap (r : Int) = r := by rw [uwrap_def]; omega
      obtain ⟨c, hc⟩ : ∃ c : Int, 48 + (r : Int) = c := ⟨_, rfl⟩
      have w2 : IntKind.u64.wrap c = c := by rw [uwrap_def]; omega
      have w3 : IntKind.u8.wrap c = c := by rw [u8wrap_def]; omega
      have w4 : IntKind.u64.wrap (q : Int) = q := by rw [uwrap_def]; omega
      have HC : Hid (c = ((UInt8.ofNat (48 + r)).toNat : Int)) := (show _ = _ by
        rw [UInt8.toNat_ofNat_of_lt' (by omega : 48 + r < 256)]; omega)
      have HU2 : Hid (Nu.dec N = Nu.dec q ++ (UInt8.ofNat (48 + r) :: u)) := (show _ = _ by rw [HU.out, hd]; simp)
      have h9' : ((9 : Int) < (Y : Int)) := by omega
      have HQY := Lib.hid hqY
      have hqN : q ≤ N := by omega
      clear hd hd1 hlen hku hr hq h9 hr9 hqY
      go_wp2_with (go_at_call 31; refine (ahead_is HR HC).mono ?_; rintro e w2 ⟨rfl, HR2⟩)
      refine ⟨⟨q, m, _, rfl, hqN, HR2, HU2⟩, ?_⟩
      have := HQY.out
      simp [intOf]
      omega
    · have hd := Nu.dec_small (n := Y) (by omega)
      rw [hd, List.length_singleton] at hlen
      obtain ⟨m, rfl⟩ : ∃ m, k = m + 1 + 1 := ⟨k - 2, by omega⟩
      obtain ⟨c, hc⟩ : ∃ c : Int, 48 + (Y : Int) = c := ⟨_, rfl⟩
      have w2 : IntKind.u64.wrap c = c := by rw [uwrap_def]; omega
      have w3 : IntKind.u8.wrap c = c := by rw [u8wrap_def]; omega
      have HC : Hid (c = ((UInt8.ofNat (48 + Y)).toNat : Int)) := (show _ = _ by
        rw [UInt8.toNat_ofNat_of_lt' (by omega : 48 + Y < 256)]; omega)
      have HU2 : Hid (Nu.dec N = UInt8.ofNat (48 + Y) :: u) := (show _ = _ by rw [HU.out, hd]; simp)
      obtain ⟨cb, hcb⟩ : ∃ cb, UInt8.ofNat (48 + Y) = cb := ⟨_, rfl⟩
      rw [hcb] at HC HU2
      clear hcb
      have h9' : ¬ ((9 : Int) < (Y : Int)) := by omega
      have HM : Hid (m + u.length + 2 = 20) := (show _ = _ by omega)
      clear hd hlen hku h9
      obtain ⟨L, hL⟩ : ∃ L, 20 - m = L := ⟨_, rfl⟩
      obtain ⟨L1, hL1⟩ : ∃ L1, 20 - (m + 1) = L1 := ⟨_, rfl⟩
      have hs := slice_room w.heap.size m (by have := HM.out; omega)
      have hs1 := slice_room w.heap.size (m + 1) (by have := HM.out; omega)
      rw [hL] at hs
      rw [hL1] at hs1
      obtain ⟨m1, hm1⟩ : ∃ m1, m + 1 = m1 := ⟨_, rfl⟩
      rw [hm1] at hs1
      have HLL : Hid (L = u.length + 2 ∧ L1 = u.length + 1) := (show _ ∧ _ by have := HM.out; omega)
      have HM1 := Lib.hid hm1
      clear hL hL1 hm1
      by_cases hneg : z < 0
      · have H45 : Hid ((45 : Int) = ((45 : UInt8).toNat : Int)) := (show _ = _ from rfl)
        clear hs1
        go_wp2_with (first
          | (go_at_call 31; (with_reducible (show Calls _ _ #[Value.int _ 45, _, _] _ _)); refine (ahead_is HR2 H45).mono ?_; rintro e w3 ⟨rfl, HR3⟩; have c3 := HR3.out.cell; have hcv := room_text HR3.out L L (by rw [HLL.out.1]; rfl))
          | (go_at_call 31; (with_reducible (show Calls _ _ #[Value.int _ c, _, _] _ _)); refine (ahead_is HR HC).mono ?_; rintro e w2 ⟨rfl, HR2⟩))
        go_ret
        refine ⟨?_, HR3.out.bel⟩
        rw [← ht.out]
        unfold Nu.text
        rw [if_pos hneg, HN.out, HU2.out]
        rfl
      · clear hs
        go_wp2_with (go_at_call 31; (with_reducible (show Calls _ _ #[Value.int _ c, _, _] _ _)); refine (ahead_is HR HC).mono ?_; rintro e w2 ⟨rfl, HR2⟩; have HR3 := HR2; rw [HM1.out] at HR3; have c2 := HR3.out.cell; have hcv := room_text HR3.out L1 L1 (by rw [HLL.out.2]; rfl))
        go_ret
        refine ⟨?_, HR2.out.bel⟩
        rw [← ht.out]
        unfold Nu.text
        rw [if_neg (by omega : ¬ z < 0), HN.out, HU2.out]
        rfl
end Go.Proofs.Ytaekjkihdecmcaa
