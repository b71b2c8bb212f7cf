/-
  The program's dict in memory: New, Len, add, at this program.
-/
import Derived.Test.YtaghkidelbepnaaDcP
import Derived.Test.YtaghkidelbepnaaDcM
import Derived.Test.YtaghkidelbepnaaDiG
set_option linter.unusedVariables false
set_option linter.unusedSimpArgs false
namespace Go.Proofs.Ytaghkidelbepnaa
open Go.RowKit
open Di

abbrev cE (e : Ent) : List Value := [.int .i64 e.1.1.1, .int .i64 e.1.1.2.1, .string e.1.1.2.2, .int .i64 e.1.2.1, .int .i64 e.1.2.2.1, .string e.1.2.2.2, .bool e.2]
abbrev vE (e : Ent) : Value := .agg #[.int .i64 e.1.1.1, .int .i64 e.1.1.2.1, .string e.1.1.2.2, .int .i64 e.1.2.1, .int .i64 e.1.2.2.1, .string e.1.2.2.2, .bool e.2]
theorem cE_len (e : Ent) : (cE e).length = 7 := rfl
theorem infoEnt : (Try.prog.info? 75).map (fun i => (i.zero, i.size, i.bytes)) = some (some (.agg #[.int .i64 0, .int .i64 0, .string ⟨#[]⟩, .int .i64 0, .int .i64 0, .string ⟨#[]⟩, .bool false]), 7, 72) := by kernel_rfl
/-- Block a is a dict of the program's: v its row of pairs with gaps, mb its map of places. -/
structure DS (w : World) (a : Nat) (v : Value) (mb : Nat) (es : List Ent) (f : V → Option Nat) (n : Nat) : Prop where
  head : w.heap[a]? = some (.cells #[v, .map (some mb)] 73)
  row : w.ownsRow 0 75 7 v es.length (es.flatMap cE)
  map : MapN w mb n f
section
variable {w w' : World} {a mb n : Nat} {v : Value} {es : List Ent} {f : V → Option Nat}
theorem DS.lt (h : DS w a v mb es f n) : a < w.heap.size := (Array.getElem?_eq_some_iff.1 h.head).1
theorem DS.row_lt (h : DS w a v mb es f n) : ∀ k, v.ownBlock = some k → k < w.heap.size := fun k hk => (h.row.lt k hk).2
theorem DS.kept (h : DS w a v mb es f n) (h1 : w'.heap[a]? = w.heap[a]?) (h2 : ∀ k, v.ownBlock = some k → w'.heap[k]? = w.heap[k]?) (h3 : w'.heap[mb]? = w.heap[mb]?) : DS w' a v mb es f n := by
  refine ⟨h1.trans h.head, ⟨h.row.1, ?_⟩, h.map.of_block h3⟩
  rcases h.row.2 with hn | ⟨g, cap, cur, hv, hbg, hg, rest⟩
  · exact .inl hn
  · exact .inr ⟨g, cap, cur, hv, hbg, (h2 g (by rw [hv]; rfl)).trans hg, rest⟩
theorem DS.below (h : DS w a v mb es f n) (hb : Below w.heap.size w w') : DS w' a v mb es f n := h.kept (hb.block a h.lt) (fun k hk => hb.block k (h.row_lt k hk)) (hb.block mb h.map.lt)
theorem DS.cell0 (h : DS w a v mb es f n) : w.cell? ⟨a, 0, none⟩ = some v := by simp [World.cell?, h.head]
theorem DS.cell1 (h : DS w a v mb es f n) : w.cell? ⟨a, 1, none⟩ = some (.map (some mb)) := by simp [World.cell?, h.head]
theorem DS.frozen (h : DS w a v mb es f n) (i : Nat) : w.frozen? ⟨a, i, none⟩ = false := by simp [World.frozen?, h.head]
theorem DS.mb_ne (h : DS w a v mb es f n) : mb ≠ a := by
  rintro rfl
  obtain ⟨es, ck, e⟩ := h.map.is_map
  rw [h.head] at e
  simp at e
theorem DS.own_ne (h : DS w a v mb es f n) : v.ownBlock ≠ some a := by
  rcases h.row.2 with ⟨rfl, _⟩ | ⟨g', cap', cur, rfl, _, hgb, _⟩
  · simp [Value.ownBlock]
  · intro e
    simp only [Value.ownBlock, Option.some.injEq] at e
    subst e
    rw [h.head] at hgb
    simp at hgb
theorem DS.own_mb (h : DS w a v mb es f n) : v.ownBlock ≠ some mb := by
  rcases h.row.2 with ⟨rfl, _⟩ | ⟨g', cap', cur, rfl, _, hgb, _⟩
  · simp [Value.ownBlock]
  · intro e
    simp only [Value.ownBlock, Option.some.injEq] at e
    subst e
    obtain ⟨es, ck, e⟩ := h.map.is_map
    rw [e] at hgb
    simp at hgb
end
/-- The blocks of a dict of the program's. -/
def BK (a : Nat) (v : Value) (mb k : Nat) : Prop := k = a ∨ v.ownBlock = some k ∨ k = mb
theorem dLen_is {w : World} {a mb n : Nat} {v : Value} {es : List Ent} {f : V → Option Nat} (H : Hid (DS w a v mb es f n)) :
    Calls Try.prog 25 #[ptrV a] w fun e w' => e = .returned (.int .i64 (n : Int)) ∧ w' = w := by
  have c1 := H.out.cell1
  have hlen := H.out.map.len 3
  go_enter Try.func25, Try.ntmps25
  go_wp2_with fail
  go_ret
  exact ⟨rfl, rfl⟩
theorem run_makeMap_n {t k e : TypeId} (ht : Try.prog.underlying t = some (.map k e)) (m : Int) (w : World) : (Instr.makeMap t (some (.int .i64 m))).run Try.prog w = .ok (.map (some w.heap.size)) (w.alloc (.map #[] 0)) := by
  simp [Instr.makeMap, run_underlying ht, asInt, asIntOf, Result.andThen]
theorem MapN.of_new {w : World} {b : Nat} (h : w.heap[b]? = some (.map #[] 0)) : MapN w b 0 (fun _ => none) := by
  obtain ⟨D, ⟨es, ck, h1, h2⟩, r⟩ := MapN.made w
  rw [heap_alloc_new] at h1
  cases h1
  exact ⟨D, ⟨_, _, h, h2⟩, r⟩
theorem made_new {w' : World} {a mb m g : Nat} {v : Value} {C : Array Value} (h1 : v = .slice (some ⟨g, 0, none⟩) 0 m) (h2 : w'.heap[a]? = some (.cells #[v, .map (some mb)] 73)) (h3 : w'.heap[g]? = some (.cells C 75)) (h4 : C.size = m * 7) (h5 : m ≤ maxLen) (h6 : w'.heap[mb]? = some (.map #[] 0)) : DS w' a v mb [] (fun _ => none) 0 :=
  ⟨h2, ⟨rfl, .inr ⟨g, m, C, h1, Nat.zero_le _, h3, Nat.zero_le _, h5, h4, rfl⟩⟩, MapN.of_new h6⟩
theorem three_below (w : World) (o1 o2 o3 : Obj) : Below w.heap.size w (((w.alloc o1).alloc o2).alloc o3) := (two_below w o1 o2).alloc (two_below w o1 o2).size _
theorem three_2 (w : World) (o1 o2 o3 : Obj) : (((w.alloc o1).alloc o2).alloc o3).heap[w.heap.size + 1 + 1]? = some o3 := by
  have := heap_alloc_new ((w.alloc o1).alloc o2) o3
  rwa [World.size_alloc, World.size_alloc] at this
theorem three_1 (w : World) (o1 o2 o3 : Obj) : (((w.alloc o1).alloc o2).alloc o3).heap[w.heap.size + 1]? = some o2 :=
  (Below.heap_alloc _ _ _ (by rw [World.size_alloc, World.size_alloc]; omega)).trans (two_heap w o1 o2)
theorem three_0 (w : World) (o1 o2 o3 : Obj) : (((w.alloc o1).alloc o2).alloc o3).heap[w.heap.size]? = some o1 :=
  (Below.heap_alloc _ _ _ (by rw [World.size_alloc, World.size_alloc]; omega)).trans ((Below.heap_alloc _ _ _ (by rw [World.size_alloc]; omega)).trans (heap_alloc_new w o1))
theorem made_all {w w' : World} {a mb m g : Nat} {C : Array Value} (h2 : w'.heap[a]? = some (.cells #[.slice (some ⟨g, 0, none⟩) 0 m, .map (some mb)] 73)) (h3 : w'.heap[g]? = some (.cells C 75)) (h6 : w'.heap[mb]? = some (.map #[] 0)) (h4 : C.size = m * 7) (h5 : m ≤ maxLen) (hb : Below w.heap.size w w') (hg : w.heap.size ≤ a ∧ w.heap.size ≤ g ∧ w.heap.size ≤ mb) :
    ∃ a' v mb', Ending.returned (ptrV a) = .returned (ptrV a') ∧ Hid (DS w' a' v mb' [] (fun _ => none) 0) ∧ Hid (Below w.heap.size w w') ∧ Hid (∀ k, BK a' v mb' k → w.heap.size ≤ k) := by
  refine ⟨a, _, mb, rfl, made_new rfl h2 h3 h4 h5 h6, hb, (show ∀ k, BK a (.slice (some ⟨g, 0, none⟩) 0 m) mb k → _ from ?_)⟩
  rintro k (h | h | h)
  · omega
  · simp only [Value.ownBlock, Option.some.injEq] at h; omega
  · omega
set_option maxHeartbeats 4000000 in
theorem dsized_is (m : Nat) (hm : m ≤ 20000) (w : World) :
    Calls Try.prog 34 #[.int .i64 (m : Int)] w fun e w' => ∃ a v mb, e = .returned (ptrV a) ∧ Hid (DS w' a v mb [] (fun _ => none) 0) ∧ Hid (Below w.heap.size w w') ∧ Hid (∀ k, BK a v mb k → w.heap.size ≤ k) := by
  have hmm := run_makeMap_n Try.underlying71 (m : Int)
  obtain ⟨i0, hi, hz0, hz1, hz2⟩ := info_parts infoEnt
  obtain ⟨C, hC⟩ : ∃ C, madeCells (#[.int .i64 0, .int .i64 0, .string ⟨#[]⟩, .int .i64 0, .int .i64 0, .string ⟨#[]⟩, .bool false] : Array Value) (m * 7) = C := ⟨_, rfl⟩
  have HC : Hid (C.size = m * 7) := (show _ = _ by rw [← hC, size_madeCells])
  have hmk : ∀ w, (Instr.makeSlice 70 (.int .i64 0) (.int .i64 (m : Int))).run Try.prog w = .ok (.slice (some ⟨w.heap.size, 0, none⟩) 0 m) (w.alloc (.cells C 75)) := fun w => by
    have := run_make (P := Try.prog) w 70 75 i0 _ Try.underlying70 hi hz0 .i64 .i64 0 (m : Int) (Int.le_refl _) (by omega) (by rw [hz2]; omega) (by omega)
    rw [this, hz1]
    simp only [Int.toNat_zero, Int.toNat_natCast]
    rw [← hC]
    rfl
  clear hC hz0 hz1 hz2 hi
  go_enter Try.func34, Try.ntmps34
  go_wp2_with fail
  go_region
  all_goals
    go_wp2_with fail
    go_ret
    first
      | exact made_all (three_2 w _ _ _) (three_0 w _ _ _) (three_1 w _ _ _) HC.out (by unfold maxLen; omega) (three_below w _ _ _).drew (by omega)
      | exact made_all (three_2 w _ _ _) (three_1 w _ _ _) (three_0 w _ _ _) HC.out (by unfold maxLen; omega) (three_below w _ _ _).drew (by omega)
end Go.Proofs.Ytaghkidelbepnaa
