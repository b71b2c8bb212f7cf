/-
  The tokens of a whole source, at this program.
-/
import Derived.Test.YtbdjccmcdifjcaaGreatDoorRdN
import Derived.Test.YtbdjccmcdifjcaaGreatDoorLayP
import Derived.Test.YtbdjccmcdifjcaaGreatDoorCatch
set_option linter.unusedVariables false
set_option linter.unusedSimpArgs false
namespace Go.Proofs.YtbdjccmcdifjcaaGreatDoor
open Go.RowKit Go.Shelf
attribute [local go_sem] Oper.semAt_some

/-- What Tokens answers. -/
def LayEnd (B : Nat) (x : Except (Int × Int) (List T4)) (e : Ending) (w' : World) : Prop :=
  match x with
  | .ok ts => ∃ v, e = .returned (.tuple #[v, .int .i64 0, .int .i64 0]) ∧ Row4 B v ts w'
  | .error p => e = .returned (.tuple #[.slice none 0 0, .int .i64 p.1, .int .i64 p.2])

/-- A row lies on where another block is turned. -/
theorem own_blocks {w w' : World} {B T n k : Nat} {v : Value} {xs : List Value} (h : w.ownsRow B T n v k xs) (hb : ∀ g, v.ownBlock = some g → w'.heap[g]? = w.heap[g]?) : w'.ownsRow B T n v k xs := by
  refine ⟨h.1, ?_⟩
  rcases h.2 with hn | ⟨g, cap, cur, rfl, hbg, hg, rest⟩
  · exact .inl hn
  · exact .inr ⟨g, cap, cur, rfl, hbg, (hb g rfl).trans hg, rest⟩
theorem Rd.blocks {B b : Nat} {v5 v6 v7 : Value} {out opn : List T4} {bs : List Nat} {w w' : World} (h : Rd B b v5 v6 v7 out opn bs w) (hb : ∀ (k : Nat) (o : Obj), (k = b ∨ B ≤ k) → w.heap[k]? = some o → o.isCells = true → w'.heap[k]? = some o) : Rd B b v5 v6 v7 out opn bs w' := by
  have key : ∀ {T n k : Nat} {v : Value} {xs : List Value}, w.ownsRow B T n v k xs → w'.ownsRow B T n v k xs := by
    intro T n k v xs ho
    refine own_blocks ho (fun g hg => ?_)
    have hl := ho.lt g hg
    have he := Array.getElem?_eq_getElem hl.2
    rw [he]
    exact hb g _ (Or.inr hl.1) he (own_cells ho g _ hg he)
  exact ⟨hb b _ (Or.inl rfl) h.heap rfl, key h.out, key h.opn, key h.blk⟩

/-- Between two lines. H: where the call's own blocks begin. -/
structure Between (H : Nat) (w : World) (pre : List (Nat × Sp.Bs)) (W : World) : Prop where
  rd : ∃ st v5 v6 v7 bs, Sp.runL Sp.st0 pre = .ok st ∧ st.blk = bs ++ [0] ∧ Sp.Opens st.opn ∧ Rd (H + 10) (H + 3) v5 v6 v7 st.out st.opn bs W
  r0 : W.heap[H]? = some (.cells #[.slice none 0 0] 25)
  r1 : W.heap[H + 1]? = some (.cells #[.int .i64 0] 3)
  r2 : W.heap[H + 2]? = some (.cells #[.int .i64 0] 28)
  at_ : W.heap[H + 4]? = some (.cells #[.int .i64 (Sp.nextAt pre : Int)] 3)
  below : Below H w W
  size : H + 10 ≤ W.heap.size

theorem Between.turn {H : Nat} {w W W' : World} {pre : List (Nat × Sp.Bs)} (h : Between H w pre W) (hb : ∀ (k : Nat) (o : Obj), (k < H + 5 ∨ H + 10 ≤ k) → W.heap[k]? = some o → o.isCells = true → W'.heap[k]? = some o) (hB : Below H w W') (hs : W.heap.size ≤ W'.heap.size) : Between H w pre W' := by
  obtain ⟨⟨st, v5, v6, v7, bs, h1, h2, h3, h4⟩, r0, r1, r2, ra, _, hz⟩ := h
  refine ⟨⟨st, v5, v6, v7, bs, h1, h2, h3, h4.blocks (fun k o hk => hb k o (by omega))⟩, hb H _ (by omega) r0 rfl, hb _ _ (by omega) r1 rfl, hb _ _ (by omega) r2 rfl, hb _ _ (by omega) ra rfl, hB, Nat.le_trans hz hs⟩

theorem Sp.layL_err {s : Sp.Bs} {pre post : List (Nat × Sp.Bs)} {p : Int × Int} (h : Sp.linesL s = pre ++ post) (hr : Sp.runL Sp.st0 pre = .error p) : Sp.layL s = .error p := by
  unfold Sp.layL
  rw [h, Sp.runL_append, hr]
theorem Sp.Opens.brk {opn o : List T4} : ∀ (ts : List T4), Sp.Opens opn → Sp.brk opn ts = .ok o → Sp.Opens o := by
  intro ts
  induction ts generalizing opn with
  | nil => intro h e; rw [Sp.brk] at e; cases e; exact h
  | cons t ts ih =>
    intro h e
    rw [Sp.brk_one] at e
    cases hb : Sp.brk1 opn t with
    | error p => rw [hb] at e; cases e
    | ok o1 => rw [hb] at e; exact ih (h.one hb) e
theorem Sp.Opens.rest {st st' : Sp.LS} {m : List T4} {b : List Nat} {x : Nat × Sp.Bs} (h : Sp.Opens st.opn) (e : Sp.lineRest st m b x = .ok st') : Sp.Opens st'.opn := by
  unfold Sp.lineRest at e
  split at e
  · cases e
  · split at e
    · cases e
    · rename_i o hb
      cases e
      exact Sp.Opens.brk _ h hb
theorem Sp.Opens.line {st st' : Sp.LS} {x : Nat × Sp.Bs} (h : Sp.Opens st.opn) (e : Sp.lineStep st x = .ok st') : Sp.Opens st'.opn := by
  unfold Sp.lineStep at e
  split at e
  · split at e
    · cases e; exact h
    · split at e
      · cases e; exact h
      · split at e
        · cases e
        · exact Sp.Opens.rest h e
  · exact Sp.Opens.rest h e

/-- Behind a panic. -/
def Behind (H : Nat) (w : World) (s : Sp.Bs) (ch : List PanicEntry) (W : World) : Prop :=
  ∃ p, ch = wrongP p ∧ Sp.layL s = .error p ∧ Below H w W ∧ H + 10 ≤ W.heap.size ∧ W.heap[H]? = some (.cells #[.slice none 0 0] 25) ∧ W.heap[H + 1]? = some (.cells #[.int .i64 0] 3) ∧ W.heap[H + 2]? = some (.cells #[.int .i64 0] 28)

theorem cells_one {W : World} {k : Nat} {v : Value} {T : Nat} (h : W.heap[k]? = some (.cells #[v] T)) : W.cell? ⟨k, 0, none⟩ = some v ∧ W.frozen? ⟨k, 0, none⟩ = false := by
  constructor
  · simp [World.cell?, h]
  · simp [World.frozen?, h]

/-- The frame leaves by the panic of what is wrong: it is caught. -/
theorem leaves_wrong (H : Nat) (w W : World) (p : Int × Int) (T : Array Value) (h2 : T[2]? = some (.pointer (some ⟨H, 0, none⟩))) (h3 : T[3]? = some (.pointer (some ⟨H + 1, 0, none⟩))) (h4 : T[4]? = some (.pointer (some ⟨H + 2, 0, none⟩)))
    (r0 : W.heap[H]? = some (.cells #[.slice none 0 0] 25)) (r1 : W.heap[H + 1]? = some (.cells #[.int .i64 0] 3)) (r2 : W.heap[H + 2]? = some (.cells #[.int .i64 0] 28)) (hsz : H + 10 ≤ W.heap.size) (hb : Below H w W) (hd : W.heap[H + 8]? = some (.deferred (some [])))
    (R : Ending → World → Prop) (hR : ∀ w', Below H w w' → R (.returned (.tuple #[.slice none 0 0, .int .i64 p.1, .int .i64 p.2])) w') :
    LeavesInM Fence.wide 9 Tryz.prog Tryz.f13 T R [{ target := .collected (H + 8), args := #[] }, { target := .fn (.func 22) #[.pointer (some ⟨H, 0, none⟩), .pointer (some ⟨H + 1, 0, none⟩), .pointer (some ⟨H + 2, 0, none⟩)], args := #[] }] (.panicking (wrongP p)) W := by
  have eg : ∀ args w, (callFunc 22 args).run Tryz.prog w = .ok (.enter 22 args) w := enters_of Tryz.func22 (by kernel_rfl) rfl
  refine ⟨by simp, .inl ⟨_, _, rfl, run_takeDeferred hd, ?_⟩⟩
  have o0 : (W.putObj (H + 8) (.deferred none)).heap[H]? = _ := (World.putObj_heap_other (by omega)).trans r0
  have o1 : (W.putObj (H + 8) (.deferred none)).heap[H + 1]? = _ := (World.putObj_heap_other (by omega)).trans r1
  have o2 : (W.putObj (H + 8) (.deferred none)).heap[H + 2]? = _ := (World.putObj_heap_other (by omega)).trans r2
  obtain ⟨c0, f0⟩ := cells_one o0
  obtain ⟨c1, f1⟩ := cells_one o1
  obtain ⟨c2, f2⟩ := cells_one o2
  have hb' : Below H w (W.putObj (H + 8) (.deferred none)) := hb.grown (grownBy_putObj' W _ _) (by omega) (fun j hj => by cases hj; omega)
  refine ⟨by simp, .inr ⟨fun _ => by omega, _, _, 22, #[.pointer (some ⟨H, 0, none⟩), .pointer (some ⟨H + 1, 0, none⟩), .pointer (some ⟨H + 2, 0, none⟩)], rfl, by simp [invoke, go_sem, eg], fun _ _ => trivial, ?_⟩⟩
  refine (catch_wrong H H (H + 1) (H + 2) (9 - 1) p.1 p.2 _ 0 0 _ (Nat.le_refl _) (by omega) (by omega) (by simp; omega) c0 c1 c2 f0 f1 f2).mono ?_
  rintro e u' w'' ⟨rfl, rfl, hb2, d0, d1, d2⟩
  refine ⟨_, ?_, hR w'' (hb'.trans hb2)⟩
  simp [results, Tryz.results13, go_sem, h2, h3, h4, d0, d1, d2]

/-- The frame leaves by a return: nothing is caught. -/
theorem leaves_fine (H : Nat) (w W : World) (pa : Option Addr) (ln cp : Nat) (T : Array Value) (h2 : T[2]? = some (.pointer (some ⟨H, 0, none⟩))) (h3 : T[3]? = some (.pointer (some ⟨H + 1, 0, none⟩))) (h4 : T[4]? = some (.pointer (some ⟨H + 2, 0, none⟩)))
    (d0 : W.cell? ⟨H, 0, none⟩ = some (.slice pa ln cp)) (d1 : W.cell? ⟨H + 1, 0, none⟩ = some (.int .i64 0)) (d2 : W.cell? ⟨H + 2, 0, none⟩ = some (.int .i64 0)) (hd : W.heap[H + 8]? = some (.deferred (some [])))
    (R : Ending → World → Prop) (hR : R (.returned (.tuple #[.slice pa ln cp, .int .i64 0, .int .i64 0])) (W.putObj (H + 8) (.deferred none))) :
    LeavesInM Fence.wide 9 Tryz.prog Tryz.f13 T R [{ target := .collected (H + 8), args := #[] }, { target := .fn (.func 22) #[.pointer (some ⟨H, 0, none⟩), .pointer (some ⟨H + 1, 0, none⟩), .pointer (some ⟨H + 2, 0, none⟩)], args := #[] }] .returning W := by
  have eg : ∀ args w, (callFunc 22 args).run Tryz.prog w = .ok (.enter 22 args) w := enters_of Tryz.func22 (by kernel_rfl) rfl
  refine ⟨by simp, .inl ⟨_, _, rfl, run_takeDeferred hd, ?_⟩⟩
  have hne : ∀ k, k < H + 8 → (W.putObj (H + 8) (.deferred none)).heap[k]? = W.heap[k]? := fun k hk => World.putObj_heap_other (by omega)
  have c0 := (World.cell?_of_block (a := ⟨H, 0, none⟩) (hne H (by omega))).trans d0
  have c1 := (World.cell?_of_block (a := ⟨H + 1, 0, none⟩) (hne (H + 1) (by omega))).trans d1
  have c2 := (World.cell?_of_block (a := ⟨H + 2, 0, none⟩) (hne (H + 2) (by omega))).trans d2
  refine ⟨by simp, .inr ⟨fun _ => by omega, _, _, 22, #[.pointer (some ⟨H, 0, none⟩), .pointer (some ⟨H + 1, 0, none⟩), .pointer (some ⟨H + 2, 0, none⟩)], rfl, by simp [invoke, go_sem, eg], fun _ _ => trivial, ?_⟩⟩
  refine (catch_idle ⟨H, 0, none⟩ ⟨H + 1, 0, none⟩ ⟨H + 2, 0, none⟩ (9 - 1) _).mono ?_
  rintro e u' w'' ⟨rfl, rfl, rfl⟩
  refine ⟨_, ?_, hR⟩
  simp [results, Tryz.results13, go_sem, h2, h3, h4, c0, c1, c2]

set_option maxHeartbeats 16000000 in
set_option maxRecDepth 100000 in
theorem tokens_any (s : ByteArray) (hs : s.size ≤ 60000) (w : World) (hE : Env w) :
    Calls Tryz.prog 13 #[.string s] w fun e w' => LayEnd w.heap.size (Sp.layL s.data.toList) e w' ∧ Below w.heap.size w w' := by
  have hmf : ∀ (fn : Fn) (first cap : Array Value) (w : World), (Instr.makeFunc fn first cap).run Tryz.prog w = .ok (.func fn first cap) w := fun _ _ _ _ => rfl
  refine (callsIn_wide (n := 9)).1 (callsIn_of_wpAt Tryz.func13 rfl trivial ?_ rfl)
  simp only [Tryz.ntmps13, List.size_toArray, List.length_cons, List.length_nil, Nat.reduceAdd, Nat.reduceSub, Array.replicate_succ, Array.replicate_zero, List.push_toArray, List.append_toArray, List.nil_append, List.cons_append]
  refine wpAt_seq (wpAt_of ?_)
  gi_wp2_with fail
  refine wpAt_seq (wpAt_of ?_)
  gi_wp2_with fail
  refine wpAt_seq (wpAt_of ?_)
  gi_wp2_with fail
  refine wpAt_seq (wpAt_of ?_)
  gi_wp2_with fail
  refine wpAt_seq (wpAt_seq (wpAt_of ?_))
  gi_wp2_with fail
  refine ⟨trivial, (callsIn_wide.2 (splitSeq_any s _)).mono ?_⟩
  rintro e w1 ⟨rfl, hw1⟩
  have hz : w1.heap.size = w.heap.size + 8 := by rw [hw1]; simp
  have hh : w1.heap = (((((((w.heap.push (.cells #[.slice none 0 0] 25)).push (.cells #[.int .i64 0] 3)).push (.cells #[.int .i64 0] 28)).push (.cells #[.slice none 0 0, .slice none 0 0, .slice none 0 0] 54)).push (.cells #[.int .i64 0] 3)).push (.cells #[.string s] 9)).push (.cells #[.string ⟨#[10]⟩] 9)).push (.cells #[.int .i64 0] 3) := by rw [hw1]; rfl
  have e0 : w1.heap[w.heap.size]? = some (.cells #[.slice none 0 0] 25) := by rw [hh]; simp only [Array.getElem?_push, Array.size_push]; repeat first | rw [if_neg (by omega)] | rw [if_pos trivial] | rw [if_pos rfl]
  have e1 : w1.heap[w.heap.size + 1]? = some (.cells #[.int .i64 0] 3) := by rw [hh]; simp only [Array.getElem?_push, Array.size_push]; repeat first | rw [if_neg (by omega)] | rw [if_pos trivial] | rw [if_pos rfl]
  have e2 : w1.heap[w.heap.size + 2]? = some (.cells #[.int .i64 0] 28) := by rw [hh]; simp only [Array.getElem?_push, Array.size_push]; repeat first | rw [if_neg (by omega)] | rw [if_pos trivial] | rw [if_pos rfl]
  have e3 : w1.heap[w.heap.size + 3]? = some (.cells #[.slice none 0 0, .slice none 0 0, .slice none 0 0] 54) := by rw [hh]; simp only [Array.getElem?_push, Array.size_push]; repeat first | rw [if_neg (by omega)] | rw [if_pos trivial] | rw [if_pos rfl]
  have e4 : w1.heap[w.heap.size + 4]? = some (.cells #[.int .i64 0] 3) := by rw [hh]; simp only [Array.getElem?_push, Array.size_push]; repeat first | rw [if_neg (by omega)] | rw [if_pos trivial] | rw [if_pos rfl]
  have e5 : w1.heap[w.heap.size + 5]? = some (.cells #[.string s] 9) := by rw [hh]; simp only [Array.getElem?_push, Array.size_push]; repeat first | rw [if_neg (by omega)] | rw [if_pos trivial] | rw [if_pos rfl]
  have e6 : w1.heap[w.heap.size + 6]? = some (.cells #[.string ⟨#[10]⟩] 9) := by rw [hh]; simp only [Array.getElem?_push, Array.size_push]; repeat first | rw [if_neg (by omega)] | rw [if_pos trivial] | rw [if_pos rfl]
  have e7 : w1.heap[w.heap.size + 7]? = some (.cells #[.int .i64 0] 3) := by rw [hh]; simp only [Array.getElem?_push, Array.size_push]; repeat first | rw [if_neg (by omega)] | rw [if_pos trivial] | rw [if_pos rfl]
  have hb1 : Below w.heap.size w w1 := by
    rw [hw1]
    exact ((((((((Below.refl _ w).alloc (Nat.le_refl _) _).alloc (by simp) _).alloc (by simp <;> omega) _).alloc (by simp <;> omega) _).alloc (by simp <;> omega) _).alloc (by simp <;> omega) _).alloc (by simp <;> omega) _).alloc (by simp <;> omega) _
  clear hw1 hh
  gi_wp2_with fail
  simp only [Nat.add_assoc, Nat.reduceAdd]
  refine wpAt_block ?_
  obtain ⟨H, HH⟩ := hid_ex w.heap.size
  have hEs := hE.size
  rw [HH.out] at hEs hz e0 e1 e2 e3 e4 e5 e6 e7 hb1 ⊢
  refine wpAt_rangeFunc_P Tryz.func13 trivial rfl (fun h => by simp [Fence.wide] at h) (gf := 51) (lb := #[.pointer (some ⟨H + 6, 0, none⟩), .pointer (some ⟨H + 5, 0, none⟩), .pointer (some ⟨H + 7, 0, none⟩)]) rfl trivial (enters_of Tryz.func51 (by kernel_rfl) rfl)
    (fun (x : Nat × Sp.Bs) => Value.string ⟨x.2.toArray⟩) rfl (fun pre W => Between H w pre W ∧ (pre = [] → W.heap[H + 5]? = some (.cells #[.string s] 9)) ∧ W.heap[H + 6]? = some (.cells #[.string ⟨#[10]⟩] 9) ∧ W.heap[H + 7]? = some (.cells #[.int .i64 0] 3)) (Behind H w s.data.toList) (fun xs => ∃ post, Sp.linesL s.data.toList = xs ++ post) (fun xs => xs = Sp.linesL s.data.toList) (fun k => k = H + 5 ∨ k = H + 6 ∨ k = H + 7) ?hown ?hJ ?h0 ?hseq ?hround ?hdone ?hpan
  case hown =>
    intro k hk
    rw [hz]
    omega
  case hJ =>
    rintro pre W l o o' ⟨hJ, h5, h6, h7⟩ hl hlo hc
    rw [hz] at hl
    have hne : ∀ (k : Nat) (o'' : Obj), W.heap[k]? = some o'' → o''.isCells = true → (W.putObj l o').heap[k]? = some o'' := by
      intro k o'' hk ho
      rw [World.putObj_heap_other]
      · exact hk
      · rintro rfl
        rw [hk] at hlo
        cases hlo
        rw [ho] at hc
        cases hc
    refine ⟨hJ.turn (fun k o'' _ hk ho => hne k o'' hk ho) (hJ.below.grown (grownBy_putObj' W l o') (by have := hJ.size; omega) (fun j hj => by cases hj; omega)) (by simp), fun e => hne _ _ (h5 e) rfl, hne _ _ h6 rfl, hne _ _ h7 rfl⟩
  case h0 =>
    generalize hW2 : (World.alloc (World.alloc w1 _) _) = W2
    have hb8 : Below w1.heap.size w1 W2 := by
      rw [← hW2]
      exact ((Below.refl _ w1).alloc (Nat.le_refl _) _).alloc (by simp) _
    have hz2 : W2.heap.size = H + 10 := by rw [← hW2]; simp; omega
    have get : ∀ (k : Nat) (o : Obj), k < H + 8 → w1.heap[k]? = some o → W2.heap[k]? = some o := fun k o hk h => (hb8.block k (by omega)).trans h
    refine ⟨⟨⟨Sp.st0, .slice none 0 0, .slice none 0 0, .slice none 0 0, [], rfl, rfl, (by intro o ho; cases ho), ⟨get _ _ (by omega) e3, World.ownsRow_nil W2 (H + 10) 37 4, World.ownsRow_nil W2 (H + 10) 75 2, World.ownsRow_nil W2 (H + 10) 3 1⟩⟩, get _ _ (by omega) e0, get _ _ (by omega) e1, get _ _ (by omega) e2, get _ _ (by omega) e4, hb1.trans (hb8.mono (by omega)), by omega⟩, fun _ => get _ _ (by omega) e5, get _ _ (by omega) e6, get _ _ (by omega) e7⟩
  case hseq =>
    intro K Kp' W hK1 hK2 hY hK0
    obtain ⟨⟨hJ, h5, h6, h7⟩, hl, hd⟩ := hK1 _ _ hK0
    rw [hz] at hl hd hK1 hK2 hY ⊢
    refine (split_in (9 - 1) (H + 8 + 1) (H + 5) (H + 6) (H + 7) s hs (by omega) (by omega) K Kp' ?_ ?_ W ?_ ?_ ?_ ?_ hK0).mono ?_
    · intro pre x W v hK
      obtain ⟨⟨hJ, _, h6, h7⟩, hl, hd⟩ := hK1 _ _ hK
      have ho : ∀ k, k ≠ H + 5 → (W.setCell ⟨H + 5, 0, none⟩ v).heap[k]? = W.heap[k]? := fun k hk => heap_setCell_other W ⟨H + 5, 0, none⟩ k v hk
      refine hK2 _ _ ⟨hJ.turn (fun k o hk h _ => (ho k (by omega)).trans h) (hJ.below.setCell (p := ⟨H + 5, 0, none⟩) (by simp) v) (by simp), fun e => by simp at e, (ho _ (by omega)).trans h6, (ho _ (by omega)).trans h7⟩ ((ho _ (by omega)).trans hl) ((ho _ (by omega)).trans hd)
    · rintro pre x W1 hK ⟨post, hp⟩
      exact hY pre x W1 hK ⟨post, by rw [hp]; simp⟩
    · have := h5 rfl
      simp [World.cell?, this]
    · have := h5 rfl
      simp [World.frozen?, this]
    · simp [World.cell?, h6]
    · simp [World.cell?, h7]
    · rintro e W' (⟨v, rfl, hK⟩ | ⟨ch, rfl, h⟩)
      · exact Or.inl ⟨v, rfl, _, rfl, hK⟩
      · exact Or.inr ⟨ch, rfl, h⟩
  case hround =>
    rintro pre x W ⟨hJ, h5, h6, h7⟩ ⟨post, hpost⟩ hl hd
    rw [hz] at hl hd ⊢
    -- the world in which the line is read
    generalize hW' : World.putObj W (H + 8 + 1) _ = W'
    have hlt9 : H + 8 + 1 < W.heap.size := (Array.getElem?_eq_some_iff.1 hl).1
    have hne : ∀ k, k ≠ H + 9 → W'.heap[k]? = W.heap[k]? := fun k hk => by rw [← hW']; exact World.putObj_heap_other (by omega)
    have hJ' : Between H w pre W' := hJ.turn (fun k o hk h ho => by
      by_cases e : k = H + 9
      · subst e
        rw [hl] at h
        cases h
        cases ho
      · exact (hne k e).trans h) (by rw [← hW']; exact hJ.below.grown (grownBy_putObj' W _ _) (by have := hJ.size; omega) (fun j hj => by cases hj; omega)) (by rw [← hW']; simp)
    obtain ⟨⟨out, opn, blk⟩, v5, v6, v7, bs, hrun, rfl, hop, hRd⟩ := hJ'.rd
    have hx1 : x.1 = Sp.nextAt pre := Sp.linesL_at (post := post) (by rw [hpost]; simp)
    have hsum : Sp.nextAt pre + (x.2.length + 1) ≤ s.size + 1 := by
      have h1 := Sp.linesL_sum s.data.toList
      rw [hpost, Sp.nextAt_append, Sp.nextAt_append, size_list] at h1
      simp [Sp.nextAt] at h1
      omega
    have hlen := Sp.runL_len _ _ _ hrun
    simp only [Sp.st0, List.length_nil, List.length_append, List.length_cons] at hlen
    obtain ⟨lb, hlb⟩ : ∃ lb : ByteArray, lb = ⟨x.2.toArray⟩ := ⟨_, rfl⟩
    have hlbl : lb.data.toList = x.2 := by rw [hlb]
    have hlbz : lb.size = x.2.length := by rw [← size_list, hlbl]
    have HLN := Lib.hid (rdline_any (H + 3) (H + 10) (H + 3) (Sp.nextAt pre) lb v5 v6 v7 out opn bs W' hRd (hE.below hJ'.below hEs) (by omega) (by omega) (Nat.le_refl _) hJ'.size (by omega) (by omega) (by omega) (by omega) (by omega) hop)
    rw [hlbl, ← hx1] at HLN
    obtain ⟨rx, HRX⟩ := hid_ex (Sp.lineStep ⟨out, opn, bs ++ [0]⟩ x)
    rw [HRX.out] at HLN
    have ca : W'.cell? ⟨H + 4, 0, none⟩ = some (.int .i64 (x.1 : Int)) := by simp [World.cell?, hJ'.at_, hx1]
    have HJ := Lib.hid hJ'
    have HNE := Lib.hid hne
    have HS := Lib.hid hsum
    have HBS := Lib.hid hlen
    have HRUN := Lib.hid hrun
    have HOP := Lib.hid hop
    have HX1 := Lib.hid hx1
    have HLBZ := Lib.hid hlbz
    have hxa : x.1 ≤ 60001 := by omega
    have hlz : lb.size ≤ 60000 := by omega
    rw [← hlb]
    clear hJ hJ' hne hsum hlen hrun hop hx1 hlbz hlbl hlb hRd h5 hl hd hE hb1 hW' hlt9
    gi_wp2_with fail
    refine ⟨trivial, (CallsIn.inRound _ (callsIn_wide.2 HLN.out)).mono ?_⟩
    clear HLN
    rintro e w2 ⟨hK, he⟩
    have r0 := (hK.2.2 H (by omega) (by omega)).trans HJ.out.r0
    have r1 := (hK.2.2 (H + 1) (by omega) (by omega)).trans HJ.out.r1
    have r2 := (hK.2.2 (H + 2) (by omega) (by omega)).trans HJ.out.r2
    have hbw : Below H w w2 := HJ.out.below.trans (hK.1.mono (by omega))
    have hsz : H + 10 ≤ w2.heap.size := Nat.le_trans HJ.out.size hK.1.size
    have hstep := Sp.runL_snoc pre x HRUN.out
    rw [HRX.out] at hstep
    cases rx with
    | error p =>
      obtain rfl : e = _ := he
      exact ⟨rfl, hK.2.1, p, rfl, Sp.layL_err hpost hstep, hbw, hsz, r0, r1, r2⟩
    | ok st' =>
      obtain ⟨rfl, v5', v6', v7', bs', hblk, hR'⟩ := he
      have hop' := Sp.Opens.line HOP.out HRX.out
      have h4 := (hK.2.2 (H + 4) (by omega) (by omega)).trans HJ.out.at_
      have ca2 : w2.cell? ⟨H + 4, 0, none⟩ = some (.int .i64 (x.1 : Int)) := by simp [World.cell?, h4, HX1.out]
      have fa2 : w2.frozen? ⟨H + 4, 0, none⟩ = false := by simp [World.frozen?, h4]
      have hnx : Sp.nextAt (pre ++ [x]) = x.1 + (lb.size + 1) := by
        rw [Sp.nextAt_append, Sp.nextAt, Sp.nextAt, HX1.out, HLBZ.out]
      have ho : ∀ k, k ≠ H + 4 → (w2.setCell ⟨H + 4, 0, none⟩ (.int .i64 ((x.1 : Int) + ((lb.size : Int) + 1)))).heap[k]? = w2.heap[k]? := fun k hk => heap_setCell_other w2 ⟨H + 4, 0, none⟩ k _ hk
      have hkeep : ∀ k, (k = H + 5 ∨ k = H + 6 ∨ k = H + 7) → (w2.setCell ⟨H + 4, 0, none⟩ (.int .i64 ((x.1 : Int) + ((lb.size : Int) + 1)))).heap[k]? = W.heap[k]? := fun k hk =>
        (ho k (by omega)).trans ((hK.2.2 k (by omega) (by omega)).trans (HNE.out k (by omega)))
      have hbet : Between H w (pre ++ [x]) (w2.setCell ⟨H + 4, 0, none⟩ (.int .i64 ((x.1 : Int) + ((lb.size : Int) + 1)))) := by
        refine ⟨⟨st', v5', v6', v7', bs', hstep, hblk, hop', hR'.blocks (fun k o hk h _ => (ho k (by omega)).trans h)⟩, (ho _ (by omega)).trans r0, (ho _ (by omega)).trans r1, (ho _ (by omega)).trans r2, ?_, hbw.setCell (p := ⟨H + 4, 0, none⟩) (by simp) _, by simpa using hsz⟩
        rw [heap_setCell_same w2 (H + 4) 0 _ _ _ h4, hnx]
        simp
      have HA := Lib.hid (hK.2.1.trans (KeepsOthers.setCell w2 ⟨H + 4, 0, none⟩ (.int .i64 ((x.1 : Int) + ((lb.size : Int) + 1)))))
      have HKP := Lib.hid hkeep
      have HBT := Lib.hid hbet
      clear hK r0 r1 r2 hbw hsz hstep hblk hR' hop' h4 hnx ho hkeep hbet HRX HJ ca HOP HRUN
      gi_wp2_with fail
      have k5 := HKP.out (H + 5) (Or.inl rfl)
      have k6 := (HKP.out (H + 6) (Or.inr (Or.inl rfl))).trans h6
      have k7 := (HKP.out (H + 7) (Or.inr (Or.inr rfl))).trans h7
      exact ⟨HA.out, ⟨k5, k6, k7⟩, HBT.out, k6, k7⟩
  case hdone =>
    rintro xs W rfl ⟨hJ, _, _, _⟩ hd
    rw [hz] at hd ⊢
    obtain ⟨⟨out, opn, blk⟩, v5, v6, v7, bs, hrun, rfl, hop, hRd⟩ := hJ.rd
    have hlen := Sp.runL_len _ _ _ hrun
    rw [Sp.linesL_sum, size_list] at hlen
    simp only [Sp.st0, List.length_nil, List.length_append, List.length_cons] at hlen
    have HED := Lib.hid (end_any (H + 3) (H + 10) (H + 3) v5 v6 v7 out opn bs (s.size : Int) W hRd (by omega) (Nat.le_refl _) hJ.size (by omega) (by omega) (by omega))
    have hlay : Sp.layL s.data.toList = Sp.finish s.size ⟨out, opn, bs ++ [0]⟩ := by
      unfold Sp.layL
      rw [hrun, size_list]
    have HLAY := Lib.hid hlay
    have HJ := Lib.hid hJ
    have HD := Lib.hid hd
    refine wpAt_seq (wpAt_of ?_)
    clear hlay hJ hd hrun hRd hlen hop hE
    gi_wp2_with fail
    refine ⟨trivial, (callsIn_wide.2 HED.out).mono ?_⟩
    clear HED
    rintro e w2 ⟨hK, he⟩
    have r0 := (hK.2.2 H (by omega) (by omega)).trans HJ.out.r0
    have r1 := (hK.2.2 (H + 1) (by omega) (by omega)).trans HJ.out.r1
    have r2 := (hK.2.2 (H + 2) (by omega) (by omega)).trans HJ.out.r2
    have hd2 := (hK.2.2 (H + 8) (by omega) (by omega)).trans HD.out
    have hbw : Below H w w2 := HJ.out.below.trans (hK.1.mono (by omega))
    have hsz : H + 10 ≤ w2.heap.size := Nat.le_trans HJ.out.size hK.1.size
    clear hK HJ HD
    cases opn with
    | cons o os =>
      obtain rfl : e = _ := he
      exact leaves_wrong H w w2 (o.2.1, 21) _ rfl rfl rfl r0 r1 r2 hsz hbw hd2 _ (fun w' hb' => ⟨by rw [HLAY.out]; rfl, hb'⟩)
    | nil =>
      obtain ⟨rfl, v5', v6', v7', hR'⟩ := he
      obtain ⟨ts, HTS⟩ := hid_ex (out ++ List.replicate bs.length (Sp.mark 7 (s.size : Int)) ++ [Sp.mark 8 (s.size : Int)])
      rw [HTS.out] at hR'
      obtain ⟨p5, k5, rfl, _⟩ := hR'.out.form
      have hlay : Hid (Sp.layL s.data.toList = .ok ts) := by
        show _ = _
        rw [HLAY.out, ← HTS.out]
        unfold Sp.finish
        simp
      obtain ⟨c3, u1, u2, u3, u4, u5⟩ := hR'.cells
      clear u1 u2 u3 u4 u5
      obtain ⟨c0, f0⟩ := cells_one r0
      obtain ⟨c1, f1⟩ := cells_one r1
      obtain ⟨c2, f2⟩ := cells_one r2
      obtain ⟨N, HNN⟩ := hid_ex ts.length
      rw [HNN.out] at c3 hR'
      have HFIN : Hid (∀ W5 : World, W5 = ((w2.setCell ⟨H, 0, none⟩ (.slice p5 N k5)).setCell ⟨H + 1, 0, none⟩ (.int .i64 0)).setCell ⟨H + 2, 0, none⟩ (.int .i64 0) →
          W5.cell? ⟨H, 0, none⟩ = some (.slice p5 N k5) ∧ W5.cell? ⟨H + 1, 0, none⟩ = some (.int .i64 0) ∧ W5.cell? ⟨H + 2, 0, none⟩ = some (.int .i64 0) ∧ W5.heap[H + 8]? = some (.deferred (some [])) ∧ (LayEnd H (.ok ts) (.returned (.tuple #[.slice p5 N k5, .int .i64 0, .int .i64 0])) (W5.putObj (H + 8) (.deferred none)) ∧ Below H w (W5.putObj (H + 8) (.deferred none)))) := by
        intro W5 hW5
        have ho : ∀ k, H + 3 ≤ k → W5.heap[k]? = w2.heap[k]? := by
          intro k hk
          rw [hW5, heap_setCell_other _ _ k _ (by simp; omega), heap_setCell_other _ _ k _ (by simp; omega), heap_setCell_other _ _ k _ (by simp; omega)]
        have hsz5 : W5.heap.size = w2.heap.size := by rw [hW5]; simp
        refine ⟨?_, ?_, ?_, (ho _ (by omega)).trans hd2, ⟨⟨_, rfl, ?_⟩, ?_⟩⟩
        · rw [hW5, World.cell?_setCell_other _ _ _ _ (by simp), World.cell?_setCell_other _ _ _ _ (by simp)]
          exact World.cell?_setCell_same _ _ _ c0
        · rw [hW5, World.cell?_setCell_other _ _ _ _ (by simp)]
          refine World.cell?_setCell_same _ _ _ (u := .int .i64 0) ?_
          rw [World.cell?_setCell_other _ _ _ _ (by simp)]
          exact c1
        · rw [hW5]
          refine World.cell?_setCell_same _ _ _ (u := .int .i64 0) ?_
          rw [World.cell?_setCell_other _ _ _ _ (by simp), World.cell?_setCell_other _ _ _ _ (by simp)]
          exact c2
        · have hr : (W5.putObj (H + 8) (.deferred none)).ownsRow (H + 10) 37 4 (.slice p5 N k5) ts.length (ts.flatMap c4) := own_blocks hR'.out (fun g hg => by
            have := hR'.out.lt g hg
            exact (World.putObj_heap_other (by omega)).trans (ho g (by omega)))
          refine ⟨hr.1, ?_⟩
          rcases hr.2 with hn | ⟨g, cap, cur, hv, hbg, rest⟩
          · exact .inl hn
          · exact .inr ⟨g, cap, cur, hv, by omega, rest⟩
        · refine Below.grown (w := W5) ?_ (grownBy_putObj' W5 _ _) (by omega) (fun j hj => by cases hj; omega)
          rw [hW5]
          exact ((hbw.setCell (p := ⟨H, 0, none⟩) (Nat.le_refl _) _).setCell (p := ⟨H + 1, 0, none⟩) (by simp) _).setCell (p := ⟨H + 2, 0, none⟩) (by simp) _
      clear hR' r0 r1 r2 hd2 hbw hsz HTS HNN HLAY
      gi_wp2_with fail
      refine wpAt_seq (wpAt_of ?_)
      gi_wp2_with fail
      refine wpAt_of ?_
      gi_wp2_with fail
      obtain ⟨d0, d1, d2, d3, d4⟩ := HFIN.out _ rfl
      refine leaves_fine H w _ p5 N k5 _ rfl rfl rfl d0 d1 d2 d3 _ ?_
      rw [hlay.out]
      exact d4
  case hpan =>
    rintro ch W ⟨p, rfl, hlay, hb, hsz, r0, r1, r2⟩ hd
    rw [hz] at hd ⊢
    exact leaves_wrong H w W p _ rfl rfl rfl r0 r1 r2 hsz hb hd _ (fun w' hb' => ⟨by rw [hlay]; rfl, hb'⟩)
end Go.Proofs.YtbdjccmcdifjcaaGreatDoor
