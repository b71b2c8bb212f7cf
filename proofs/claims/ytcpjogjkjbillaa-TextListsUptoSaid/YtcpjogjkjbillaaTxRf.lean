/-
  The pieces of a text between the places of another one as a range over a function, at this program.
-/
import Derived.Test.YtcpjogjkjbillaaTxRe
import Derived.Test.YtcpjogjkjbillaaRangeH
import Derived.Sort.QuietTacIn
set_option linter.unusedVariables false
set_option linter.unusedSimpArgs false
namespace Go.Proofs.Ytcpjogjkjbillaa
open Go.RowKit Go.Shelf
attribute [local go_sem] Oper.semAt_some

theorem pieces_is (s p : ByteArray) (w : World) : Calls Try.prog 38 #[.string s, .string p] w fun e w' =>
    e = .returned (.func (.func 48) #[] #[.pointer (some ⟨w.heap.size, 0, none⟩), .pointer (some ⟨w.heap.size + 1, 0, none⟩)]) ∧
    w' = (w.alloc (.cells #[.string s] 9)).alloc (.cells #[.string p] 9) := by
  have hmf : ∀ (fn : Fn) (first cap : Array Value) (w : World), (Instr.makeFunc fn first cap).run Try.prog w = .ok (.func fn first cap) w := fun _ _ _ _ => rfl
  go_enter Try.func38, Try.ntmps38
  go_wp2
  go_ret
  exact ⟨rfl, rfl⟩
/-- Between two places: what has been told, from where the next piece begins, and the boxes. -/
structure Pin (R : World → Nat → Prop) (J : List Tx.Bs → World → Prop) (s p : ByteArray) (l bY bF bs bp fr : Nat) (told : List Tx.Bs) (A : World) : Prop where
  j : J told A
  cf : A.cell? ⟨bF, 0, none⟩ = some (.int .i64 (fr : Int))
  ff : A.frozen? ⟨bF, 0, none⟩ = false
  cy : A.cell? ⟨bY, 0, none⟩ = some (.func (.yield l) #[] #[])
  cs : A.cell? ⟨bs, 0, none⟩ = some (.string s)
  cp : A.cell? ⟨bp, 0, none⟩ = some (.string p)
  ny : ¬ R A bY
  nf : ¬ R A bF
  ns : ¬ R A bs
  np : ¬ R A bp
theorem Pin.chg {R : World → Nat → Prop} {J : List Tx.Bs → World → Prop} {s p : ByteArray} {l bY bF bs bp fr : Nat} {told told' : List Tx.Bs} {A B : World} (h : Pin R J s p l bY bF bs bp fr told A) (hc : Chg (fun A k => R A k ∨ k = l) A B) (hj : J told' B)
    (h1 : bY < A.heap.size ∧ bY ≠ l) (h2 : bF < A.heap.size ∧ bF ≠ l) (h3 : bs < A.heap.size ∧ bs ≠ l) (h4 : bp < A.heap.size ∧ bp ≠ l) : Pin R J s p l bY bF bs bp fr told' B :=
  have k1 := hc.both bY h1.1 (fun e => e.elim h.ny h1.2)
  have k2 := hc.both bF h2.1 (fun e => e.elim h.nf h2.2)
  have k3 := hc.both bs h3.1 (fun e => e.elim h.ns h3.2)
  have k4 := hc.both bp h4.1 (fun e => e.elim h.np h4.2)
  ⟨hj, (World.cell?_of_block (a := ⟨bF, 0, none⟩) k2.1).trans h.cf, (World.frozen?_of_block (a := ⟨bF, 0, none⟩) k2.1).trans h.ff, (World.cell?_of_block (a := ⟨bY, 0, none⟩) k1.1).trans h.cy, (World.cell?_of_block (a := ⟨bs, 0, none⟩) k3.1).trans h.cs, (World.cell?_of_block (a := ⟨bp, 0, none⟩) k4.1).trans h.cp,
    fun e => k1.2 (Or.inl e), fun e => k2.2 (Or.inl e), fun e => k3.2 (Or.inl e), fun e => k4.2 (Or.inl e)⟩
theorem Pin.put {R : World → Nat → Prop} {J : List Tx.Bs → World → Prop} {s p : ByteArray} {l bY bF bs bp fr fr' C : Nat} {told : List Tx.Bs} {A : World} (h : Pin R J s p l bY bF bs bp fr told A) (hD : Dyn R C) (hC : C ≤ bF) (hj : J told (A.setCell ⟨bF, 0, none⟩ (.int .i64 (fr' : Int)))) (n1 : bY ≠ bF) (n3 : bs ≠ bF) (n4 : bp ≠ bF) :
    Pin R J s p l bY bF bs bp fr' told (A.setCell ⟨bF, 0, none⟩ (.int .i64 (fr' : Int))) :=
  have hb : Below C A (A.setCell ⟨bF, 0, none⟩ (.int .i64 (fr' : Int))) := (Below.refl C A).setCell (p := ⟨bF, 0, none⟩) hC _
  have ho : ∀ b, b ≠ bF → (A.setCell ⟨bF, 0, none⟩ (.int .i64 (fr' : Int))).cell? ⟨b, 0, none⟩ = A.cell? ⟨b, 0, none⟩ := fun b hb => World.cell?_setCell_other _ _ _ _ (by intro e; injection e with e; exact hb e.symm)
  ⟨hj, World.cell?_setCell_same' _ _ _ (by rw [h.cf]; rfl), by rw [World.frozen?_setCell]; exact h.ff, (ho _ n1).trans h.cy, (ho _ n3).trans h.cs, (ho _ n4).trans h.cp,
    fun e => h.ny (hD _ _ hb _ e), fun e => h.nf (hD _ _ hb _ e), fun e => h.ns (hD _ _ hb _ e), fun e => h.np (hD _ _ hb _ e)⟩
/-- A round's call, in a frame of any depth, in a round or not. -/
theorem yield_any {m : Nat} {P : Program} {l : Nat} {args : Array Value} {W : World} {R : Ending → World → Prop} (h : YieldAt Fence.wide m P l args W R) :
    ∃ fn tmps asg bd, (Instr.yield l args).run P W = .ok (.round l fn tmps asg bd) W ∧ (∀ m', RoundIn Fence.wide m' P l fn tmps asg bd W R) ∧ (∀ m' l2, RoundIn (Fence.wide.inRound l2) m' P l fn tmps asg bd W R) := by
  obtain ⟨fn, tmps, assign, body, hy, h1, h2⟩ := h
  exact ⟨fn, tmps, assign, body, hy, fun m' => ⟨h1, fun c cs _ => h2 c cs (fun d e => by cases e)⟩, fun m' l2 => ⟨h1, fun c cs _ => h2 c cs (fun d e => by cases e)⟩⟩
set_option maxHeartbeats 16000000 in
set_option maxRecDepth 20000 in
theorem pieces_gives (n : Nat) (s p : ByteArray) (hs : s.size ≤ 1048576) (hp : p.size ≤ 1048576) (h0 : p.data.toList ≠ []) (bs bp : Nat) (R : World → Nat → Prop) (w : World) (hD : Dyn R w.heap.size) (hbs : bs < w.heap.size) (hbp : bp < w.heap.size) (hns : ¬ R w bs) (hnp : ¬ R w bp)
    (c1 : w.cell? ⟨bs, 0, none⟩ = some (.string s)) (c2 : w.cell? ⟨bp, 0, none⟩ = some (.string p)) :
    GivesR Fence.wide n Try.prog 48 #[.pointer (some ⟨bs, 0, none⟩), .pointer (some ⟨bp, 0, none⟩)] (fun x : Tx.Bs => #[.string ⟨x.toArray⟩]) (fun q => q <+: Tx.pcs p.data.toList [] s.data.toList) (fun q => q = Tx.pcs p.data.toList [] s.data.toList) R w := by
  intro l J Jx W hl hlW hW hnl hr1 hJ hJx hY hJ0
  have hWs := hW.size
  obtain ⟨hpc, hch⟩ := Tx.plcs_pcs (P := p.data.toList) (s := s.data.toList) h0
  obtain ⟨PC, hPC⟩ : ∃ PC, Tx.pcs p.data.toList [] s.data.toList = PC := ⟨_, rfl⟩
  rw [hPC] at hpc hY ⊢
  clear hPC
  have d1 : W.cell? ⟨bs, 0, none⟩ = some (.string s) := (hW.cell (p := ⟨bs, 0, none⟩) hbs).trans c1
  have d2 : W.cell? ⟨bp, 0, none⟩ = some (.string p) := (hW.cell (p := ⟨bp, 0, none⟩) hbp).trans c2
  have hnsW : ¬ R W bs := fun e => hns (hD _ _ hW _ e)
  have hnpW : ¬ R W bp := fun e => hnp (hD _ _ hW _ e)
  obtain ⟨W1, hW1⟩ : ∃ W1, W1 = (W.alloc (.cells #[.func (.yield l) #[] #[]] 69)).alloc (.cells #[.int .i64 0] 2) := ⟨_, rfl⟩
  have hb1 : Below W.heap.size W W1 := by rw [hW1]; exact ((Below.refl _ W).alloc (Nat.le_refl _) _).alloc (by simp) _
  have hs1 : W1.heap.size = W.heap.size + 2 := by rw [hW1]; simp
  have ky : W1.cell? ⟨W.heap.size, 0, none⟩ = some (.func (.yield l) #[] #[]) := by rw [hW1, World.cell?_alloc_past _ _ _ (by simp), World.cell?_alloc_at _ _ _ _ rfl]; rfl
  have kf : W1.cell? ⟨W.heap.size + 1, 0, none⟩ = some (.int .i64 0) := by rw [hW1, World.cell?_alloc_at _ _ _ _ (by simp)]; rfl
  have kff : W1.frozen? ⟨W.heap.size + 1, 0, none⟩ = false := by rw [hW1]; simp [go_sem]
  have HW1 := Lib.hid hW1
  have HPL := Lib.hid (places_is s p W1)
  rw [hW1] at HPL
  have e1 : W1.cell? ⟨bs, 0, none⟩ = some (.string s) := (hb1.cell (p := ⟨bs, 0, none⟩) (by show bs < _; omega)).trans d1
  have e2 : W1.cell? ⟨bp, 0, none⟩ = some (.string p) := (hb1.cell (p := ⟨bp, 0, none⟩) (by show bp < _; omega)).trans d2
  have E1 := Lib.hid e1
  have E2 := Lib.hid e2
  rw [hW1] at e1 e2
  clear c1 c2 hns hnp hW1
  refine callsIn_of_wp_marks Try.func48 rfl trivial ?_ rfl
  simp only [Try.ntmps48, List.size_toArray, List.length_cons, List.length_nil, Nat.reduceAdd, Nat.reduceSub, Array.replicate_succ, Array.replicate_zero, List.push_toArray, List.append_toArray, List.nil_append, List.cons_append]
  gi_wp2_with fail
  refine ⟨trivial, fun h => by simp [Fence.wide] at h, (callsIn_wide.2 HPL.out).mono ?_⟩
  clear HPL e1 e2
  rintro e W2 ⟨rfl, hW2⟩
  rw [← HW1.out] at hW2 ⊢
  obtain ⟨hb2, hs2, c1, c2⟩ := two_boxes s p W1 W2 hW2
  have hb02 : Below W.heap.size W W2 := hb1.trans (hb2.mono hb1.size)
  have hR2 : ∀ k, R W2 k → k < W.heap.size ∧ R W k := fun k e => by
    have h2 := hD _ _ (hb02.mono hWs) _ e
    exact ⟨hr1 _ _ hJ0 (Nat.le_refl _) _ h2, h2⟩
  have HP0 : Hid (Pin R J s p l W.heap.size (W.heap.size + 1) bs bp 0 [] W2) := (show Pin _ _ _ _ _ _ _ _ _ _ _ _ from
    ⟨hJ _ _ _ hJ0 (Stp.all hb02 (Nat.le_refl _)) (Nat.le_refl _), (hb2.cell (p := ⟨W.heap.size + 1, 0, none⟩) (by show W.heap.size + 1 < _; omega)).trans kf, (hb2.frozen (p := ⟨W.heap.size + 1, 0, none⟩) (by show W.heap.size + 1 < _; omega)).trans kff,
      (hb2.cell (p := ⟨W.heap.size, 0, none⟩) (by show W.heap.size < _; omega)).trans ky, (hb2.cell (p := ⟨bs, 0, none⟩) (by show bs < _; omega)).trans E1.out, (hb2.cell (p := ⟨bp, 0, none⟩) (by show bp < _; omega)).trans E2.out,
      fun e => by have := (hR2 _ e).1; omega, fun e => by have := (hR2 _ e).1; omega, fun e => hnsW (hR2 _ e).2, fun e => hnpW (hR2 _ e).2⟩)
  rw [hs1] at c1 c2 hs2
  have hDR : Dyn (fun A k => R A k ∨ k = l ∨ k = W.heap.size + 1) W2.heap.size := (hD.or (fun k => k = l ∨ k = W.heap.size + 1)).mono (by omega)
  have hg := places_gives (n - 1) s p hs hp h0 (W.heap.size + 2 + 1) (W.heap.size + 2) (fun A k => R A k ∨ k = l ∨ k = W.heap.size + 1) W2 hDR (by omega) (by omega) (fun e => by rcases e with e | e | e; (have := (hR2 _ e).1; omega); omega; omega) (fun e => by rcases e with e | e | e; (have := (hR2 _ e).1; omega); omega; omega) c1 c2
  have hc02 : Chg (fun A k => R A k ∨ k = l) W W2 := (Chg.refl _ W).of_below (hD.or _) hb02 (Nat.le_refl _) hWs
  have HC02 := Lib.hid hc02
  obtain ⟨L, hL⟩ : ∃ L, Tx.plcs p.data.toList s.data.toList = L := ⟨_, rfl⟩
  rw [hL] at hg hpc hch
  have HPC := Lib.hid hpc
  have HCH := Lib.hid hch
  have HY := Lib.hid hY
  have HJ := Lib.hid hJ
  have HJx := Lib.hid hJx
  have HR1 := Lib.hid hr1
  clear hb1 ky kf kff E1 E2 c1 c2 hW2 HW1 hb2 hL hpc hch hY hnsW hnpW d1 d2 hR2 hJ0 hb02 hc02
  gi_wp2_with fail
  refine wpIn_rangeFunc_R rfl (depthless9 rfl _) (gf := 49) (lb := #[.pointer (some ⟨W.heap.size + 2 + 1, 0, none⟩), .pointer (some ⟨W.heap.size + 2, 0, none⟩)]) rfl trivial (enters_of Try.func49 (by kernel_rfl) rfl)
    (R := fun A k => R A k ∨ k = l ∨ k = W.heap.size + 1) hDR hg (fun _ => rfl)
    (fun q A => ∃ fr told rest, Hid (L = q ++ rest ∧ PC = told ++ Tx.cuts s.data.toList p.size fr rest ∧ Tx.Chain p.size s.size fr rest) ∧ Hid (Pin R J s p l W.heap.size (W.heap.size + 1) bs bp fr told A))
    (fun c q A => c = .ret ∧ ∃ q, Jx q A)
    (fun q A ⟨fr, told, rest, _, h2⟩ hs k e => by
      rcases e with e | e | e
      · exact HR1.out _ _ h2.out.j (by omega) _ e
      · omega
      · omega)
    (fun q A B ⟨fr, told, rest, h1, h2⟩ hST hs => ⟨fr, told, rest, h1, (show Pin _ _ _ _ _ _ _ _ _ _ _ _ from
      have hB := hST.b
      have h2 := h2.out
      ⟨HJ.out _ _ _ h2.j (hST.less (by omega) (fun _ e => Or.inl e)) (by omega), (hB.cell (p := ⟨W.heap.size + 1, 0, none⟩) (by show W.heap.size + 1 < _; omega)).trans h2.cf, (hB.frozen (p := ⟨W.heap.size + 1, 0, none⟩) (by show W.heap.size + 1 < _; omega)).trans h2.ff,
        (hB.cell (p := ⟨W.heap.size, 0, none⟩) (by show W.heap.size < _; omega)).trans h2.cy, (hB.cell (p := ⟨bs, 0, none⟩) (by show bs < _; omega)).trans h2.cs, (hB.cell (p := ⟨bp, 0, none⟩) (by show bp < _; omega)).trans h2.cp,
        fun e => h2.ny (hD _ _ (hB.mono (by omega)) _ e), fun e => h2.nf (hD _ _ (hB.mono (by omega)) _ e), fun e => h2.ns (hD _ _ (hB.mono (by omega)) _ e), fun e => h2.np (hD _ _ (hB.mono (by omega)) _ e)⟩)⟩)
    (fun c q A B ⟨u0, q2, u2⟩ hB hs => ⟨u0, q2, HJx.out _ _ _ u2 (hB.mono (by omega)) (by omega)⟩)
    ⟨0, [], L, (show _ ∧ _ ∧ _ from ⟨rfl, by rw [List.nil_append, ← size_list]; exact HPC.out, by rw [← size_list, ← size_list]; exact HCH.out⟩), HP0⟩
    (fun x => { tmps := #[.func (.yield l) #[] #[], .pointer (some ⟨bs, 0, none⟩), .pointer (some ⟨bp, 0, none⟩), .pointer (some ⟨W.heap.size, 0, none⟩), .pointer (some ⟨W.heap.size + 1, 0, none⟩), .int .i64 (x : Int), .string s, .string p, .func (.func 49) #[] #[.pointer (some ⟨W.heap.size + 2 + 1, 0, none⟩), .pointer (some ⟨W.heap.size + 2, 0, none⟩)], .int .i64 (x : Int), undef, undef, undef, undef, undef, undef, undef, undef, undef, undef, undef, undef, undef, undef, undef, undef, undef, undef], defers := [] })
    ?assign ?body ?done ?stop
  case assign =>
    intro l x W' K hK
    gi_wp2
    exact hK
  case body =>
    rintro l2 q x A ⟨fr, told, rest, h1, h2⟩ hS hsz
    have hAs : W.heap.size + 2 < A.heap.size := by omega
    obtain ⟨rest', rfl⟩ : ∃ rest', rest = x :: rest' := by
      obtain ⟨z, hz⟩ := hS
      have h3 := h1.out.1
      rw [← hz, List.append_assoc] at h3
      have h4 := List.append_cancel_left h3
      exact ⟨z, h4.symm⟩
    obtain ⟨h3, h4, h5⟩ := h1.out
    obtain ⟨hfx, hxs, hch2⟩ := h5
    rw [Tx.cuts] at h4
    obtain ⟨pc, hpc⟩ : ∃ pc, (s.data.toList.drop fr).take (x - fr) = pc := ⟨_, rfl⟩
    rw [hpc] at h4
    have hpre : told ++ [pc] <+: PC := ⟨_, by rw [h4, List.append_assoc]; rfl⟩
    obtain ⟨y, hy⟩ : ∃ y, x + p.size = y := ⟨_, rfl⟩
    have hwy : IntKind.i64.wrap ((x : Int) + (p.size : Int)) = (y : Int) := by rw [IntWalk.i64_in _ (by omega)]; omega
    have hq : bs < A.heap.size ∧ bs ≠ l := by omega
    have hq2 : bp < A.heap.size ∧ bp ≠ l := by omega
    have hP := h2.out
    have HPT : Hid (∀ W, Calls Try.prog 34 #[.string s, .int .i64 (fr : Int), .int .i64 (x : Int)] W fun e' w' => e' = .returned (.string ⟨pc.toArray⟩) ∧ Below W.heap.size W w') := (show ∀ _, _ from fun W => part_is hpc (by omega) hfx (by omega) W)
    obtain ⟨T, hT⟩ : ∃ T : Bool → World → Prop, T = fun b B => Hid (Chg (fun A k => R A k ∨ k = l) A B ∧ ((b = true ∧ J (told ++ [pc]) B) ∨ (b = false ∧ Jx (told ++ [pc]) B))) := ⟨_, rfl⟩
    have HTT : Hid (∀ wP, Below A.heap.size A wP → ∃ fn tmps asg bd, (Instr.yield l #[.string ⟨pc.toArray⟩]).run Try.prog wP = .ok (.round l fn tmps asg bd) wP ∧ Hid (∀ m', RoundIn (Fence.wide.inRound l2) m' Try.prog l fn tmps asg bd wP fun e B => ∃ b, e = .returned (.bool b) ∧ T b B)) :=
      (show ∀ _, _ from fun wP hb => by
        have hjP : J told wP := HJ.out _ _ _ hP.j (Stp.all (hb.mono (by omega)) (by omega)) (by omega)
        obtain ⟨fn, tmps, asg, bd, h6, _, h7⟩ := yield_any (HY.out told pc wP hjP (by have := hb.size; omega) hpre)
        refine ⟨fn, tmps, asg, bd, h6, (show ∀ _, _ from fun m' => (h7 m' l2).mono ?_)⟩
        rintro e B ⟨hc, hor⟩
        have hcA : Chg (fun A k => R A k ∨ k = l) A B := ((Chg.refl (fun A k => R A k ∨ k = l) A).of_below (hD.or _) hb (Nat.le_refl _) (by omega)).trans hc
        rw [hT]
        rcases hor with ⟨rfl, hj⟩ | ⟨rfl, hj⟩
        · exact ⟨true, rfl, hcA, Or.inl ⟨rfl, hj⟩⟩
        · exact ⟨false, rfl, hcA, Or.inr ⟨rfl, hj⟩⟩)
    have HTD := Lib.hid hT
    have HZ : Hid (∀ B, Chg (fun A k => R A k ∨ k = l) A B → B.cell? ⟨bp, 0, none⟩ = some (.string p) ∧ B.cell? ⟨W.heap.size + 1, 0, none⟩ = some (.int .i64 (fr : Int)) ∧ B.frozen? ⟨W.heap.size + 1, 0, none⟩ = false) := (show ∀ _, _ from fun B hc =>
      have k2 := hc.both (W.heap.size + 1) (by omega) (fun e => e.elim hP.nf (by omega))
      have k4 := hc.both bp hq2.1 (fun e => e.elim hP.np hq2.2)
      ⟨(World.cell?_of_block (a := ⟨bp, 0, none⟩) k4.1).trans hP.cp, (World.cell?_of_block (a := ⟨W.heap.size + 1, 0, none⟩) k2.1).trans hP.cf, (World.frozen?_of_block (a := ⟨W.heap.size + 1, 0, none⟩) k2.1).trans hP.ff⟩)
    have HFA : Hid (∀ B, Chg (fun A k => R A k ∨ k = l) A B → J (told ++ [pc]) B → Chg (fun A k => R A k ∨ k = l ∨ k = W.heap.size + 1) A (B.setCell ⟨W.heap.size + 1, 0, none⟩ (.int .i64 (y : Int))) ∧
        ∃ fr told rest, Hid (L = (q ++ [x]) ++ rest ∧ PC = told ++ Tx.cuts s.data.toList p.size fr rest ∧ Tx.Chain p.size s.size fr rest) ∧ Hid (Pin R J s p l W.heap.size (W.heap.size + 1) bs bp fr told (B.setCell ⟨W.heap.size + 1, 0, none⟩ (.int .i64 (y : Int))))) := (show ∀ _, _ from fun B hc hj => by
      have hBs := hc.size
      refine ⟨Chg.setCell (R := fun A k => R A k ∨ k = l ∨ k = W.heap.size + 1) (hc.more (fun k _ e => Or.inl e)) (B0 := w.heap.size) (hD.or _) (p := ⟨W.heap.size + 1, 0, none⟩) (by show w.heap.size ≤ W.heap.size + 1; omega) (by omega) (fun _ => Or.inr (Or.inr rfl)) _, y, told ++ [pc], rest', (show _ ∧ _ ∧ _ from ⟨by rw [h3, List.append_assoc]; rfl, by rw [h4, List.append_assoc, hy]; rfl, by rw [← hy]; exact hch2⟩), (show Pin _ _ _ _ _ _ _ _ _ _ _ _ from ?_)⟩
      have hPB := hP.chg hc hj (by omega) (by omega) hq hq2
      exact hPB.put (C := W.heap.size) (hD.mono hWs) (by omega) (HJ.out _ _ _ hj (Stp.setCell (p := ⟨W.heap.size + 1, 0, none⟩) (by show W.heap.size ≤ W.heap.size + 1; omega) hPB.nf _) (by omega)) (by omega) (by omega) (by omega))
    have HFB : Hid (∀ B, Chg (fun A k => R A k ∨ k = l) A B → Chg (fun A k => R A k ∨ k = l ∨ k = W.heap.size + 1) A B) := (show ∀ _, _ from fun B hc => hc.more (fun k _ e => Or.inl e))
    have cf := hP.cf
    have cy := hP.cy
    have cs := hP.cs
    have hyb : W.heap.size < A.heap.size := by omega
    have hsb : bs < A.heap.size := hq.1
    have hfb : W.heap.size + 1 < A.heap.size := by omega
    clear hT hg hS hsz h1 h2 h3 h4 hfx hxs hch2 hpc hpre hy hP HY HJ HJx HPC HCH HR1 HP0 hDR HC02 hq hq2 hr1 hJ hJx hnl
    gi_wp2_with fail
    refine wpIn_mono (Q := fun e a B => e = .normal ∧ ∃ b, a = { tmps := #[.func (.yield l) #[] #[], .pointer (some ⟨bs, 0, none⟩), .pointer (some ⟨bp, 0, none⟩), .pointer (some ⟨W.heap.size, 0, none⟩), .pointer (some ⟨W.heap.size + 1, 0, none⟩), .int .i64 (x : Int), .string s, .string p, .func (.func 49) #[] #[.pointer (some ⟨W.heap.size + 2 + 1, 0, none⟩), .pointer (some ⟨W.heap.size + 2, 0, none⟩)], .int .i64 (x : Int), .func (.yield l) #[] #[], .string s, .int .i64 (fr : Int), .int .i64 (x : Int), .string ⟨pc.toArray⟩, .bool b, .bool !b, undef, undef, undef, undef, undef, undef, undef, undef, undef, undef, undef], defers := [] } ∧ T b B) ?reg ?rest
    case reg =>
      rename_i q1 k1 a1 q2 k2 a2 k3 a3
      clear a3 k3 a2 k2 q2 a1 k1 q1 HTD HFA HFB HZ hwy hAs hs2 hs1 hWs hW hlW hl hbs hbp hD hs hp h0
      refine wpIn_region_head 5 2 rfl #[true, true, true, true, true, false, false] (by kernel_rfl) (by kernel_rfl) (by kernel_rfl) (by kernel_rfl) (by kernel_rfl) (fun w' => Below A.heap.size A w') (Below.refl A.heap.size A).drew ?_
      simp only [List.take]
      refine wpQuietIn_step (fun _ _ _ _ => trivial) (fun K hK => ?_)
      rw [if_pos (by rfl)]
      refine ⟨.func (.yield l) #[] #[], fun w' hw' => ?_, hK _ ?_⟩
      · have c := (hw'.cell (p := ⟨W.heap.size, 0, none⟩) hyb).trans cy
        unfold Oper.quietAtIn
        go_simp
      clear hK K
      refine wpQuietIn_step (fun _ _ _ _ => trivial) (fun K hK => ?_)
      rw [if_pos (by rfl)]
      refine ⟨.string s, fun w' hw' => ?_, hK _ ?_⟩
      · have c := (hw'.cell (p := ⟨bs, 0, none⟩) hsb).trans cs
        unfold Oper.quietAtIn
        go_simp
      clear hK K
      refine wpQuietIn_step (fun _ _ _ _ => trivial) (fun K hK => ?_)
      rw [if_pos (by rfl)]
      refine ⟨.int .i64 (fr : Int), fun w' hw' => ?_, hK _ ?_⟩
      · have c := (hw'.cell (p := ⟨W.heap.size + 1, 0, none⟩) hfb).trans cf
        unfold Oper.quietAtIn
        go_simp
      clear hK K
      refine wpQuietIn_step (fun _ _ _ _ => trivial) (fun K hK => ?_)
      rw [if_pos (by rfl)]
      refine ⟨.int .i64 (x : Int), fun w' hw' => ?_, hK _ ?_⟩
      · skip
        unfold Oper.quietAtIn
        go_simp
      clear hK K
      refine wpQuietIn_step (fun _ _ _ _ => trivial) (fun K hK => ?_)
      rw [if_pos (by rfl)]
      refine ⟨.string ⟨pc.toArray⟩, fun w' hw' => ?_, hK _ ?_⟩
      · unfold Oper.quietAtIn
        go_simp
        exact ⟨fun h => by simp [Fence.wide] at h, (CallsIn.inRound l2 (callsIn_wide.2 (HPT.out w'))).mono fun e w'' h => ⟨h.1, hw'.trans (h.2.mono hw'.size)⟩⟩
      clear hK K
      refine wpQuietIn_nil ?_
      intro wP hbP
      have yP := (hbP.cell (p := ⟨W.heap.size, 0, none⟩) hyb).trans cy
      obtain ⟨fn, tmps, asg, bd, hrun, HRR⟩ := HTT.out wP hbP
      refine wpAnyIn_ready (rs := [5]) (by kernel_rfl) (by simp) ?_
      refine AllReadyIn.cons rfl (fun K hK => ?_) AllReadyIn.nil
      go_simp
      refine ⟨fun h => by simp [Fence.wide] at h, (HRR.out _).mono ?_⟩
      rintro e B ⟨b, rfl, HB⟩
      refine hK _ _ ?_
      clear hK K
      refine wpAnyIn_ready (rs := [6]) (by kernel_rfl) (by simp) ?_
      refine AllReadyIn.cons rfl (fun K hK => ?_) AllReadyIn.nil
      go_simp
      refine hK _ _ ?_
      clear hK K
      refine wpAnyIn_done (by kernel_rfl) ?_ _
      exact ⟨rfl, b, rfl, HB⟩
    case rest =>
      rintro e a B ⟨rfl, b, rfl, HB⟩
      rw [HTD.out] at HB
      have hcB := HB.out.1
      obtain ⟨z1, z2, z3⟩ := HZ.out B hcB
      cases b with
      | true =>
        have hj : J (told ++ [pc]) B := HB.out.2.elim (fun h => h.2) (fun h => by cases h.1)
        have HG := Lib.hid (HFA.out B hcB hj)
        clear HB HFA HFB HTT HPT HTD HZ cf cy cs hj hcB
        gi_wp2_with fail
        exact HG.out
      | false =>
        have hj : Jx (told ++ [pc]) B := HB.out.2.elim (fun h => by cases h.1) (fun h => h.2)
        have HG := Lib.hid (HFB.out B hcB)
        clear HB HFA HFB HTT HPT HTD HZ cf cy cs hcB
        gi_wp2_with fail
        exact ⟨HG.out, rfl, _, hj⟩
  case done =>
    rintro q A rfl ⟨fr, told, rest, h1, h2⟩ hcA hK hnD
    have hAs : W.heap.size + 4 < A.heap.size := by have := (Array.getElem?_eq_some_iff.1 hK).1; omega
    obtain ⟨h3, h4, h5⟩ := h1.out
    obtain rfl : rest = [] := by
      have := congrArg List.length h3
      rw [List.length_append] at this
      exact List.length_eq_zero_iff.1 (by omega)
    have hfl : fr ≤ s.size := h5
    rw [Tx.cuts] at h4
    obtain ⟨pc, hpc⟩ : ∃ pc, s.data.toList.drop fr = pc := ⟨_, rfl⟩
    rw [hpc] at h4
    have hpre : told ++ [pc] <+: PC := by rw [h4]; exact List.prefix_rfl
    have hq : bs < A.heap.size ∧ bs ≠ l := by omega
    have hP := h2.out
    have HPT : Hid (∀ W, Calls Try.prog 34 #[.string s, .int .i64 (fr : Int), .int .i64 (s.size : Int)] W fun e' w' => e' = .returned (.string ⟨pc.toArray⟩) ∧ Below W.heap.size W w') := (show ∀ _, _ from fun W => part_is (show _ = _ by rw [List.take_of_length_le (by rw [List.length_drop, size_list]; exact Nat.le_refl _)]; exact hpc) (by omega) hfl (Nat.le_refl _) W)
    obtain ⟨T, hT⟩ : ∃ T : Bool → World → Prop, T = fun b B => Hid (Chg (fun A k => R A k ∨ k = l) A B ∧ ((b = true ∧ J (told ++ [pc]) B) ∨ (b = false ∧ Jx (told ++ [pc]) B))) := ⟨_, rfl⟩
    have HTT : Hid (∀ wP, Below A.heap.size A wP → ∃ fn tmps asg bd, (Instr.yield l #[.string ⟨pc.toArray⟩]).run Try.prog wP = .ok (.round l fn tmps asg bd) wP ∧ Hid (∀ m', RoundIn Fence.wide m' Try.prog l fn tmps asg bd wP fun e B => ∃ b, e = .returned (.bool b) ∧ T b B)) :=
      (show ∀ _, _ from fun wP hb => by
        have hjP : J told wP := HJ.out _ _ _ hP.j (Stp.all (hb.mono (by omega)) (by omega)) (by omega)
        obtain ⟨fn, tmps, asg, bd, h6, h7, _⟩ := yield_any (HY.out told pc wP hjP (by have := hb.size; omega) hpre)
        refine ⟨fn, tmps, asg, bd, h6, (show ∀ _, _ from fun m' => (h7 m').mono ?_)⟩
        rintro e B ⟨hc, hor⟩
        have hcA : Chg (fun A k => R A k ∨ k = l) A B := ((Chg.refl (fun A k => R A k ∨ k = l) A).of_below (hD.or _) hb (Nat.le_refl _) (by omega)).trans hc
        rw [hT]
        rcases hor with ⟨rfl, hj⟩ | ⟨rfl, hj⟩
        · exact ⟨true, rfl, hcA, Or.inl ⟨rfl, hj⟩⟩
        · exact ⟨false, rfl, hcA, Or.inr ⟨rfl, hj⟩⟩)
    have HTD := Lib.hid hT
    have hcW : Chg (fun A k => R A k ∨ k = l) W A := HC02.out.then (p := fun k => k = l) (q := fun k => k = l ∨ k = W.heap.size + 1) hcA (fun k hk e => by rcases e with e | e; exact e; omega)
    have HEND : Hid (∀ b B, T b B → B.heap[W2.heap.size]? = some (.deferred (some [])) ∧ Chg (fun A k => R A k ∨ k = l) W (B.putObj W2.heap.size (.deferred none)) ∧ ((∃ xs, xs = PC ∧ J xs (B.putObj W2.heap.size (.deferred none))) ∨ ∃ pre, Jx pre (B.putObj W2.heap.size (.deferred none)))) := (show ∀ _ _, _ from fun b B hTB => by
      rw [hT] at hTB
      obtain ⟨hc, hor⟩ := Hid.out hTB
      have hBs := hc.size
      have h8 := hc.both W2.heap.size (by omega) (fun e => e.elim (fun e => hnD (Or.inl e)) (fun e => hnD (Or.inr (Or.inl e))))
      refine ⟨h8.1.trans hK, (hcW.trans hc).putObj (B0 := w.heap.size) (hD.or _) (by omega) (by omega) (fun h => by omega) _, ?_⟩
      rcases hor with ⟨_, hj⟩ | ⟨_, hj⟩
      · exact Or.inl ⟨_, h4.symm, HJ.out _ _ _ hj (Stp.putObj (by omega) (fun e => h8.2 (Or.inl e)) _) (by omega)⟩
      · exact Or.inr ⟨_, HJx.out _ _ _ hj (below_putObj _ (by omega) _) (by omega)⟩)
    have cf := hP.cf
    have cy := hP.cy
    have cs := hP.cs
    have hyb : W.heap.size < A.heap.size := by omega
    have hsb : bs < A.heap.size := hq.1
    have hfb : W.heap.size + 1 < A.heap.size := by omega
    clear hT hg h1 h2 h3 h4 h5 hfl hpc hpre hP HY HJ HJx HPC HCH HR1 HP0 hDR HC02 hq hr1 hJ hJx hnl hcA hK hnD hcW
    gi_wp2_with fail
    refine wpIn_mono (Q := fun e a B => e = .normal ∧ ∃ b, a = { tmps := #[.func (.yield l) #[] #[], .pointer (some ⟨bs, 0, none⟩), .pointer (some ⟨bp, 0, none⟩), .pointer (some ⟨W.heap.size, 0, none⟩), .pointer (some ⟨W.heap.size + 1, 0, none⟩), undef, .string s, .string p, .func (.func 49) #[] #[.pointer (some ⟨W.heap.size + 2 + 1, 0, none⟩), .pointer (some ⟨W.heap.size + 2, 0, none⟩)], undef, undef, undef, undef, undef, undef, undef, undef, undef, undef, undef, undef, .func (.yield l) #[] #[], .string s, .int .i64 (fr : Int), .string s, .int .i64 (s.size : Int), .string ⟨pc.toArray⟩, .bool b], defers := [{ target := .collected W2.heap.size, args := #[] }] } ∧ T b B) ?reg ?rest
    case reg =>
      rename_i q1
      clear q1 HTD HEND hAs hs2 hs1 hWs hW hlW hl hbs hbp hD hs hp h0
      refine wpIn_region_head 6 1 rfl #[true, true, true, true, true, true, false] (by kernel_rfl) (by kernel_rfl) (by kernel_rfl) (by kernel_rfl) (by kernel_rfl) (fun w' => Below A.heap.size A w') (Below.refl A.heap.size A).drew ?_
      simp only [List.take]
      refine wpQuietIn_step (fun _ _ _ _ => trivial) (fun K hK => ?_)
      rw [if_pos (by rfl)]
      refine ⟨.func (.yield l) #[] #[], fun w' hw' => ?_, hK _ ?_⟩
      · have c := (hw'.cell (p := ⟨W.heap.size, 0, none⟩) hyb).trans cy
        unfold Oper.quietAtIn
        go_simp
      clear hK K
      refine wpQuietIn_step (fun _ _ _ _ => trivial) (fun K hK => ?_)
      rw [if_pos (by rfl)]
      refine ⟨.string s, fun w' hw' => ?_, hK _ ?_⟩
      · have c := (hw'.cell (p := ⟨bs, 0, none⟩) hsb).trans cs
        unfold Oper.quietAtIn
        go_simp
      clear hK K
      refine wpQuietIn_step (fun _ _ _ _ => trivial) (fun K hK => ?_)
      rw [if_pos (by rfl)]
      refine ⟨.int .i64 (fr : Int), fun w' hw' => ?_, hK _ ?_⟩
      · have c := (hw'.cell (p := ⟨W.heap.size + 1, 0, none⟩) hfb).trans cf
        unfold Oper.quietAtIn
        go_simp
      clear hK K
      refine wpQuietIn_step (fun _ _ _ _ => trivial) (fun K hK => ?_)
      rw [if_pos (by rfl)]
      refine ⟨.string s, fun w' hw' => ?_, hK _ ?_⟩
      · have c := (hw'.cell (p := ⟨bs, 0, none⟩) hsb).trans cs
        unfold Oper.quietAtIn
        go_simp
      clear hK K
      refine wpQuietIn_step (fun _ _ _ _ => trivial) (fun K hK => ?_)
      rw [if_pos (by rfl)]
      refine ⟨.int .i64 (s.size : Int), fun w' hw' => ?_, hK _ ?_⟩
      · skip
        unfold Oper.quietAtIn
        go_simp
      clear hK K
      refine wpQuietIn_step (fun _ _ _ _ => trivial) (fun K hK => ?_)
      rw [if_pos (by rfl)]
      refine ⟨.string ⟨pc.toArray⟩, fun w' hw' => ?_, hK _ ?_⟩
      · unfold Oper.quietAtIn
        go_simp
        exact ⟨fun h => by simp [Fence.wide] at h, (callsIn_wide.2 (HPT.out w')).mono fun e w'' h => ⟨h.1, hw'.trans (h.2.mono hw'.size)⟩⟩
      clear hK K
      refine wpQuietIn_nil ?_
      intro wP hbP
      have yP := (hbP.cell (p := ⟨W.heap.size, 0, none⟩) hyb).trans cy
      obtain ⟨fn, tmps, asg, bd, hrun, HRR⟩ := HTT.out wP hbP
      refine wpAnyIn_ready (rs := [6]) (by kernel_rfl) (by simp) ?_
      refine AllReadyIn.cons rfl (fun K hK => ?_) AllReadyIn.nil
      go_simp
      refine ⟨fun h => by simp [Fence.wide] at h, (HRR.out _).mono ?_⟩
      rintro e B ⟨b, rfl, HB⟩
      refine hK _ _ ?_
      clear hK K
      refine wpAnyIn_done (by kernel_rfl) ?_ _
      exact ⟨rfl, b, rfl, HB⟩
    case rest =>
      rintro e a B ⟨rfl, b, rfl, HB⟩
      obtain ⟨z1, z2, z3⟩ := HEND.out b B HB
      have Z2 := Lib.hid z2
      have Z3 := Lib.hid z3
      clear HB HEND HTT HPT HTD cf cy cs z2 z3
      gi_wp2_with fail
      refine ⟨by simp, .inl ⟨_, _, rfl, run_takeDeferred z1, ?_⟩⟩
      exact ⟨_, results_none rfl _ _ _, ⟨_, rfl⟩, Z2.out, Z3.out⟩
  case stop =>
    rintro c q2 A ⟨rfl, q3, u2⟩ hcA hK
    have hcW : Chg (fun A k => R A k ∨ k = l) W A := HC02.out.then (p := fun k => k = l) (q := fun k => k = l ∨ k = W.heap.size + 1) hcA (fun k hk e => by rcases e with e | e; exact e; omega)
    have hAs := (Array.getElem?_eq_some_iff.1 hK).1
    have Z2 := Lib.hid (hcW.putObj (B0 := w.heap.size) (hD.or _) (l := W2.heap.size) (by omega) (by omega) (fun h => by omega) (.deferred none))
    have Z3 := Lib.hid (HJx.out _ _ _ u2 (below_putObj (B := W.heap.size) (l := W2.heap.size) A (by omega) (.deferred none)) (by omega))
    clear hg HY HJ HJx HPC HCH HR1 HP0 hDR HC02 hr1 hJ hJx hnl hcA hcW
    gi_wp2_with fail
    refine ⟨by simp, .inl ⟨_, _, rfl, run_takeDeferred hK, ?_⟩⟩
    exact ⟨_, results_none rfl _ _ _, ⟨_, rfl⟩, Z2.out, Or.inr ⟨_, Z3.out⟩⟩
end Go.Proofs.Ytcpjogjkjbillaa
