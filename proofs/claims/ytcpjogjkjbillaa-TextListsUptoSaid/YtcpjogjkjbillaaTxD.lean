/-
  Rows of bytes of the call's own; the reference's Repeat, at this program.
-/
import Derived.Test.YtcpjogjkjbillaaTxC
import Derived.Lib.AppendStr
import Derived.Laws.IdiomStrings
set_option linter.unusedVariables false
set_option linter.unusedSimpArgs false
namespace Go.Proofs.Ytcpjogjkjbillaa
open Go.RowKit

theorem infoByte : (Try.prog.info? 5).map (fun i => (i.zero, i.size, i.bytes)) = some (some (.int .u8 0), 1, 1) := by kernel_rfl
theorem info_three {t : TypeId} {z : Option Value} {a b : Nat} (h : (Try.prog.info? t).map (fun i => (i.zero, i.size, i.bytes)) = some (z, a, b)) : ∃ i, Try.prog.info? t = some i ∧ i.zero = z ∧ i.size = a ∧ i.bytes = b := by
  cases e : Try.prog.info? t with
  | none => rw [e] at h; cases h
  | some i =>
    rw [e] at h
    simp only [Option.map_some, Option.some.injEq, Prod.mk.injEq] at h
    exact ⟨i, rfl, h.1, h.2.1, h.2.2⟩
abbrev bcells (l : Tx.Bs) : List Value := l.map fun c => Value.int .u8 c.toNat
/-- A row of bytes of the call's own that is there. -/
structure BRow (base : Nat) (v : Value) (l : Tx.Bs) (w : World) : Prop where
  own : w.ownsRow base 5 1 v l.length (bcells l)
  nn : v ≠ .slice none 0 0
theorem BRow.form {base : Nat} {v : Value} {l : Tx.Bs} {w : World} (h : BRow base v l w) : ∃ g cap, v = .slice (some ⟨g, 0, none⟩) l.length cap ∧ base ≤ g ∧ g < w.heap.size ∧ ∀ j (hj : j < l.length), w.cell? ((⟨g, 0, none⟩ : Addr).add j) = some (.int .u8 (l[j].toNat : Int)) := by
  have hc := fun g hg j u hj => World.ownsRow.cells h.own (g := g) hg j u hj
  rcases h.own.2 with ⟨e, hn⟩ | ⟨g, cap, cur, rfl, hbg, hg, hcap, _⟩
  · exact absurd e h.nn
  · refine ⟨g, cap, rfl, hbg, (Array.getElem?_eq_some_iff.1 hg).1, fun j hj => hc g rfl j _ ?_⟩
    rw [List.getElem?_map, List.getElem?_eq_getElem hj]
    rfl
theorem BRow.start (W : World) (base : Nat) (hb : base ≤ W.heap.size) : BRow base (.slice (some ⟨W.heap.size, 0, none⟩) 0 0) [] (W.alloc (.cells #[] 5)) :=
  ⟨World.ownsRow_lit W #[] 0 hb (Nat.zero_le _) rfl, by simp⟩
theorem BRow.conv {base : Nat} {v : Value} {l : Tx.Bs} {w : World} (h : BRow base v l w) : (convert 45 9 v).run Try.prog w = .ok (.string ⟨l.toArray⟩) w := by
  obtain ⟨g, cap, rfl, _, _, hc⟩ := h.form
  exact run_convert_bytes_back (P := Try.prog) w 45 9 5 ⟨g, 0, none⟩ cap l Try.underlying45 Try.underlying5 Try.underlying9 hc
/-- A text is appended to a row of the call's own. -/
theorem wpList_sapp {ops : Array Oper} {rest : List Oper} {o : Oper} {a : Act} {Q' : Exit → Act → World → Prop} (hgd : o.guard = none) (sl x : Operand)
    (ho : o.op = .call { callee := .builtin .append, args := #[sl, x], argTypes := #[45, 9] }) (base : Nat) (v : Value) (l : Tx.Bs) (W w : World) (hr : BRow base v l w) (hb : Below base W w) (hbase : base = W.heap.size) (s : ByteArray)
    (hs : a.eval sl = v) (hx : a.eval x = .string s) (hlen : l.length + s.size ≤ 4000000)
    (h : ∀ v' w', Hid (BRow base v' (l ++ s.data.toList) w') → Hid (Below base W w') → wpList Try.prog ops Q' rest (a.put o.dst v') w') :
    wpList Try.prog ops Q' (o :: rest) a w := by
  obtain ⟨i0, hi, hz0, hz1, hz2⟩ := info_three infoByte
  obtain ⟨g, cap, rfl, hg1, hg2, _⟩ := hr.form
  refine Lib.wpList_append_own_string (P := Try.prog) w hgd sl x 45 9 ho base 5 i0 Try.underlying45 Try.underlying9 hi hz0 hz1 hz2 _ l.length (bcells l) hs hr.own s hx (by unfold maxLen; omega) (by omega) (by have := hb.size; omega) ?_
  intro v' w' hown hgrow hnil
  refine h v' w' (show BRow _ _ _ _ from ⟨?_, fun e => by have := (hnil.1 e).1; cases this⟩) (show Below _ _ _ from ⟨hgrow.os.trans hb.os, hgrow.tape.trans hb.tape, hgrow.output.trans hb.output, Nat.le_trans hb.size hgrow.size, fun k hk => (hgrow.block k (by omega) (fun e => by simp [Value.ownBlock] at e; omega)).trans (hb.block k hk)⟩)
  have e : bcells (l ++ s.data.toList) = bcells l ++ Lib.strCells s := by rw [bcells, List.map_append]; rfl
  rw [e, List.length_append, size_list]
  exact hown
set_option maxHeartbeats 8000000 in
set_option maxRecDepth 20000 in
theorem rRepeat_is {s : ByteArray} {n : Int} {r e : Tx.Bs} (h : Hid (Tx.rep s.data.toList n = (r, e))) (hs : s.size ≤ 140737488351232) (hn : -9223372036854775808 ≤ n ∧ n ≤ 9223372036854775807) (w : World) :
    Calls Try.prog 16 #[.string s, .int .i64 n] w fun e' w' => e' = .returned (.tuple #[.string ⟨r.toArray⟩, .string ⟨e.toArray⟩]) ∧ Below w.heap.size w w' := by
  by_cases h0 : n < 1 ∨ s.size = 0
  · have hr : r = [] ∧ e = [] := by
      have := h.out
      unfold Tx.rep at this
      rw [if_pos (by rcases h0 with g | g; exact Or.inl g; exact Or.inr (List.length_eq_zero_iff.1 (by rw [size_list]; exact g)))] at this
      injection this with h1 h2
      exact ⟨h1.symm, h2.symm⟩
    obtain ⟨rfl, rfl⟩ := hr
    clear h
    have hc : n < 1 ∨ ¬ n < 1 ∧ ((s.size : Int) == 0) = true := by
      by_cases g : n < 1
      · exact Or.inl g
      · exact Or.inr ⟨g, beq_iff_eq.2 (by omega)⟩
    clear h0
    rcases hc with g | ⟨g, g2⟩
    all_goals
      go_enter Try.func16, Try.ntmps16
      go_wp2_with fail
      refine bodyPost_ret (results_tmp2 rfl _ _ _) rfl ?_
      exact ⟨rfl, Below.refl _ _⟩
  · have hn1 : ¬ n < 1 := fun g => h0 (Or.inl g)
    have hs1 : 0 < s.size := Nat.pos_of_ne_zero fun g => h0 (Or.inr g)
    have hz : ((s.size : Int) == 0) = false := beq_eq_false_iff_ne.2 (by omega)
    have hne : ¬ (n < 1 ∨ s.data.toList = []) := fun g => h0 (by rcases g with g | g; exact Or.inl g; exact Or.inr (by rw [← size_list, g]; rfl))
    obtain ⟨m, rfl⟩ : ∃ m : Nat, n = (m : Int) := ⟨n.toNat, by omega⟩
    have hq : (65536 : Int).tdiv (s.size : Int) = ((65536 / s.size : Nat) : Int) := rfl
    obtain ⟨Q, hQ⟩ : ∃ Q, Q = 65536 / s.size := ⟨_, rfl⟩
    have hQ2 : Q ≤ 65536 := by rw [hQ]; exact Nat.div_le_self _ _
    have hmul : m ≤ Q ↔ m * s.size ≤ 65536 := by rw [hQ]; exact Nat.le_div_iff_mul_le hs1
    rw [← hQ] at hq
    obtain ⟨P, hP⟩ : ∃ P, P = m * s.size := ⟨_, rfl⟩
    have hPc : (m : Int) * (s.data.toList.length : Int) = (P : Int) := by rw [size_list, hP, Int.natCast_mul]
    rw [← hP] at hmul
    have hwq : IntKind.i64.wrap (Q : Int) = (Q : Int) := IntWalk.i64_in _ (by omega)
    by_cases hbig : Q < m
    · have hr : r = [] ∧ e = Tx.tMem := by
        have := h.out
        unfold Tx.rep at this
        rw [if_neg hne, if_pos (by rw [hPc]; omega)] at this
        injection this with h1 h2
        exact ⟨h1.symm, h2.symm⟩
      obtain ⟨rfl, rfl⟩ := hr
      have g1 : (Q : Int) < (m : Int) := by omega
      clear h h0 hne hmul hQ hbig hP hPc
      go_enter Try.func16, Try.ntmps16
      go_wp2_with fail
      refine bodyPost_ret (results_tmp2 rfl _ _ _) rfl ?_
      exact ⟨rfl, Below.refl _ _⟩
    · have hfit : P ≤ 65536 := hmul.1 (by omega)
      have hr : r = Tx.times s.data.toList m ∧ e = [] := by
        have := h.out
        unfold Tx.rep at this
        rw [if_neg hne, if_neg (by rw [hPc]; omega)] at this
        injection this with h1 h2
        exact ⟨h1.symm, h2.symm⟩
      obtain ⟨rfl, rfl⟩ := hr
      have g1 : ¬ (Q : Int) < (m : Int) := by omega
      have HF : Hid (m * s.size ≤ 65536) := (show _ ≤ _ from by rw [← hP]; exact hfit)
      clear h h0 hne hmul hQ hbig hfit hP hPc
      go_enter Try.func16, Try.ntmps16
      go_wp2_with fail
      go_loopw [6, 7] (fun v6 v7 wr => ∃ k : Nat, v7 = .int .i64 (k : Int) ∧ k ≤ m ∧ Hid (BRow w.heap.size v6 (Tx.times s.data.toList k) wr) ∧ Hid (Below w.heap.size w wr)) (fun _ v7 _ => m - (intOf v7).toNat)
      case atStart => exact ⟨0, rfl, Nat.zero_le _, (show BRow _ _ _ _ from BRow.start w _ (Nat.le_refl _)), (show Below _ _ _ from (Below.refl _ _).alloc (Nat.le_refl _) _)⟩
      case round =>
        obtain ⟨k, rfl, hk, HR, HB⟩ := hrel
        have hlen : (Tx.times s.data.toList k).length = k * s.size := by rw [Tx.times_length, size_list]
        have hle : k * s.size ≤ m * s.size := Nat.mul_le_mul_right _ hk
        have hlen2 : (Tx.times s.data.toList k).length + s.size ≤ 4000000 := by rw [hlen]; have := HF.out; have hs1 : s.size ≤ m * s.size := Nat.le_mul_of_pos_left _ (by omega); omega
        have HR0 := Lib.hid HR.out.form
        obtain ⟨g, cap, rfl, _, _, _⟩ := HR0.out
        by_cases hlt : k < m
        · clear hlen hle HR0
          go_wp2_with (at_builtin; refine wpList_sapp rfl _ _ rfl w.heap.size _ _ w _ HR.out HB.out rfl s rfl rfl hlen2 ?_; intro v5 w5 HR5 HB5)
          go_roundw
          case rel => exact ⟨k + 1, by go_num, by omega, HR5, HB5⟩
          case measure => simp [intOf]; omega
        · obtain rfl : k = m := by omega
          have hcv := HR.out.conv
          clear hlen hle HR0
          go_wp2_with fail
          refine bodyPost_ret (results_tmp2 rfl _ _ _) rfl ?_
          exact ⟨rfl, HB.out⟩
end Go.Proofs.Ytcpjogjkjbillaa
