/-
  How the escapes between quotes are read, at this program.
-/
import Derived.Test.YtbdjccmcdifjcaaGreatDoorU
set_option linter.unusedVariables false
set_option linter.unusedSimpArgs false
namespace Go.Proofs.YtbdjccmcdifjcaaGreatDoor
open Go.RowKit Go.Shelf Go.Maps

theorem index_92 : ∀ l : Sp.Bs, (∃ p r, l = p ++ 92 :: r ∧ (∀ x ∈ p, x.toNat ≠ 92) ∧ Lib.index l [92] = (p.length : Int)) ∨ ((∀ x ∈ l, x.toNat ≠ 92) ∧ Lib.index l [92] = -1) := by
  intro l
  induction l with
  | nil => exact Or.inr ⟨by simp, rfl⟩
  | cons b l ih =>
    by_cases hb : b = 92
    · subst hb
      exact Or.inl ⟨[], l, rfl, by simp, by simp [Lib.index]⟩
    · have hb' : b.toNat ≠ 92 := fun h => hb (by apply UInt8.toNat_inj.1; exact h)
      have e : Lib.index (b :: l) [92] = if Lib.index l [92] == -1 then -1 else Lib.index l [92] + 1 := by
        rw [Lib.index]
        rw [if_neg]
        simp [List.isPrefixOf]
        intro h
        exact hb h.symm
      rcases ih with ⟨p, r, h1, h2, h3⟩ | ⟨h1, h2⟩
      · refine Or.inl ⟨b :: p, r, by rw [h1]; rfl, ?_, ?_⟩
        · intro x hx
          rcases List.mem_cons.1 hx with rfl | hx
          · exact hb'
          · exact h2 x hx
        · rw [e, h3, if_neg (by simp <;> omega)]
          simp
      · refine Or.inr ⟨?_, by rw [e, h2]; rfl⟩
        intro x hx
        rcases List.mem_cons.1 hx with rfl | hx
        · exact hb'
        · exact h1 x hx

theorem cut_92 (l : Sp.Bs) : (∃ p r, l = p ++ 92 :: r ∧ (∀ x ∈ p, x.toNat ≠ 92) ∧ Lib.cut l [92] = (p, r, true)) ∨ ((∀ x ∈ l, x.toNat ≠ 92) ∧ Lib.cut l [92] = (l, [], false)) := by
  rcases index_92 l with ⟨p, r, h1, h2, h3⟩ | ⟨h1, h2⟩
  · refine Or.inl ⟨p, r, h1, h2, ?_⟩
    unfold Lib.cut
    rw [h3, if_pos (by omega), h1]
    simp
  · refine Or.inr ⟨h1, ?_⟩
    unfold Lib.cut
    rw [h2]
    rfl

theorem unesc_plain (p u : Sp.Bs) (h : ∀ x ∈ p, x.toNat ≠ 92) : Sp.unesc (p ++ u) = (Sp.unesc u).map (p ++ ·) := by
  induction p with
  | nil => simp
  | cons c p ih =>
    rw [List.cons_append, Sp.unesc_cons, if_neg (h c (by simp)), ih (fun x hx => h x (by simp [hx]))]
    cases Sp.unesc u <;> rfl

def UnEnd (r : Option Sp.Bs) (e : Ending) : Prop :=
  match r with
  | some t => e = .returned (.tuple #[.string ⟨t.toArray⟩, .bool true])
  | none => e = .returned (.tuple #[.string ⟨#[]⟩, .bool false])
def strLen : Value → Nat
  | .string s => s.size
  | _ => 0

theorem mk_list (l : Sp.Bs) : (⟨l.toArray⟩ : ByteArray).data.toList = l := by simp
theorem mk_size (l : Sp.Bs) : (⟨l.toArray⟩ : ByteArray).size = l.length := by simp [ByteArray.size]

theorem bld_drewN {B b : Nat} {l : Sp.Bs} {w : World} (h : Bld B b l w) (n : Nat) : Bld B b l (w.drewN n) := h
theorem esc_drewN {b : Nat} {w : World} (h : EscMap b w) (n : Nat) : EscMap b (w.drewN n) := h

theorem heap_of_some {w : World} {g : Nat} {o : Obj} (h : w.heap[g]? = some o) : g < w.heap.size := (Array.getElem?_eq_some_iff.1 h).1
theorem builderAtF_below {B b : Nat} {p : Value} {bs : List Value} {w w' : World} (h : Lib.BuilderAtF 129 5 B b p bs w) (k : Below w.heap.size w w') : Lib.BuilderAtF 129 5 B b p bs w' := by
  obtain ⟨hB, v, hb, hown, hne⟩ := h
  refine ⟨hB, v, (k.block b (heap_of_some hb)).trans hb, ⟨hown.1, ?_⟩, hne⟩
  rcases hown.2 with hn | ⟨g, cap, cur, fz, hv, hbg, hg, rest⟩
  · exact .inl hn
  · exact .inr ⟨g, cap, cur, fz, hv, hbg, (k.block g (heap_of_some hg)).trans hg, rest⟩
theorem Bld.below {B b : Nat} {l : Sp.Bs} {w w' : World} (h : Bld B b l w) (k : Below w.heap.size w w') : Bld B b l w' := h.elim (fun x => .inl (builderAtF_below x k)) (fun x => .inr (builderAtF_below x k))

set_option maxHeartbeats 4000000 in
theorem unescape_any (s : ByteArray) (hs : s.size ≤ 1000000) (w : World) (hE : Env w) :
    Calls Tryz.prog 84 #[.string s] w fun e w' => UnEnd (Sp.unesc s.data.toList) e ∧ Below w.heap.size w w' := by
  have hz := hE.size
  go_enter Tryz.func84, Tryz.ntmps84
  go_wp2_with fail
  refine (escapes_any _).mono ?_
  rintro e w1 ⟨rfl, hM1, hb1, hz1⟩
  have hbel1 : Below w.heap.size w w1 := ((Below.refl _ w).alloc (Nat.le_refl _) _).trans (hb1.mono (by simp))
  have hB1 : Bld w.heap.size w.heap.size [] w1 := by
    have h0 : w1.heap[w.heap.size]? = some (.cells #[.pointer none, .slice none 0 0] 129 (0, 0)) := by
      rw [hb1.block w.heap.size (by simp)]
      unfold World.alloc
      exact Array.getElem?_push_size
    exact Or.inl ⟨Nat.le_refl _, .slice none 0 0, h0, ⟨rfl, Or.inl ⟨rfl, rfl⟩⟩, by simp [Value.ownBlock]⟩
  have hsz : w.heap.size + 1 < w1.heap.size := by simp at hz1; omega
  have hM : EscMap (w.heap.size + 1) w1 := by
    have e : (w.alloc (Obj.cells #[Value.pointer none, Value.slice none 0 0] 129)).heap.size = w.heap.size + 1 := by simp
    rw [e] at hM1
    exact hM1
  clear hb1 hM1 hz1
  go_wp2_with fail
  go_loopw [0] (fun v0 wr => ∃ (rest : ByteArray) (acc : Sp.Bs), v0 = .string rest ∧ rest.size + acc.length ≤ s.size ∧ Bld w.heap.size w.heap.size acc wr ∧ EscMap (w.heap.size + 1) wr ∧ Below w.heap.size w wr ∧ w.heap.size + 1 < wr.heap.size ∧ Hid (Sp.unesc s.data.toList = (Sp.unesc rest.data.toList).map (acc ++ ·))) (fun v0 wr => strLen v0)
  case atStart =>
    refine ⟨s, [], rfl, by simp, hB1, hM, hbel1, hsz, ?_⟩
    show _ = _
    cases Sp.unesc s.data.toList <;> rfl
  case round =>
    clear hB1 hM hbel1 hsz
    obtain ⟨rest, acc, rfl, hlen, hB, hM, hbel, hsz, hun⟩ := hrel
    have hEr := hE.below hbel hE.size
    obtain ⟨m, hm⟩ := hEr.maxl
    have hC := Tryz.strings_Cut rest ⟨#[92]⟩ m wr (by omega) hm
    have e92 : (⟨#[92]⟩ : ByteArray).data.toList = [92] := rfl
    rw [e92] at hC
    rcases cut_92 rest.data.toList with ⟨p, r, h1, h2, h3⟩ | ⟨h1, h2⟩
    · rw [h3] at hC
      have hrl : rest.size = p.length + (r.length + 1) := by rw [← size_list, h1]; simp
      have hun2 : Hid (Sp.unesc s.data.toList = (Sp.unesc (92 :: r)).map ((acc ++ p) ++ ·)) := by
        show _ = _
        rw [hun.out, h1, unesc_plain p _ h2]
        cases Sp.unesc (92 :: r) <;> simp
      have HC := Lib.hid hC
      clear hC h1 h2 h3 hun e92
      obtain ⟨pb, HP⟩ := hid_ex (⟨p.toArray⟩ : ByteArray)
      obtain ⟨rb, HR⟩ := hid_ex (⟨r.toArray⟩ : ByteArray)
      have hpl : pb.size = p.length := by rw [← HP.out, mk_size]
      have hrl2 : rb.size = r.length := by rw [← HR.out, mk_size]
      have hrest : pb.size + (rb.size + 1) = rest.size := by omega
      have HPL : Hid (pb.data.toList = p) := by show _ = _; rw [← HP.out]
      have HRL : Hid (rb.data.toList = r) := by show _ = _; rw [← HR.out]
      have HC2 : Hid (Calls Tryz.prog 93 #[.string rest, .string ⟨#[92]⟩] wr fun e w' => e = .returned (.tuple #[.string pb, .string rb, .bool true]) ∧ ∃ n, w' = wr.drewN n) := by
        rw [← HP.out, ← HR.out]; exact HC.out
      rw [← HPL.out, ← HRL.out] at hun2
      have hun3 := hun2
      clear HC hpl hrl2 hrl HP HR HPL HRL hun2
      clear p r
      go_wp2_with fail
      refine HC2.out.mono ?_
      clear HC2
      rintro e w2 ⟨rfl, n, rfl⟩
      go_wp2_with fail
      refine (ws w.heap.size w.heap.size acc pb (wr.drewN n) (bld_drewN hB n) (by omega) (by have := hbel.size; simpa using this)).mono ?_
      rintro e w3 ⟨rfl, hB3, hb3, hk3⟩
      have hM3 : EscMap (w.heap.size + 1) w3 := (esc_drewN hM n).others hk3 (by omega)
      have hbel3 : Below w.heap.size w w3 := (below_drewN hbel n).trans hb3
      have hz3 := hb3.size
      have hsz3 : w.heap.size + 1 < w3.heap.size := by simp at hz3; omega
      clear hB hM hbel hsz hb3 hk3 hz3 hEr hm
      have hE3 := hE.below hbel3 hE.size
      go_wp2_with fail
      have hesc := escape_any rb (by omega) (w.heap.size + 1) w3 hE3 hM3
      cases hes : Sp.esc rb.data.toList with
      | none =>
        rw [hes] at hesc
        have HN : Hid (Sp.unesc s.data.toList = none) := by
          show _ = _
          rw [hun3.out, Sp.unesc_cons, if_pos (by decide), hes]
          rfl
        have HS := Lib.hid hesc
        clear hesc hes hun3
        refine HS.out.mono ?_
        clear HS
        rintro e w4 ⟨⟨x, y, rfl⟩, hb4⟩
        go_wp2_with fail
        go_ret2
        refine ⟨?_, hbel3.trans (hb4.mono hbel3.size)⟩
        rw [HN.out]
        rfl
      | some bk =>
        obtain ⟨b, k⟩ := bk
        have hk := Sp.esc_len hes
        rw [size_list] at hk
        obtain ⟨hk1, hk2, hk3⟩ := hk
        rw [hes] at hesc
        have HN : Hid (Sp.unesc s.data.toList = (Sp.unesc (rb.extract k rb.size).data.toList).map ((acc ++ pb.data.toList ++ [b]) ++ ·)) := by
          show _ = _
          rw [hun3.out, Sp.unesc_cons, if_pos (by decide), hes, Lib.extract_to_end]
          simp only []
          cases Sp.unesc (rb.data.toList.drop k) <;> simp
        have HS := Lib.hid hesc
        clear hesc hes hun3
        refine HS.out.mono ?_
        clear HS
        rintro e w4 ⟨rfl, hb4⟩
        have hM4 : EscMap (w.heap.size + 1) w4 := hM3.kept (hb4.block _ hsz3)
        have hB4 : Bld w.heap.size w.heap.size (acc ++ pb.data.toList) w4 := hB3.below hb4
        have hbel4 := hbel3.trans (hb4.mono hbel3.size)
        have hsz4 : w.heap.size + 1 < w4.heap.size := by have := hb4.size; omega
        clear hM3 hB3 hbel3 hsz3 hE3 hb4
        go_wp2_with fail
        refine (wb w.heap.size w.heap.size _ b w4 hB4 (by simp only [List.length_append, size_list]; omega) (by omega)).mono ?_
        rintro e w5 ⟨rfl, hB5, hb5, hk5⟩
        have hM5 : EscMap (w.heap.size + 1) w5 := hM4.others hk5 (by omega)
        have hz5 := hb5.size
        go_wp2_with fail
        go_roundw
        case rel =>
          exact ⟨rb.extract k rb.size, acc ++ pb.data.toList ++ [b], rfl, by simp [ByteArray.size_extract, size_list]; omega, hB5, hM5, hbel4.trans hb5, by omega, HN⟩
        case measure => simp [strLen, ByteArray.size_extract]; omega
    · rw [h2] at hC
      have hl2 : Sp.unesc s.data.toList = some (acc ++ rest.data.toList) := by
        rw [hun.out, show rest.data.toList = rest.data.toList ++ [] by simp, unesc_plain _ [] h1]
        simp [Sp.unesc_nil]
      have HN := Lib.hid hl2
      have HC2 : Hid (Calls Tryz.prog 93 #[.string rest, .string ⟨#[92]⟩] wr fun e w' => e = .returned (.tuple #[.string rest, .string ⟨#[]⟩, .bool false]) ∧ ∃ n, w' = wr.drewN n) := hC
      clear hC h1 h2 hl2 hun e92
      go_wp2_with fail
      refine HC2.out.mono ?_
      clear HC2
      rintro e w2 ⟨rfl, n, rfl⟩
      go_wp2_with fail
      refine (ws w.heap.size w.heap.size acc rest (wr.drewN n) (bld_drewN hB n) (by omega) (by have := hbel.size; simpa using this)).mono ?_
      rintro e w3 ⟨rfl, hB3, hb3, hk3⟩
      have hbel3 : Below w.heap.size w w3 := (below_drewN hbel n).trans hb3
      go_wp2_with fail
      refine (Tryz.Builder_String_any_k w.heap.size w.heap.size _ w3 hB3 hbel3.size).mono ?_
      rintro e w4 ⟨rfl, hI4, hb4, hk4⟩
      go_wp2_with fail
      go_ret2
      refine ⟨?_, hbel3.trans hb4⟩
      rw [HN.out]
      rfl
end Go.Proofs.YtbdjccmcdifjcaaGreatDoor
