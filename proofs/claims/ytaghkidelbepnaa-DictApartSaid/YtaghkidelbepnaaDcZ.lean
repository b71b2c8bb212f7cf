/-
  The program's dict tells what it is asked to tell, at this program.
-/
import Derived.Test.YtaghkidelbepnaaDcL
import Derived.Test.YtaghkidelbepnaaDcD
import Derived.Test.YtaghkidelbepnaaDiS
set_option linter.unusedVariables false
set_option linter.unusedSimpArgs false
namespace Go.Proofs.Ytaghkidelbepnaa
open Go.RowKit Go.Shelf
open Di

/-- Block a is a dict of the program's, of these pairs. -/
def DR (w : World) (a : Nat) (l : List Pr) : Prop := ∃ v mb es f, DS w a v mb es f l.length ∧ Rel es f ∧ live es = l ∧ es.length ≤ 2 * l.length ∧ Keyed1 l ∧ ∀ p ∈ l, Vok p.1
theorem DR.mk {w : World} {a mb n : Nat} {v : Value} {es : List Ent} {f : V → Option Nat} {l : List Pr} (h : DS w a v mb es f n) (hr : Rel es f) (hl : live es = l) (hn : l.length = n) (h2 : es.length ≤ 2 * n) (hk : Keyed1 l) (hv : ∀ p ∈ l, Vok p.1) : DR w a l := by
  subst hn
  exact ⟨v, mb, es, f, h, hr, hl, h2, hk, hv⟩
theorem dkept {w w' : World} {a : Nat} {l : List Pr} (h : DR w a l) (hk : ∀ k, FD w a k → w'.heap[k]? = w.heap[k]?) : DR w' a l ∧ ∀ k, FD w' a k → FD w a k := by
  obtain ⟨v, mb, es, f, hd, r⟩ := h
  have hd' := hd.kept (hk a (Or.inl rfl)) (fun k e => hk k ((hd.fd k).2 (Or.inr (Or.inl e)))) (hk mb ((hd.fd mb).2 (Or.inr (Or.inr rfl))))
  exact ⟨⟨v, mb, es, f, hd', r⟩, fun k e => (hd.fd k).2 ((hd'.fd k).1 e)⟩
theorem put_new {l : List Pr} {k x : V} (h1 : keyOk k = true) (h2 : idx l k = none) (h3 : l.length < 4096) : Di.put l k x = (true, l ++ [(k, x)]) := by
  unfold Di.put
  rw [if_pos h1, h2]
  simp only
  rw [if_pos (by have : mx = 4096 := rfl; omega)]
theorem put_not {l : List Pr} {k x : V} (h2 : idx l k = none) (h : keyOk k = false ∨ 4096 ≤ l.length) : Di.put l k x = (false, l) := by
  unfold Di.put
  by_cases h1 : keyOk k = true
  · rw [if_pos h1, h2]
    simp only
    rcases h with h | h
    · rw [h1] at h; cases h
    · rw [if_neg (by have : mx = 4096 := rfl; omega)]
  · rw [if_neg h1]
theorem But.fd {w w' : World} {a mb n : Nat} {v : Value} {es : List Ent} {f : V → Option Nat} (h : DS w a v mb es f n) (hb : But (BK a v mb) w w') : But (FD w a) w w' := hb.mono (fun k _ e => (h.fd k).2 e)
theorem DEnd.tell {w w' : World} {a mb n n' : Nat} {v : Value} {es es' : List Ent} {f f' : V → Option Nat} {ok : Bool} {e : Ending} {l' : List Pr} (h : DS w a v mb es f n) (hd : DEnd w a v mb es' f' n' ok e w') (hr : Rel es' f') (hl : live es' = l') (hn : l'.length = n') (h2 : es'.length ≤ 2 * n') (hk : Keyed1 l') (hv : ∀ p ∈ l', Vok p.1) :
    e = .returned (.bool ok) ∧ Hid (DR w' a l') ∧ Hid (But (FD w a) w w') ∧ Hid (∀ j, FD w' a j → FD w a j ∨ w.heap.size ≤ j) := by
  obtain ⟨v', rfl, H1, H2, H3⟩ := hd
  refine ⟨rfl, DR.mk H1.out hr hl hn h2 hk hv, But.fd h H2.out, (show ∀ j, _ from fun j e => ?_)⟩
  rcases (H1.out.fd j).1 e with e | e | e
  · exact Or.inl ((h.fd j).2 (Or.inl e))
  · exact (H3.out j e).imp (fun e => (h.fd j).2 (Or.inr (Or.inl e))) id
  · exact Or.inl ((h.fd j).2 (Or.inr (Or.inr e)))
theorem keyed_snoc {l : List Pr} {k x : V} (h : Keyed1 l) (hk : keyOk k = true) : Keyed1 (l ++ [(k, x)]) := fun p hp => by
  rcases List.mem_append.1 hp with h1 | h1
  · exact h p h1
  · rw [List.mem_singleton] at h1; subst h1; exact hk
theorem vok_snoc {l : List Pr} {k x : V} (h : ∀ p ∈ l, Vok p.1) (hk : Vok k) : ∀ p ∈ l ++ [(k, x)], Vok p.1 := fun p hp => by
  rcases List.mem_append.1 hp with h1 | h1
  · exact h p h1
  · rw [List.mem_singleton] at h1; subst h1; exact hk
theorem dput_ {w : World} {a : Nat} {l l' : List Pr} {k x : V} {ok : Bool} (hp : Hid (Di.put l k x = (ok, l'))) (h : Hid (DR w a l)) (hl : l.length ≤ 5000) (hk : Vok k) (hx : Vok x) :
    Calls Try.prog 20 #[ptrV a, vV k, vV x] w fun e w' => e = .returned (.bool ok) ∧ Hid (DR w' a l') ∧ Hid (But (FD w a) w w') ∧ Hid (∀ j, FD w' a j → FD w a j ∨ w.heap.size ≤ j) := by
  obtain ⟨v, mb, es, f, hd, hr, hlv, h2, hky, hvk⟩ := h.out
  have hp := hp.out
  cases hi : f k with
  | some i =>
    obtain ⟨j, y, e1, e2, e3, e4, _⟩ := hr.at_ hi
    rw [hlv] at e2 e3 e4
    have hok : keyOk k = true := hky (k, y) (List.mem_of_getElem? e3)
    have hp2 := hr.put_there hi hok x
    rw [hlv, hp] at hp2
    cases hp2
    refine (dPut_there hk hi (Lib.hid hr) (Lib.hid hd) (by omega)).mono fun e w' hE => ?_
    have hll : (live (es.set i ((k, x), false))).length = l.length := by rw [e4, List.length_set]
    refine hE.tell hd (hr.set x hi) rfl hll (by rw [List.length_set]; exact h2) ?_ ?_
    · intro p hp
      rw [e4] at hp
      rcases List.mem_or_eq_of_mem_set hp with h | h
      · exact hky p h
      · rw [h]; exact hok
    · intro p hp
      rw [e4] at hp
      rcases List.mem_or_eq_of_mem_set hp with h | h
      · exact hvk p h
      · rw [h]; exact hk
  | none =>
    have hix : idx l k = none := by rw [← hlv]; exact hr.idx_none.1 hi
    obtain ⟨b, hb⟩ : ∃ b, keyOk k = b := ⟨_, rfl⟩
    by_cases hno : b = false ∨ 4096 ≤ l.length
    · rw [put_not hix (by rw [hb]; exact hno)] at hp
      cases hp
      exact (dPut_not hk hi (Lib.hid hd) (by omega) (by omega) (Lib.hid hb) hno).mono fun e w' hE => hE.tell hd hr hlv rfl h2 hky hvk
    · have hbt : b = true := by cases b; exact absurd (Or.inl rfl) hno; rfl
      subst hbt
      have hlt : l.length < 4096 := by omega
      rw [put_new hb hix hlt] at hp
      cases hp
      refine (dPut_app hk hi (Lib.hid hd) (by omega) hlt (Lib.hid hb)).mono fun e w' hE => ?_
      exact hE.tell hd (hr.app x hi) (by rw [live_snoc, hlv]) (by simp) (by simp; omega) (keyed_snoc hky hb) (vok_snoc hvk hk)
theorem ddel_ {w : World} {a : Nat} {l l' : List Pr} {k : V} {ok : Bool} (hp : Hid (Di.del l k = (ok, l'))) (h : Hid (DR w a l)) (hl : l.length ≤ 5000) (hk : Vok k) :
    Calls Try.prog 23 #[ptrV a, vV k] w fun e w' => e = .returned (.bool ok) ∧ Hid (DR w' a l') ∧ Hid (But (FD w a) w w') ∧ Hid (∀ j, FD w' a j → FD w a j ∨ w.heap.size ≤ j) := by
  obtain ⟨v, mb, es, f, hd, hr, hlv, h2, hky, hvk⟩ := h.out
  have hp := hp.out
  cases hi : f k with
  | none =>
    have hix : idx l k = none := by rw [← hlv]; exact hr.idx_none.1 hi
    unfold Di.del at hp
    rw [hix] at hp
    cases hp
    refine (dDel_no hk hi (Lib.hid hd)).mono ?_
    rintro e w' ⟨rfl, hb⟩
    have h3 := dkept h.out (w' := w') (fun k e => hb.block k (hd.bk_lt ((hd.fd k).1 e)))
    exact ⟨rfl, h3.1, But.of_below hb, (show ∀ j, _ from fun j e => Or.inl (h3.2 j e))⟩
  | some i =>
    obtain ⟨e1, e2⟩ := hr.del_there hi
    obtain ⟨j, y, _, _, g3, _, g5⟩ := hr.at_ hi
    rw [hlv] at e1 e2 g3 g5
    rw [hp] at e1
    cases e1
    obtain ⟨m, hm⟩ : ∃ m, (live (es.set i gap)).length = m := ⟨_, rfl⟩
    rw [hm] at e2
    have hsub : ∀ p ∈ live (es.set i gap), p ∈ l := fun p hp => by
      rw [g5] at hp
      rcases List.mem_append.1 hp with h | h
      · exact List.mem_of_mem_take h
      · exact List.mem_of_mem_drop h
    rw [← e2] at hd
    refine (dDel_yes hk hi (Lib.hid hr) (Lib.hid hd) (by omega) (by omega) rfl (Lib.hid hm) (show ∀ p ∈ _, _ from fun p hp => hvk p (hsub p hp))).mono ?_
    rintro e w' ⟨v', mb', es', f', rfl, HD, HR, HB, HF⟩
    refine ⟨rfl, DR.mk HD.out HR.out.1 HR.out.2.1 hm HR.out.2.2 (fun p hp => hky p (hsub p hp)) (fun p hp => hvk p (hsub p hp)), But.fd hd HB.out, (show ∀ j, _ from fun j e => ?_)⟩
    exact (HF.out j ((HD.out.fd j).1 e)).imp (fun e => (hd.fd j).2 e) id
/-- THE PROGRAM's DICT. -/
def dictI : DictI where
  DR := DR
  FR := FD
  lt := fun {w a l k} h hk => by
    obtain ⟨v, mb, es, f, hd, _⟩ := h
    exact hd.bk_lt ((hd.fd k).1 hk)
  kept := fun h _ hk => dkept h hk
  dyn := fun {w a l} h => by
    obtain ⟨v, mb, es, f, hd, _⟩ := h
    exact FD.dyn hd.lt
  key_ := fun hr _ w => dKey_is hr w
  new_ := fun w => (dnew_is w).mono (by
    rintro e w' ⟨a, v, mb, rfl, H, HB, HF⟩
    exact ⟨a, rfl, DR.mk (n := 0) H.out Rel.nil live_nil rfl (Nat.zero_le _) Keyed1.nil (fun p hp => by cases hp), HB, (show ∀ k, _ from fun k e => HF.out k ((H.out.fd k).1 e))⟩)
  put_ := dput_
  get_ := fun {w a l k x ok} hg h hl hk => by
    obtain ⟨v, mb, es, f, hd, hr, hlv, h2, hky, hvk⟩ := h.out
    exact dGet_is hk (by rw [hlv]; exact hg) (Lib.hid hr) (Lib.hid hd) (by omega)
  del_ := ddel_
  len_ := fun {w a l n} hn h hl => by
    obtain ⟨v, mb, es, f, hd, hr, hlv, h2, hky, hvk⟩ := h.out
    rw [hn.out] at hd
    exact (dLen_is (Lib.hid hd)).mono (by rintro e w' ⟨rfl, rfl⟩; exact ⟨rfl, Below.refl _ _⟩)
  keys_ := fun {w a l n} hn h hl => by
    obtain ⟨v, mb, es, f, hd, hr, hlv, h2, hky, hvk⟩ := h.out
    have hn2 := hn.out
    rw [hn2] at hd
    exact dKeys_is (Lib.hid hlv) hn (Lib.hid hd) (by omega) (by omega)
  clone_ := fun {w a l} h hl => by
    obtain ⟨v, mb, es, f, hd, hr, hlv, h2, hky, hvk⟩ := h.out
    exact (dClone_is (Lib.hid hlv) rfl (Lib.hid hr) hvk (Lib.hid hd) (by omega) (by omega)).mono (by
      rintro e w' ⟨a2, v2, mb2, es2, f2, rfl, H, HR, HB, HF⟩
      exact ⟨a2, rfl, DR.mk H.out HR.out.1 HR.out.2.1 rfl (by rw [HR.out.2.2]; omega) hky hvk, HB, (show ∀ k, _ from fun k e => HF.out k ((H.out.fd k).1 e))⟩)
  all_ := fun {w a l} h hl => (dAll_is).mono (by
    rintro e w' ⟨rfl, hw⟩
    refine ⟨40, _, (fun k => k = w.heap.size), rfl, enters_of Try.func40 (by kernel_rfl) rfl, (show Below _ _ _ by rw [hw]; exact below_new _ _), (show ∀ k, _ from fun k e => by subst e; exact ⟨Nat.le_refl _, by rw [hw]; simp⟩), (show ∀ (n : Nat) (Wc : World), _ from ?_)⟩
    intro n Wc l' R h1 h2 h3 h4 h5 h6
    obtain ⟨v, mb, es, f, hd, hr, hlv, h2', hky, hvk⟩ := h3
    subst hlv
    have hb0 : Wc.heap[w.heap.size]? = some (.cells #[ptrV a] 24) := by
      rw [h2 _ rfl, hw]
      exact heap_alloc_new _ _
    exact all_gives n (by omega) R Wc h5 hd hb0 (h6 _ rfl))
end Go.Proofs.Ytaghkidelbepnaa
