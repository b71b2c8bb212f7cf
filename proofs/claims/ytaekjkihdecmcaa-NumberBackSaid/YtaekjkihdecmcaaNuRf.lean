/-
  What the program's Do and Neg tell, at this program.
-/
import Derived.Test.YtaekjkihdecmcaaNuA
import Derived.Test.YtaekjkihdecmcaaNuRe
import Derived.Shelf.Abstract
set_option linter.unusedVariables false
set_option linter.unusedSimpArgs false
namespace Go.Proofs.Ytaekjkihdecmcaa
open Go.RowKit

/-- Do calls the operator that the map holds. -/
theorem do_known {s : ByteArray} {a b : Int} {k : Nat} {p : Int × Nu.Bs} (hs : s.size ≤ 1000000) (hk : opF s = some (.func (.func k) #[] #[])) (eg : ∀ args w, (callFunc k args).run Try.prog w = .ok (.enter k args) w) (hc : ∀ w, Calls Try.prog k #[.int .i64 a, .int .i64 b] w (fun e w' => e = toldN p ∧ w' = w)) (w : World) :
    Calls Try.prog 15 #[.string s, .int .i64 a, .int .i64 b] w fun e w' => e = toldN p ∧ Below w.heap.size w w' := by
  go_enter Try.func15, Try.ntmps15
  go_wp2_with (first
    | (refine (hc _).mono ?_; rintro e w' ⟨rfl, rfl⟩)
    | (go_at_call 25; refine (operators_is _).mono ?_; rintro e w1 ⟨b1, rfl, HM, HB⟩; have hl := HM.out.get_ok 43 41 Try.underlying43 (zeroFn w1) s hs; rw [hk] at hl; simp only [Option.getD_some, Option.isSome_some] at hl))
  refine bodyPost_ret (results_tmp2 rfl _ _ _) rfl ?_
  exact ⟨rfl, HB.out⟩
theorem do_unknown {s : ByteArray} {a b : Int} (hs : s.size ≤ 1000000) (hk : opF s = none) (w : World) :
    Calls Try.prog 15 #[.string s, .int .i64 a, .int .i64 b] w fun e w' => e = toldN (0, Nu.nType) ∧ Below w.heap.size w w' := by
  go_enter Try.func15, Try.ntmps15
  go_wp2_with (go_at_call 25; refine (operators_is _).mono ?_; rintro e w1 ⟨b1, rfl, HM, HB⟩; have hl := HM.out.get_ok 43 41 Try.underlying43 (zeroFn w1) s hs; rw [hk] at hl; simp only [Option.getD_none, Option.isSome_none] at hl)
  refine bodyPost_ret (results_tmp2 rfl _ _ _) rfl ?_
  exact ⟨rfl, HB.out⟩
theorem bytes_eq {s : ByteArray} {l : List UInt8} : s = ⟨l.toArray⟩ ↔ s.data.toList = l := by
  constructor
  · rintro rfl; rfl
  · intro h; apply ByteArray.ext; apply Array.ext'; exact h
theorem nDo_is {s : ByteArray} {a b n : Int} {t : Nu.Bs} (hd : Hid (Nu.doN s.data.toList a b = (n, t))) (w : World) (ha : Nu.fits a = true) (hb : Nu.fits b = true) (hs : s.size ≤ 1000000 := by decide) :
    Calls Try.prog 15 #[.string s, .int .i64 a, .int .i64 b] w fun e w' => e = .returned (.tuple #[.int .i64 n, .string ⟨t.toArray⟩]) ∧ Below w.heap.size w w' := by
  rw [Nu.fits_iff] at ha hb
  have hd := hd.out
  unfold Nu.doN at hd
  have e1 : (s = ⟨#[43]⟩) = (s.data.toList = [43]) := propext (bytes_eq (l := [43]))
  have e2 : (s = ⟨#[45]⟩) = (s.data.toList = [45]) := propext (bytes_eq (l := [45]))
  have e3 : (s = ⟨#[42]⟩) = (s.data.toList = [42]) := propext (bytes_eq (l := [42]))
  have e4 : (s = ⟨#[47, 47]⟩) = (s.data.toList = [47, 47]) := propext (bytes_eq (l := [47, 47]))
  have e5 : (s = ⟨#[37]⟩) = (s.data.toList = [37]) := propext (bytes_eq (l := [37]))
  have e6 : (s = ⟨#[42, 42]⟩) = (s.data.toList = [42, 42]) := propext (bytes_eq (l := [42, 42]))
  have hf : opF s = if s.data.toList = [42, 42] then some (.func (.func 40) #[] #[])
      else if s.data.toList = [37] then some (.func (.func 39) #[] #[])
      else if s.data.toList = [47, 47] then some (.func (.func 38) #[] #[])
      else if s.data.toList = [42] then some (.func (.func 37) #[] #[])
      else if s.data.toList = [45] then some (.func (.func 36) #[] #[])
      else if s.data.toList = [43] then some (.func (.func 35) #[] #[])
      else none := by
    unfold opF
    simp only [e1, e2, e3, e4, e5, e6]
  generalize s.data.toList = l at *
  by_cases h1 : l = [43]
  · subst h1
    exact do_known hs (by rw [hf]; rfl) (enters_of Try.func35 (by kernel_rfl) rfl) (fun w => nsum_is (p := (n, t)) (show _ = _ from hd) w ha hb) w
  by_cases h2 : l = [45]
  · subst h2
    exact do_known hs (by rw [hf]; rfl) (enters_of Try.func36 (by kernel_rfl) rfl) (fun w => ndiff_is (p := (n, t)) (show _ = _ from hd) w ha hb) w
  by_cases h3 : l = [42]
  · subst h3
    exact do_known hs (by rw [hf]; rfl) (enters_of Try.func37 (by kernel_rfl) rfl) (fun w => nprod_is (p := (n, t)) (show _ = _ from hd) w ha hb) w
  by_cases h4 : l = [47, 47]
  · subst h4
    exact do_known hs (by rw [hf]; rfl) (enters_of Try.func38 (by kernel_rfl) rfl) (fun w => nquo_is (p := (n, t)) (show _ = _ from hd) w ha hb) w
  by_cases h5 : l = [37]
  · subst h5
    exact do_known hs (by rw [hf]; rfl) (enters_of Try.func39 (by kernel_rfl) rfl) (fun w => nrem_is (p := (n, t)) (show _ = _ from hd) w ha hb) w
  by_cases h6 : l = [42, 42]
  · subst h6
    exact do_known hs (by rw [hf]; rfl) (enters_of Try.func40 (by kernel_rfl) rfl) (fun w => npow_is (p := (n, t)) (show _ = _ from hd) w ha hb) w
  rw [if_neg h1, if_neg h2, if_neg h3, if_neg h4, if_neg h5, if_neg h6] at hd
  have h7 := do_unknown (a := a) (b := b) hs (by rw [hf, if_neg h6, if_neg h5, if_neg h4, if_neg h3, if_neg h2, if_neg h1]) w
  cases hd
  exact h7
theorem nNeg_is {a n : Int} {t : Nu.Bs} (hd : Hid (Nu.fit (-a) = (n, t))) (w : World) (ha : Nu.fits a = true) :
    Calls Try.prog 17 #[.int .i64 a] w fun e w' => e = .returned (.tuple #[.int .i64 n, .string ⟨t.toArray⟩]) ∧ Below w.heap.size w w' := by
  rw [Nu.fits_iff] at ha
  refine (nneg_is hd w ha).mono ?_
  rintro e w' ⟨rfl, rfl⟩
  exact ⟨rfl, Below.refl _ _⟩
end Go.Proofs.Ytaekjkihdecmcaa
