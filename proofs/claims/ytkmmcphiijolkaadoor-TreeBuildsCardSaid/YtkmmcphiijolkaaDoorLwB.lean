/-
  TreeBuilds: the walk.
-/
import Derived.Test.YtkmmcphiijolkaaDoorTreeNN
set_option linter.unusedVariables false
set_option linter.unusedSimpArgs false
namespace Go.Proofs.YtkmmcphiijolkaaDoor
namespace lawLwB
open Go.RowKit Go.Shelf
open Tr

theorem take_arg {pa : Option Addr} {c : Nat} {l : List NodeD} {w : World} (h : ArgT (.slice pa l.length c) l w) (k : Nat) (hk : k ≤ l.length) (c' : Nat) : ArgT (.slice pa k c') (l.take k) w := by
  obtain ⟨pa', ca', e, hc⟩ := h
  injection e with e1 e2 e3
  subst e1
  refine ⟨pa, c', by rw [List.length_take, Nat.min_eq_left hk], fun j x hx => ?_⟩
  rw [List.getElem?_take] at hx
  split at hx
  · exact hc j x hx
  · cases hx
set_option maxHeartbeats 40000000 in
set_option maxRecDepth 100000 in
theorem walk (v : Value) (l : List NodeD) (w : World) (ha : ArgT v l w) (hl : l.length ≤ maxLen) (hb : ∀ x ∈ l, BndS x) (hcap : ∃ pa cap, v = .slice pa l.length cap ∧ l.length ≤ cap) : Calls Tryd.prog 4 #[v] w fun e w' => e = .returned (.bool true) ∧ Below w.heap.size w w' := by
  have hawake := awake_any w
  have HA := Lib.hid ha
  have HBD := Lib.hid hb
  obtain ⟨pa, ca, rfl, fa⟩ := ha
  obtain ⟨_, _, ec, hcap⟩ := hcap
  injection ec with ec1 ec2 ec3
  subst ec1
  subst ec3
  clear ec2
  obtain ⟨m, hm⟩ : ∃ m, m = l.length := ⟨_, rfl⟩
  have HM := Lib.hid hm
  rw [← hm] at hl ⊢
  have hl2 : m ≤ 9223372036854775807 := by unfold maxLen at hl; omega
  by_cases h12 : m ≤ 12
  · have hbu : ∀ (r : Bool) W, Below w.heap.size w W → Calls Tryd.prog 11 #[.slice pa m ca, .bool r] W fun e W' => e = .returned (.bool true) ∧ Below W.heap.size W W' := fun r W hW =>
      builds_any r _ l W (by have := HA.out.below hW; rwa [← hm] at this) (by omega) HBD.out
    have HBU := Lib.hid hbu
    have h12' : ¬ 12 < (m : Int) := by omega
    clear hb hm fa hbu hl h12
    go_enter Tryd.func4, Tryd.ntmps4
    go_wp2_with (first
      | (go_at_call 6; refine hawake.mono ?_; clear hawake; rintro e w1 ⟨rfl, hb1⟩; have hbu1 := HBU.out false w1 hb1)
      | (go_at_call 11; refine hbu1.mono ?_; clear hbu1; rintro e w2 ⟨rfl, hb2⟩; have hb12 := hb1.trans (hb2.mono hb1.size); have hbu2 := HBU.out true w2 hb12)
      | (go_at_call 11; refine hbu2.mono ?_; clear hbu2; rintro e w3 ⟨rfl, hb3⟩))
    go_ret
    exact ⟨rfl, hb12.trans (hb3.mono hb12.size)⟩
  · obtain ⟨x0, hx0⟩ : ∃ x, l[0]? = some x := ⟨_, List.getElem?_eq_getElem (by omega)⟩
    obtain ⟨g, o, _, rfl, _⟩ := fa 0 x0 hx0
    have hl12 : (l.take 12).length = 12 := by rw [List.length_take, ← hm]; omega
    have hbu : ∀ (r : Bool) W, Below w.heap.size w W → Calls Tryd.prog 11 #[.slice (some ⟨g, o, none⟩) 12 ca, .bool r] W fun e W' => e = .returned (.bool true) ∧ Below W.heap.size W W' := fun r W hW =>
      builds_any r _ (l.take 12) W ((take_arg HA.out 12 (by omega) ca).below hW) (by omega) (fun x hx => HBD.out x (List.mem_of_mem_take hx))
    have HBU := Lib.hid hbu
    have h12' : 12 < (m : Int) := by omega
    have h12c : 12 ≤ ca := by omega
    clear hb hm fa hbu hl hx0 HA hl12 h12 hcap
    go_enter Tryd.func4, Tryd.ntmps4
    go_wp2_with (first
      | (go_at_call 6; refine hawake.mono ?_; clear hawake; rintro e w1 ⟨rfl, hb1⟩; have hbu1 := HBU.out false w1 hb1)
      | (go_at_call 11; refine hbu1.mono ?_; clear hbu1; rintro e w2 ⟨rfl, hb2⟩; have hb12 := hb1.trans (hb2.mono hb1.size); have hbu2 := HBU.out true w2 hb12)
      | (go_at_call 11; refine hbu2.mono ?_; clear hbu2; rintro e w3 ⟨rfl, hb3⟩))
    go_ret
    exact ⟨rfl, hb12.trans (hb3.mono hb12.size)⟩
end lawLwB
end Go.Proofs.YtkmmcphiijolkaaDoor
