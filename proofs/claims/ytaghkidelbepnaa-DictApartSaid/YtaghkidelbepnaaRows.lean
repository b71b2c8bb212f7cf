/-
  No cell of these rows narrows 'for every input' (looked for: loops, veiled, ifaces, maps, wideKeys, modest, calm, conditions, laid).
  DERIVED. THE GIVEN ROWS OF THIS SEAT. 9 by the template 'for every input the law returns true; each argument reads behind the call as it read before'; 0 by the template 'total and deterministic' (their statements: YtaghkidelbepnaaTotals.lean).
  GIVEN WITH THE SEED: the statements are not yours to turn. If you find one false, say at which input.
  Laid BY PROGRAM, IN A SANDBOX (cutbox-rows.mjs): the forced cells as the released guide's own fill.sh prints them over the translation 0fb0a26fc46dcc7e… (all of the seat's roots in one cut). By AI agents, Wed Nov 11 2026. No macro, syntax, notation, axiom, sorry.
-/
import Derived.Test.YtaghkidelbepnaaChecked
import GoSem.Claim
import GoSem.ClaimJoined
import GoSem.ClaimMapViews
import Derived.JoinedTies
import Derived.KernelRfl
namespace Go.Proofs.Ytaghkidelbepnaa
/- THE CELL 'sum', in the pinned program and in every row, IS THE sha256 OF THE DUMP (.gsa) THAT YtaghkidelbepnaaProg.lean LOADS. Nothing in Lean hashes anything: it is a label: what it is worth is what the hold of that sum in a sandbox is worth. -/
noncomputable def Try.pinned : Pinned := { name := "ytaghkidelbepnaa", sum := "0fb0a26fc46dcc7e36a51d6063403bb48583a77e06031d74c5d869f9182e5840", checked := Try.checked }
namespace Rows
def none {H : Type} : Left H := { results := [], args := [] }

/-- 'kraitlaw10.DictPlays': WHATEVER THE INPUT: true; the input reads as it did. -/
def dictPlaysSpec : ChangeSpec := { name := "dictPlays", fn := fun _ => fun
  | [d] => { results := [.lit (.bool true)], args := [d] }
  | _ => none }
def dictPlaysRow : OpenClaim := { program := "ytaghkidelbepnaa", sum := "0fb0a26fc46dcc7e36a51d6063403bb48583a77e06031d74c5d869f9182e5840", func := "krait/kraitlaw10.DictPlays", spec := "dictPlays", unfollowed := true, recurses := true, plainKeys := false, apart := false }
def DictPlaysSaid : Prop := dictPlaysRow.holds Try.pinned (OpenSpec.ofChange dictPlaysSpec)

/-- ITS FALSE NEIGHBOUR: 'it returns false'. Refute it at one input. -/
def dictPlaysWrong : ChangeSpec := { name := "dictPlays", fn := fun _ => fun
  | [d] => { results := [.lit (.bool false)], args := [d] }
  | _ => none }
def DictPlaysWrongFalsely : Prop := dictPlaysRow.holds Try.pinned (OpenSpec.ofChange dictPlaysWrong)

/-- 'kraitlaw10.DictKeys': WHATEVER THE INPUT: true; the input reads as it did. -/
def dictKeysSpec : ChangeSpec := { name := "dictKeys", fn := fun _ => fun
  | [d1, d2] => { results := [.lit (.bool true)], args := [d1, d2] }
  | _ => none }
def dictKeysRow : OpenClaim := { program := "ytaghkidelbepnaa", sum := "0fb0a26fc46dcc7e36a51d6063403bb48583a77e06031d74c5d869f9182e5840", func := "krait/kraitlaw10.DictKeys", spec := "dictKeys", unfollowed := true, recurses := true, plainKeys := false, apart := false }
def DictKeysSaid : Prop := dictKeysRow.holds Try.pinned (OpenSpec.ofChange dictKeysSpec)

/-- ITS FALSE NEIGHBOUR: 'it returns false'. Refute it at one input. -/
def dictKeysWrong : ChangeSpec := { name := "dictKeys", fn := fun _ => fun
  | [d1, d2] => { results := [.lit (.bool false)], args := [d1, d2] }
  | _ => none }
def DictKeysWrongFalsely : Prop := dictKeysRow.holds Try.pinned (OpenSpec.ofChange dictKeysWrong)

/-- 'kraitlaw10.DictBack': WHATEVER THE INPUT: true; the input reads as it did. -/
def dictBackSpec : ChangeSpec := { name := "dictBack", fn := fun _ => fun
  | [d1, d2, d3] => { results := [.lit (.bool true)], args := [d1, d2, d3] }
  | _ => none }
def dictBackRow : OpenClaim := { program := "ytaghkidelbepnaa", sum := "0fb0a26fc46dcc7e36a51d6063403bb48583a77e06031d74c5d869f9182e5840", func := "krait/kraitlaw10.DictBack", spec := "dictBack", unfollowed := true, recurses := true, plainKeys := false, apart := false }
def DictBackSaid : Prop := dictBackRow.holds Try.pinned (OpenSpec.ofChange dictBackSpec)

/-- ITS FALSE NEIGHBOUR: 'it returns false'. Refute it at one input. -/
def dictBackWrong : ChangeSpec := { name := "dictBack", fn := fun _ => fun
  | [d1, d2, d3] => { results := [.lit (.bool false)], args := [d1, d2, d3] }
  | _ => none }
def DictBackWrongFalsely : Prop := dictBackRow.holds Try.pinned (OpenSpec.ofChange dictBackWrong)

/-- 'kraitlaw10.DictOrder': WHATEVER THE INPUT: true; the input reads as it did. -/
def dictOrderSpec : ChangeSpec := { name := "dictOrder", fn := fun _ => fun
  | [d1, d2, d3] => { results := [.lit (.bool true)], args := [d1, d2, d3] }
  | _ => none }
def dictOrderRow : OpenClaim := { program := "ytaghkidelbepnaa", sum := "0fb0a26fc46dcc7e36a51d6063403bb48583a77e06031d74c5d869f9182e5840", func := "krait/kraitlaw10.DictOrder", spec := "dictOrder", unfollowed := true, recurses := true, plainKeys := false, apart := false }
def DictOrderSaid : Prop := dictOrderRow.holds Try.pinned (OpenSpec.ofChange dictOrderSpec)

/-- ITS FALSE NEIGHBOUR: 'it returns false'. Refute it at one input. -/
def dictOrderWrong : ChangeSpec := { name := "dictOrder", fn := fun _ => fun
  | [d1, d2, d3] => { results := [.lit (.bool false)], args := [d1, d2, d3] }
  | _ => none }
def DictOrderWrongFalsely : Prop := dictOrderRow.holds Try.pinned (OpenSpec.ofChange dictOrderWrong)

/-- 'kraitlaw10.DictClones': WHATEVER THE INPUT: true; the input reads as it did. -/
def dictClonesSpec : ChangeSpec := { name := "dictClones", fn := fun _ => fun
  | [d1, d2, d3] => { results := [.lit (.bool true)], args := [d1, d2, d3] }
  | _ => none }
def dictClonesRow : OpenClaim := { program := "ytaghkidelbepnaa", sum := "0fb0a26fc46dcc7e36a51d6063403bb48583a77e06031d74c5d869f9182e5840", func := "krait/kraitlaw10.DictClones", spec := "dictClones", unfollowed := true, recurses := true, plainKeys := false, apart := false }
def DictClonesSaid : Prop := dictClonesRow.holds Try.pinned (OpenSpec.ofChange dictClonesSpec)

/-- ITS FALSE NEIGHBOUR: 'it returns false'. Refute it at one input. -/
def dictClonesWrong : ChangeSpec := { name := "dictClones", fn := fun _ => fun
  | [d1, d2, d3] => { results := [.lit (.bool false)], args := [d1, d2, d3] }
  | _ => none }
def DictClonesWrongFalsely : Prop := dictClonesRow.holds Try.pinned (OpenSpec.ofChange dictClonesWrong)

/-- 'kraitlaw10.DictGoes': WHATEVER THE INPUT: true; the input reads as it did. -/
def dictGoesSpec : ChangeSpec := { name := "dictGoes", fn := fun _ => fun
  | [d1, d2, d3] => { results := [.lit (.bool true)], args := [d1, d2, d3] }
  | _ => none }
def dictGoesRow : OpenClaim := { program := "ytaghkidelbepnaa", sum := "0fb0a26fc46dcc7e36a51d6063403bb48583a77e06031d74c5d869f9182e5840", func := "krait/kraitlaw10.DictGoes", spec := "dictGoes", unfollowed := true, recurses := true, plainKeys := false, apart := false }
def DictGoesSaid : Prop := dictGoesRow.holds Try.pinned (OpenSpec.ofChange dictGoesSpec)

/-- ITS FALSE NEIGHBOUR: 'it returns false'. Refute it at one input. -/
def dictGoesWrong : ChangeSpec := { name := "dictGoes", fn := fun _ => fun
  | [d1, d2, d3] => { results := [.lit (.bool false)], args := [d1, d2, d3] }
  | _ => none }
def DictGoesWrongFalsely : Prop := dictGoesRow.holds Try.pinned (OpenSpec.ofChange dictGoesWrong)

/-- 'kraitlaw10.DictFull': WHATEVER THE INPUT: true; the input reads as it did. -/
def dictFullSpec : ChangeSpec := { name := "dictFull", fn := fun _ => fun
  | [d1, d2] => { results := [.lit (.bool true)], args := [d1, d2] }
  | _ => none }
def dictFullRow : OpenClaim := { program := "ytaghkidelbepnaa", sum := "0fb0a26fc46dcc7e36a51d6063403bb48583a77e06031d74c5d869f9182e5840", func := "krait/kraitlaw10.DictFull", spec := "dictFull", unfollowed := true, recurses := true, plainKeys := false, apart := false }
def DictFullSaid : Prop := dictFullRow.holds Try.pinned (OpenSpec.ofChange dictFullSpec)

/-- ITS FALSE NEIGHBOUR: 'it returns false'. Refute it at one input. -/
def dictFullWrong : ChangeSpec := { name := "dictFull", fn := fun _ => fun
  | [d1, d2] => { results := [.lit (.bool false)], args := [d1, d2] }
  | _ => none }
def DictFullWrongFalsely : Prop := dictFullRow.holds Try.pinned (OpenSpec.ofChange dictFullWrong)

/-- 'kraitlaw10.DictRows': WHATEVER THE INPUT: true; the input reads as it did. -/
def dictRowsSpec : ChangeSpec := { name := "dictRows", fn := fun _ => fun
  | [d] => { results := [.lit (.bool true)], args := [d] }
  | _ => none }
def dictRowsRow : OpenClaim := { program := "ytaghkidelbepnaa", sum := "0fb0a26fc46dcc7e36a51d6063403bb48583a77e06031d74c5d869f9182e5840", func := "krait/kraitlaw10.DictRows", spec := "dictRows", unfollowed := true, recurses := true, plainKeys := false, apart := false }
def DictRowsSaid : Prop := dictRowsRow.holds Try.pinned (OpenSpec.ofChange dictRowsSpec)

/-- ITS FALSE NEIGHBOUR: 'it returns false'. Refute it at one input. -/
def dictRowsWrong : ChangeSpec := { name := "dictRows", fn := fun _ => fun
  | [d] => { results := [.lit (.bool false)], args := [d] }
  | _ => none }
def DictRowsWrongFalsely : Prop := dictRowsRow.holds Try.pinned (OpenSpec.ofChange dictRowsWrong)

/-- 'kraitlaw10.DictApart': WHATEVER THE INPUT: true; the input reads as it did. -/
def dictApartSpec : ChangeSpec := { name := "dictApart", fn := fun _ => fun
  | [d1, d2] => { results := [.lit (.bool true)], args := [d1, d2] }
  | _ => none }
def dictApartRow : OpenClaim := { program := "ytaghkidelbepnaa", sum := "0fb0a26fc46dcc7e36a51d6063403bb48583a77e06031d74c5d869f9182e5840", func := "krait/kraitlaw10.DictApart", spec := "dictApart", unfollowed := true, recurses := true, plainKeys := false, apart := false }
def DictApartSaid : Prop := dictApartRow.holds Try.pinned (OpenSpec.ofChange dictApartSpec)

/-- ITS FALSE NEIGHBOUR: 'it returns false'. Refute it at one input. -/
def dictApartWrong : ChangeSpec := { name := "dictApart", fn := fun _ => fun
  | [d1, d2] => { results := [.lit (.bool false)], args := [d1, d2] }
  | _ => none }
def DictApartWrongFalsely : Prop := dictApartRow.holds Try.pinned (OpenSpec.ofChange dictApartWrong)

/- THE SECOND FORM. 'bulk': how many values and letters a reading holds, each counted each time it is reached (what is shared counts as often as it is met; a slice's spare places count too). A statement '..UptoSaid' is the law's where the arguments, and the package variables that the reading takes, are together of bulk at most 1048576: NARROWER than '..Said'. Prove '..Said' where nothing that the law and all that it calls make is longer than what came in: it says more and counts as full. Else prove '..UptoSaid'. A law counts once. -/
mutual
def uptoBulk {H : Type} : DataW H → Nat
  | .lit (.string bytes) => bytes.length + 1
  | .lit _ => 1
  | .nil => 1
  | .ptr d => uptoBulk d + 1
  | .slice elems spare => uptoBulkAll elems + uptoBulkAll spare + 1
  | .agg parts => uptoBulkAll parts + 1
  | .iface _ d => uptoBulk d + 1
  | .map entries => uptoBulkEntries entries + 1
  | .held _ => 1
def uptoBulkAll {H : Type} : List (DataW H) → Nat
  | [] => 0
  | d :: r => uptoBulk d + uptoBulkAll r
def uptoBulkEntries {H : Type} : List (Lit × DataW H) → Nat
  | [] => 0
  | x :: r => uptoBulkEntry x + uptoBulkEntries r
def uptoBulkEntry {H : Type} : Lit × DataW H → Nat
  | (.string bytes, d) => bytes.length + uptoBulk d + 1
  | (_, d) => uptoBulk d + 1
 end
def uptoSmall : (H : Type) → List (DataW H) → Bool := fun _ ds => decide (uptoBulkAll ds ≤ 1048576)
def OpenSpec.upto (s : _root_.Go.ChangeSpec) : _root_.Go.OpenSpec := { _root_.Go.OpenSpec.ofChange s with cond := some uptoSmall }

/-- 'kraitlaw10.DictPlays', WHERE WHAT IT READS IS OF BULK AT MOST 1048576: true; the input reads as it did. -/
def dictPlaysUptoRow : OpenClaim := { program := "ytaghkidelbepnaa", sum := "0fb0a26fc46dcc7e36a51d6063403bb48583a77e06031d74c5d869f9182e5840", func := "krait/kraitlaw10.DictPlays", spec := "dictPlays", unfollowed := true, recurses := true, plainKeys := false, apart := false, narrowed := true }
def DictPlaysUptoSaid : Prop := dictPlaysUptoRow.holds Try.pinned (OpenSpec.upto dictPlaysSpec)

/-- 'kraitlaw10.DictKeys', WHERE WHAT IT READS IS OF BULK AT MOST 1048576: true; the input reads as it did. -/
def dictKeysUptoRow : OpenClaim := { program := "ytaghkidelbepnaa", sum := "0fb0a26fc46dcc7e36a51d6063403bb48583a77e06031d74c5d869f9182e5840", func := "krait/kraitlaw10.DictKeys", spec := "dictKeys", unfollowed := true, recurses := true, plainKeys := false, apart := false, narrowed := true }
def DictKeysUptoSaid : Prop := dictKeysUptoRow.holds Try.pinned (OpenSpec.upto dictKeysSpec)

/-- 'kraitlaw10.DictBack', WHERE WHAT IT READS IS OF BULK AT MOST 1048576: true; the input reads as it did. -/
def dictBackUptoRow : OpenClaim := { program := "ytaghkidelbepnaa", sum := "0fb0a26fc46dcc7e36a51d6063403bb48583a77e06031d74c5d869f9182e5840", func := "krait/kraitlaw10.DictBack", spec := "dictBack", unfollowed := true, recurses := true, plainKeys := false, apart := false, narrowed := true }
def DictBackUptoSaid : Prop := dictBackUptoRow.holds Try.pinned (OpenSpec.upto dictBackSpec)

/-- 'kraitlaw10.DictOrder', WHERE WHAT IT READS IS OF BULK AT MOST 1048576: true; the input reads as it did. -/
def dictOrderUptoRow : OpenClaim := { program := "ytaghkidelbepnaa", sum := "0fb0a26fc46dcc7e36a51d6063403bb48583a77e06031d74c5d869f9182e5840", func := "krait/kraitlaw10.DictOrder", spec := "dictOrder", unfollowed := true, recurses := true, plainKeys := false, apart := false, narrowed := true }
def DictOrderUptoSaid : Prop := dictOrderUptoRow.holds Try.pinned (OpenSpec.upto dictOrderSpec)

/-- 'kraitlaw10.DictClones', WHERE WHAT IT READS IS OF BULK AT MOST 1048576: true; the input reads as it did. -/
def dictClonesUptoRow : OpenClaim := { program := "ytaghkidelbepnaa", sum := "0fb0a26fc46dcc7e36a51d6063403bb48583a77e06031d74c5d869f9182e5840", func := "krait/kraitlaw10.DictClones", spec := "dictClones", unfollowed := true, recurses := true, plainKeys := false, apart := false, narrowed := true }
def DictClonesUptoSaid : Prop := dictClonesUptoRow.holds Try.pinned (OpenSpec.upto dictClonesSpec)

/-- 'kraitlaw10.DictGoes', WHERE WHAT IT READS IS OF BULK AT MOST 1048576: true; the input reads as it did. -/
def dictGoesUptoRow : OpenClaim := { program := "ytaghkidelbepnaa", sum := "0fb0a26fc46dcc7e36a51d6063403bb48583a77e06031d74c5d869f9182e5840", func := "krait/kraitlaw10.DictGoes", spec := "dictGoes", unfollowed := true, recurses := true, plainKeys := false, apart := false, narrowed := true }
def DictGoesUptoSaid : Prop := dictGoesUptoRow.holds Try.pinned (OpenSpec.upto dictGoesSpec)

/-- 'kraitlaw10.DictFull', WHERE WHAT IT READS IS OF BULK AT MOST 1048576: true; the input reads as it did. -/
def dictFullUptoRow : OpenClaim := { program := "ytaghkidelbepnaa", sum := "0fb0a26fc46dcc7e36a51d6063403bb48583a77e06031d74c5d869f9182e5840", func := "krait/kraitlaw10.DictFull", spec := "dictFull", unfollowed := true, recurses := true, plainKeys := false, apart := false, narrowed := true }
def DictFullUptoSaid : Prop := dictFullUptoRow.holds Try.pinned (OpenSpec.upto dictFullSpec)

/-- 'kraitlaw10.DictRows', WHERE WHAT IT READS IS OF BULK AT MOST 1048576: true; the input reads as it did. -/
def dictRowsUptoRow : OpenClaim := { program := "ytaghkidelbepnaa", sum := "0fb0a26fc46dcc7e36a51d6063403bb48583a77e06031d74c5d869f9182e5840", func := "krait/kraitlaw10.DictRows", spec := "dictRows", unfollowed := true, recurses := true, plainKeys := false, apart := false, narrowed := true }
def DictRowsUptoSaid : Prop := dictRowsUptoRow.holds Try.pinned (OpenSpec.upto dictRowsSpec)

/-- 'kraitlaw10.DictApart', WHERE WHAT IT READS IS OF BULK AT MOST 1048576: true; the input reads as it did. -/
def dictApartUptoRow : OpenClaim := { program := "ytaghkidelbepnaa", sum := "0fb0a26fc46dcc7e36a51d6063403bb48583a77e06031d74c5d869f9182e5840", func := "krait/kraitlaw10.DictApart", spec := "dictApart", unfollowed := true, recurses := true, plainKeys := false, apart := false, narrowed := true }
def DictApartUptoSaid : Prop := dictApartUptoRow.holds Try.pinned (OpenSpec.upto dictApartSpec)

end Rows
end Go.Proofs.Ytaghkidelbepnaa
