/-
  Trees, plain: what each kind of a node must be; whether a tree is right.
-/
import Derived.Test.YtkmmcphiijolkaaDoorTreeA
set_option linter.unusedVariables false
set_option linter.unusedSimpArgs false
namespace Go.Proofs.YtkmmcphiijolkaaDoor
open Go.RowKit Go.Shelf
namespace Tr
abbrev Test := List NodeD → NodeD → Bool
def isExpr (op : Int) : Bool := decide (1 ≤ op) && decide (op ≤ 21)
def isStmt (op : Int) : Bool := (decide (42 ≤ op) && decide (op ≤ 55)) || (decide (58 ≤ op) && decide (op ≤ 62))
def isTarget (op : Int) : Bool := decide (op = 6) || decide (op = 18) || decide (op = 19)
def nodeAt (t : List NodeD) (k : Int) : NodeD := (t[k.toNat]?).getD (0, 0, [], 0, [])
def tExpr : Test := fun _ x => isExpr x.1
def tStmt : Test := fun _ x => isStmt x.1
def tTarget : Test := fun _ x => isTarget x.1
def tOp (k : Int) : Test := fun _ x => decide (x.1 = k)
def tWide : Test := fun t x => if x.1 = 8 then x.2.2.2.2.all (fun k => isTarget (nodeAt t k).1) && decide (0 < x.2.2.2.2.length) else isTarget x.1
def tNumber : Test := fun _ x => decide (x.2.2.1 = []) && decide (0 ≤ x.2.2.2.1) && decide (x.2.2.2.2.length = 0)
def tEven : Test := fun _ x => decide (x.2.2.2.2.length % 2 = 0)
def defs (t : List NodeD) : Bool → List Int → Bool
  | _, [] => true
  | seen, k :: ks => if seen = true ∧ (nodeAt t k).2.2.2.2.length = 0 then false else defs t (decide (0 < (nodeAt t k).2.2.2.2.length)) ks
def tDefs : Test := fun t x => defs t false x.2.2.2.2.dropLast
def guards (t : List NodeD) : Bool → List Int → Bool
  | _, [] => true
  | ta, k :: ks => if ta = true ∧ (nodeAt t k).1 = 56 then false else guards t (decide ((nodeAt t k).2.2.2.2.length = 1)) ks
def tGuard : Test := fun t x => guards t false (x.2.2.2.2.drop 1) && decide (1 < x.2.2.2.2.length)
def tBoth (a b : Test) : Test := fun t x => a t x && b t x
def tEither (a b : Test) : Test := fun t x => a t x || b t x
/-- How many of a row's first ones are such, so many at most. -/
def greedy (ok : Int → Bool) : Nat → List Int → Nat
  | _, [] => 0
  | m, k :: ks => if 0 < m ∧ ok k = true then greedy ok (m - 1) ks + 1 else 0
/-- A part: what each is; how many at least; how many at most. -/
abbrev PartD := Test × Nat × Nat
def fits (t : List NodeD) : List PartD → List Int → Bool
  | [], r => decide (r.length = 0)
  | p :: ps, r => if greedy (fun k => p.1 t (nodeAt t k)) p.2.2 r < p.2.1 then false else fits t ps (r.drop (greedy (fun k => p.1 t (nodeAt t k)) p.2.2 r))
def tOf (f : Sp.Bs → Bool) (ps : List PartD) : Test := fun t x => decide (x.2.2.2.1 = 0) && f x.2.2.1 && fits t ps x.2.2.2.2
def pOne (T : Test) : PartD := (T, 1, 1)
def pMay (T : Test) : PartD := (T, 0, 1)
def pMany (T : Test) : PartD := (T, 0, 9223372036854775807)
def sEmpty (s : Sp.Bs) : Bool := decide (s = [])
def sShort (s : Sp.Bs) : Bool := decide (s.length ≤ 65536)
def sName (s : Sp.Bs) : Bool := Sp.nm s
def sNameE (s : Sp.Bs) : Bool := decide (s = []) || Sp.nm s
def sArith (s : Sp.Bs) : Bool := decide (s = [43]) || decide (s = [45]) || decide (s = [42]) || decide (s = [47, 47]) || decide (s = [37]) || decide (s = [42, 42])
def sComp (s : Sp.Bs) : Bool := decide (s = [61, 61]) || decide (s = [33, 61]) || decide (s = [60]) || decide (s = [60, 61]) || decide (s = [62]) || decide (s = [62, 61]) || decide (s = [105, 110]) || decide (s = [110, 111, 116, 32, 105, 110]) || decide (s = [105, 115]) || decide (s = [105, 115, 32, 110, 111, 116])
def cutAt (c : UInt8) : Sp.Bs → Sp.Bs × Option Sp.Bs
  | [] => ([], none)
  | x :: l => if x = c then ([], some l) else (x :: (cutAt c l).1, (cutAt c l).2)
def kBare := tOf sEmpty []
def kUnary := tOf sEmpty [pOne tExpr]
def kBinary := tOf sEmpty [pOne tExpr, pOne tExpr]
def kTernary := tOf sEmpty [pOne tExpr, pOne tExpr, pOne tExpr]
def kRow := tOf sEmpty [pMany tExpr]
def tParam := tOp 22
def tBlock := tOp 41
def tHandler := tOp 56
def tFinal := tOp 57
/-- What a node of a kind must be; sNames: whether a text is names. -/
def kindOf (sNames : Sp.Bs → Bool) : List (Int × Test) := [
  (1, kBare), (2, kBare), (3, kBare), (4, tNumber), (5, tOf sShort []), (6, tOf sName []), (7, kRow), (8, kRow), (9, tBoth kRow tEven), (10, kUnary), (11, kUnary),
  (12, tOf sArith [pOne tExpr, pOne tExpr]), (13, tOf sComp [pOne tExpr, pOne tExpr]), (14, kBinary), (15, kBinary), (16, kTernary), (17, tOf sEmpty [pOne tExpr, pMany tExpr]),
  (18, tOf sName [pOne tExpr]), (19, kBinary), (20, kTernary), (21, tBoth (tOf sEmpty [pMany tParam, pOne tExpr]) tDefs), (22, tOf sName [pMay tExpr]),
  (40, tOf sEmpty [pMany tStmt]), (41, tOf sEmpty [pOne tStmt, pMany tStmt]), (42, kUnary), (43, tOf sEmpty [pOne tWide, pOne tExpr]), (44, tOf sArith [pOne tTarget, pOne tExpr]),
  (45, tOf sEmpty [pOne tExpr, pOne tBlock, pMay tBlock]), (46, tOf sEmpty [pOne tExpr, pOne tBlock]), (47, tOf sEmpty [pOne tWide, pOne tExpr, pOne tBlock]), (48, kBare), (49, kBare), (50, kBare),
  (51, tBoth (tOf sName [pMany tParam, pOne tBlock]) tDefs), (52, tOf sName [pMany tExpr, pOne tBlock]), (53, tOf sEmpty [pMay tExpr]), (54, tOf sEmpty [pMay tExpr]),
  (55, tBoth (tOf sEmpty [pOne tBlock, pMany tHandler, pMay tFinal]) tGuard), (56, tEither (tOf sNameE [pOne tExpr, pOne tBlock]) (tOf sEmpty [pOne tBlock])), (57, tOf sEmpty [pOne tBlock]),
  (58, tOf sNames []), (59, tOf sNames []), (60, tOf sEmpty [pOne tTarget]), (61, tOf sEmpty [pOne tExpr, pMay tExpr]), (62, kUnary)]
def look {α : Type} : List (Int × α) → Int → Option α
  | [], _ => none
  | (k, a) :: r, x => if x = k then some a else look r x
def upd (f : Nat → Int) (k : Nat) (v : Int) : Nat → Int := fun j => if j = k then v else f j
/-- The greatest of a start and of those of kids. -/
def deepest (f : Nat → Nat) : Nat → List Int → Nat
  | a, [] => a
  | a, k :: ks => deepest f (max a (f k.toNat)) ks
/-- Are expressions and blocks not too deep, from a node on? -/
def shalGo : Nat → (Nat → Nat) → (Nat → Nat) → List NodeD → Bool
  | _, _, _, [] => true
  | i, dp, bl, x :: xs =>
    if 40 < deepest bl 0 x.2.2.2.2 + (if x.1 = 41 then 1 else 0) ∨ (40 < deepest dp 0 x.2.2.2.2 + 1 ∧ isExpr x.1 = true) then false
    else shalGo (i + 1) (fun j => if j = i then deepest dp 0 x.2.2.2.2 + 1 else dp j) (fun j => if j = i then deepest bl 0 x.2.2.2.2 + (if x.1 = 41 then 1 else 0) else bl j) xs
def shallow (t : List NodeD) : Bool := shalGo 0 (fun _ => 0) (fun _ => 0) t
def kinded (sNames : Sp.Bs → Bool) (t : List NodeD) (x : NodeD) : Bool := match look (kindOf sNames) x.1 with
  | none => false
  | some T => T t x
/-- Is a tree right? -/
def rightT (sNames : Sp.Bs → Bool) (t : List NodeD) : Bool :=
  tied t && decide ((t.getLast?.map (fun x => x.1)) = some 40) && t.all (kinded sNames t) && shallow t
end Tr
open Tr
def awakeT : List NodeD := [(6, 0, [97], 0, []), (4, 0, [], 2, []), (12, 0, [43], 0, [0, 1]), (42, 0, [], 0, [2]), (40, 0, [], 0, [3])]
theorem right_awake (f : Sp.Bs → Bool) : rightT f awakeT = true := by rfl
end Go.Proofs.YtkmmcphiijolkaaDoor
