/-
  Texts of the tree package put behind one another: Shelf, Spec, B, W, K, N.
-/
import Derived.Shelf.Strings.Search1
import Derived.Shelf.Strings.Search2
import Derived.Shelf.Strings.Search3
import Derived.Shelf.LaysM
import Derived.Shelf.Strings.Shaped
import Derived.Shelf.Unicode.DecodeSlow
import Derived.Test.YtkmmcphiijolkaaGreatDoorProg
import Derived.Lib.ParseIntB
import Derived.Lib.CutLaws
import Derived.WalkKit
import Derived.BigCall
import Derived.WalkSpells
import Derived.WalkLawsBesides
import Derived.Lib.OthersKept
namespace Go.Proofs
open Go.Shelf
def Tryz.lays217_ren : Go.Shelf.Ren := ⟨fun | 217 => 144 | 266 => 150 | n => n, fun | 9 => 9 | 5 => 5 | 3 => 3 | n => n, fun | n => n⟩
theorem Tryz.lays217 : Go.Proofs.Lays.n217 Tryz.prog Tryz.lays217_ren := {
  mixed := by kernel_rfl
  f217 := Tryz.func144.trans (congrArg some (by kernel_rfl))
  f266 := Tryz.func150.trans (congrArg some (by kernel_rfl))
  t3 := Tryz.underlying3
  a3 := Tryz.isAgg3
  z3 := Tryz.sizeOf3
  v3 := Tryz.zeroValue3
  t5 := Tryz.underlying5
  a5 := Tryz.isAgg5
  z5 := Tryz.sizeOf5
  v5 := Tryz.zeroValue5
  t9 := Tryz.underlying9
  a9 := Tryz.isAgg9
  z9 := Tryz.sizeOf9
  v9 := Tryz.zeroValue9 }
open Go.RowKit Go.Lib in
/-- internal/stringslite.IndexByte (what strings.IndexByte calls): IT RETURNS 'Lib.indexByte s c'; the world is as it was. (LAID: no walk: one application.) -/
theorem Tryz.stringslite_IndexByte (s : ByteArray) (c : Int) (w : World) :
    Calls Tryz.prog 144 #[.string s, .int .u8 c] w fun e w' => e = .returned (.int .i64 (Lib.indexByte s.data.toList c.toNat.toUInt8)) ∧ w' = w := Any.stringslite_IndexByte Tryz.lays217 s c w
def Tryz.lays224_ren : Go.Shelf.Ren := ⟨fun | 224 => 146 | n => n, fun | 3 => 3 | n => n, fun | n => n⟩
theorem Tryz.lays224 : Go.Proofs.Lays.n224 Tryz.prog Tryz.lays224_ren := {
  mixed := by kernel_rfl
  f224 := Tryz.func146.trans (congrArg some (by kernel_rfl))
  t3 := Tryz.underlying3
  a3 := Tryz.isAgg3
  z3 := Tryz.sizeOf3
  v3 := Tryz.zeroValue3 }
open Go.RowKit Go.Lib in
/-- internal/bytealg.Cutover: "Cutover reports the number of failures of IndexByte we should tolerate before switching over to Index. n is the number of bytes processed so far.": on amd64: (n + 16) / 8. (LAID: no walk: one application.) -/
theorem Tryz.bytealg_Cutover (n : Int) (h0 : 0 ≤ n) (h1 : n < 4611686018427387904) (w : World) :
    Calls Tryz.prog 146 #[.int .i64 n] w fun e w' => e = .returned (.int .i64 ((n + 16) / 8)) ∧ w' = w := Any.bytealg_Cutover Tryz.lays224 n h0 h1 w
def Tryz.lays314_ren : Go.Shelf.Ren := ⟨fun | 314 => 151 | n => n, fun | 9 => 9 | 51 => 133 | 3 => 3 | 4 => 4 | 5 => 5 | 46 => 120 | n => n, fun | n => n⟩
theorem Tryz.lays314 : Go.Proofs.Lays.n314 Tryz.prog Tryz.lays314_ren := {
  mixed := by kernel_rfl
  f314 := Tryz.func151.trans (congrArg some (by kernel_rfl))
  t3 := Tryz.underlying3
  a3 := Tryz.isAgg3
  z3 := Tryz.sizeOf3
  v3 := Tryz.zeroValue3
  t4 := Tryz.underlying4
  a4 := Tryz.isAgg4
  z4 := Tryz.sizeOf4
  v4 := Tryz.zeroValue4
  t5 := Tryz.underlying5
  a5 := Tryz.isAgg5
  z5 := Tryz.sizeOf5
  v5 := Tryz.zeroValue5
  t9 := Tryz.underlying9
  a9 := Tryz.isAgg9
  z9 := Tryz.sizeOf9
  v9 := Tryz.zeroValue9
  t46 := Tryz.underlying120
  a46 := Tryz.isAgg120
  z46 := Tryz.sizeOf120
  v46 := Tryz.zeroValue120
  t51 := Tryz.underlying133
  a51 := Tryz.isAgg133
  z51 := Tryz.sizeOf133
  v51 := Tryz.zeroValue133 }
open Go.RowKit Go.Lib in
/-- hashStr: "returns the hash and the appropriate multiplicative factor for use in Rabin-Karp algorithm": THE HASH OF ALL OF sep, AND 16777619 ^ len(sep), both in uint32. (LAID: no walk: one application.) -/
theorem Tryz.bytealg_hashStr (sep : ByteArray) (hs : sep.size < 4294967281) (w : World) :
    Calls Tryz.prog 151 #[.string sep] w fun e w' => e = .returned (.tuple #[.int .u32 (RK.H sep.data.toList % 4294967296), .int .u32 (16777619 ^ sep.size % 4294967296)]) ∧ w' = w := Any.bytealg_hashStr Tryz.lays314 sep hs w
def Tryz.lays267_ren : Go.Shelf.Ren := ⟨fun | 267 => 147 | 314 => 151 | n => n, fun | 9 => 9 | 3 => 3 | 146 => 160 | 51 => 133 | 4 => 4 | 5 => 5 | 46 => 120 | n => n, fun | n => n⟩
theorem Tryz.lays267 : Go.Proofs.Lays.n267 Tryz.prog Tryz.lays267_ren := {
  mixed := by kernel_rfl
  f267 := Tryz.func147.trans (congrArg some (by kernel_rfl))
  f314 := Tryz.func151.trans (congrArg some (by kernel_rfl))
  t3 := Tryz.underlying3
  a3 := Tryz.isAgg3
  z3 := Tryz.sizeOf3
  v3 := Tryz.zeroValue3
  t4 := Tryz.underlying4
  a4 := Tryz.isAgg4
  z4 := Tryz.sizeOf4
  v4 := Tryz.zeroValue4
  t5 := Tryz.underlying5
  a5 := Tryz.isAgg5
  z5 := Tryz.sizeOf5
  v5 := Tryz.zeroValue5
  t9 := Tryz.underlying9
  a9 := Tryz.isAgg9
  z9 := Tryz.sizeOf9
  v9 := Tryz.zeroValue9
  t46 := Tryz.underlying120
  a46 := Tryz.isAgg120
  z46 := Tryz.sizeOf120
  v46 := Tryz.zeroValue120
  t51 := Tryz.underlying133
  a51 := Tryz.isAgg133
  z51 := Tryz.sizeOf133
  v51 := Tryz.zeroValue133
  t146 := Tryz.underlying160
  a146 := Tryz.isAgg160
  z146 := Tryz.sizeOf160
  v146 := Tryz.zeroValue160 }
open Go.RowKit Go.Lib in
theorem Tryz.bytealg_IndexRabinKarp (s sep : ByteArray) (h1 : 1 ≤ sep.size) (h2 : sep.size ≤ s.size) (hs : s.size < 4294967281) (w : World) :
    Calls Tryz.prog 147 #[.string s, .string sep] w fun e w' => e = .returned (.int .i64 (Lib.index s.data.toList sep.data.toList)) ∧ w' = w := Any.bytealg_IndexRabinKarp Tryz.lays267 s sep h1 h2 hs w
def Tryz.lays219_ren : Go.Shelf.Ren := ⟨fun | 219 => 138 | 217 => 144 | 225 => 145 | 224 => 146 | 267 => 147 | 266 => 150 | 314 => 151 | n => n, fun | 9 => 9 | 3 => 3 | 4 => 4 | 5 => 5 | 46 => 120 | 146 => 160 | 51 => 133 | n => n, fun | 1 => 3 | n => n⟩
theorem Tryz.lays219 : Go.Proofs.Lays.n219 Tryz.prog Tryz.lays219_ren := {
  mixed := by kernel_rfl
  f217 := Tryz.func144.trans (congrArg some (by kernel_rfl))
  f219 := Tryz.func138.trans (congrArg some (by kernel_rfl))
  f224 := Tryz.func146.trans (congrArg some (by kernel_rfl))
  f225 := Tryz.func145.trans (congrArg some (by kernel_rfl))
  f266 := Tryz.func150.trans (congrArg some (by kernel_rfl))
  f267 := Tryz.func147.trans (congrArg some (by kernel_rfl))
  f314 := Tryz.func151.trans (congrArg some (by kernel_rfl))
  t3 := Tryz.underlying3
  a3 := Tryz.isAgg3
  z3 := Tryz.sizeOf3
  v3 := Tryz.zeroValue3
  t4 := Tryz.underlying4
  a4 := Tryz.isAgg4
  z4 := Tryz.sizeOf4
  v4 := Tryz.zeroValue4
  t5 := Tryz.underlying5
  a5 := Tryz.isAgg5
  z5 := Tryz.sizeOf5
  v5 := Tryz.zeroValue5
  t9 := Tryz.underlying9
  a9 := Tryz.isAgg9
  z9 := Tryz.sizeOf9
  v9 := Tryz.zeroValue9
  t46 := Tryz.underlying120
  a46 := Tryz.isAgg120
  z46 := Tryz.sizeOf120
  v46 := Tryz.zeroValue120
  t51 := Tryz.underlying133
  a51 := Tryz.isAgg133
  z51 := Tryz.sizeOf133
  v51 := Tryz.zeroValue133
  t146 := Tryz.underlying160
  a146 := Tryz.isAgg160
  z146 := Tryz.sizeOf160
  v146 := Tryz.zeroValue160
  g1 := by kernel_rfl }
open Go.RowKit Go.Lib in
/-- internal/stringslite.Index (what strings.Index calls) AT A substr OF ONE BYTE c: IT RETURNS 'Lib.indexByte s c'; the world is as it was. (LAID: no walk: one application.) -/
theorem Tryz.stringslite_Index_one (s : ByteArray) (c : UInt8) (w : World) :
    Calls Tryz.prog 138 #[.string s, .string ⟨#[c]⟩] w fun e w' => e = .returned (.int .i64 (Lib.indexByte s.data.toList c)) ∧ w' = w := Any.stringslite_Index_one Tryz.lays219 s c w
open Go.RowKit Go.Lib in
/-- internal/stringslite.Index (what strings.Index calls) AT A substr OF WHATEVER LENGTH: IT RETURNS 'Lib.index s substr'; the world is as it was. 'm': what internal/bytealg.MaxLen holds: whatever. (LAID: no walk: one application.) -/
theorem Tryz.stringslite_Index (s sub : ByteArray) (m : Int) (w : World) (hs : s.size < 4294967281) (hm : w.cell? ⟨3, 0, none⟩ = some (.int .i64 m)) :
    Calls Tryz.prog 138 #[.string s, .string sub] w fun e w' => e = .returned (.int .i64 (Lib.index s.data.toList sub.data.toList)) ∧ w' = w := Any.stringslite_Index Tryz.lays219 s sub m w hs hm
def Tryz.lays143_ren : Go.Shelf.Ren := ⟨fun | 143 => 126 | 219 => 138 | 217 => 144 | 225 => 145 | 224 => 146 | 267 => 147 | 266 => 150 | 314 => 151 | n => n, fun | 9 => 9 | 3 => 3 | 4 => 4 | 5 => 5 | 46 => 120 | 146 => 160 | 51 => 133 | n => n, fun | 1 => 3 | n => n⟩
theorem Tryz.lays143 : Go.Proofs.Lays.n143 Tryz.prog Tryz.lays143_ren := {
  mixed := by kernel_rfl
  f143 := Tryz.func126.trans (congrArg some (by kernel_rfl))
  f217 := Tryz.func144.trans (congrArg some (by kernel_rfl))
  f219 := Tryz.func138.trans (congrArg some (by kernel_rfl))
  f224 := Tryz.func146.trans (congrArg some (by kernel_rfl))
  f225 := Tryz.func145.trans (congrArg some (by kernel_rfl))
  f266 := Tryz.func150.trans (congrArg some (by kernel_rfl))
  f267 := Tryz.func147.trans (congrArg some (by kernel_rfl))
  f314 := Tryz.func151.trans (congrArg some (by kernel_rfl))
  t3 := Tryz.underlying3
  a3 := Tryz.isAgg3
  z3 := Tryz.sizeOf3
  v3 := Tryz.zeroValue3
  t4 := Tryz.underlying4
  a4 := Tryz.isAgg4
  z4 := Tryz.sizeOf4
  v4 := Tryz.zeroValue4
  t5 := Tryz.underlying5
  a5 := Tryz.isAgg5
  z5 := Tryz.sizeOf5
  v5 := Tryz.zeroValue5
  t9 := Tryz.underlying9
  a9 := Tryz.isAgg9
  z9 := Tryz.sizeOf9
  v9 := Tryz.zeroValue9
  t46 := Tryz.underlying120
  a46 := Tryz.isAgg120
  z46 := Tryz.sizeOf120
  v46 := Tryz.zeroValue120
  t51 := Tryz.underlying133
  a51 := Tryz.isAgg133
  z51 := Tryz.sizeOf133
  v51 := Tryz.zeroValue133
  t146 := Tryz.underlying160
  a146 := Tryz.isAgg160
  z146 := Tryz.sizeOf160
  v146 := Tryz.zeroValue160
  g1 := by kernel_rfl }
open Go.RowKit Go.Lib in
/-- strings.Index: "Index returns the index of the first instance of substr in s, or -1 if substr is not present in s.": AT A substr OF ONE BYTE c: IT RETURNS 'Lib.indexByte s c'; the world is as it was. (LAID: no walk: one application.) -/
theorem Tryz.strings_Index_one (s : ByteArray) (c : UInt8) (w : World) :
    Calls Tryz.prog 126 #[.string s, .string ⟨#[c]⟩] w fun e w' => e = .returned (.int .i64 (Lib.indexByte s.data.toList c)) ∧ w' = w := Any.strings_Index_one Tryz.lays143 s c w
open Go.RowKit Go.Lib in
/-- strings.Index: "Index returns the index of the first instance of substr in s, or -1 if substr is not present in s.": IT RETURNS 'Lib.index s substr'; the world is as it was. (LAID: no walk: one application.) -/
theorem Tryz.strings_Index (s sub : ByteArray) (m : Int) (w : World) (hs : s.size < 4294967281) (hm : w.cell? ⟨3, 0, none⟩ = some (.int .i64 m)) :
    Calls Tryz.prog 126 #[.string s, .string sub] w fun e w' => e = .returned (.int .i64 (Lib.index s.data.toList sub.data.toList)) ∧ w' = w := Any.strings_Index Tryz.lays143 s sub m w hs hm
def Tryz.laysM219_ren : Go.Shelf.Ren := ⟨fun | 219 => 138 | 217 => 144 | 225 => 145 | 224 => 146 | 267 => 147 | 266 => 150 | 314 => 151 | n => n, fun | 9 => 9 | 3 => 3 | 4 => 4 | 5 => 5 | 46 => 120 | 146 => 160 | 51 => 133 | n => n, fun | 1 => 3 | n => n⟩
theorem Tryz.laysM219 : Go.Proofs.LaysM.n219 Tryz.prog Tryz.laysM219_ren := {
  mixed := by kernel_rfl
  f217 := Tryz.func144.trans (congrArg some (by kernel_rfl))
  f219 := Tryz.func138.trans (congrArg some (by kernel_rfl))
  f224 := Tryz.func146.trans (congrArg some (by kernel_rfl))
  f225 := Tryz.func145.trans (congrArg some (by kernel_rfl))
  f266 := Tryz.func150.trans (congrArg some (by kernel_rfl))
  f267 := Tryz.func147.trans (congrArg some (by kernel_rfl))
  f314 := Tryz.func151.trans (congrArg some (by kernel_rfl))
  t3 := Tryz.underlying3
  a3 := Tryz.isAgg3
  z3 := Tryz.sizeOf3
  v3 := Tryz.zeroValue3
  t4 := Tryz.underlying4
  a4 := Tryz.isAgg4
  z4 := Tryz.sizeOf4
  v4 := Tryz.zeroValue4
  t5 := Tryz.underlying5
  a5 := Tryz.isAgg5
  z5 := Tryz.sizeOf5
  v5 := Tryz.zeroValue5
  t9 := Tryz.underlying9
  a9 := Tryz.isAgg9
  z9 := Tryz.sizeOf9
  v9 := Tryz.zeroValue9
  t46 := Tryz.underlying120
  a46 := Tryz.isAgg120
  z46 := Tryz.sizeOf120
  v46 := Tryz.zeroValue120
  t51 := Tryz.underlying133
  a51 := Tryz.isAgg133
  z51 := Tryz.sizeOf133
  v51 := Tryz.zeroValue133
  t146 := Tryz.underlying160
  a146 := Tryz.isAgg160
  z146 := Tryz.sizeOf160
  v146 := Tryz.zeroValue160
  g1 := by kernel_rfl
  i3 := by kernel_rfl
  i4 := by kernel_rfl
  i5 := by kernel_rfl
  i9 := by kernel_rfl
  i46 := by kernel_rfl
  i51 := by kernel_rfl
  i146 := by kernel_rfl
  m1 := by kernel_rfl
  s1_3 := fun w h => Go.Proofs.cell_of_shapedOpen_int (zero := #[.int .i64 0]) (t := 3) h (of_decide_eq_true (by kernel_rfl)) (by kernel_rfl) rfl (by kernel_rfl) (by kernel_rfl) Tryz.underlying3 }
open Go.RowKit Go.Lib in
theorem Tryz.stringslite_Index_shaped (s sub : ByteArray) (w : World) (h : w.ShapedOpen Tryz.prog) (hs : s.size < 4294967281) :
    Calls Tryz.prog 138 #[.string s, .string sub] w fun e w' => e = .returned (.int .i64 (Lib.index s.data.toList sub.data.toList)) ∧ w' = w := Any.stringslite_Index_shaped Tryz.laysM219 s sub w h hs
def Tryz.laysM143_ren : Go.Shelf.Ren := ⟨fun | 143 => 126 | 219 => 138 | 217 => 144 | 225 => 145 | 224 => 146 | 267 => 147 | 266 => 150 | 314 => 151 | n => n, fun | 9 => 9 | 3 => 3 | 4 => 4 | 5 => 5 | 46 => 120 | 146 => 160 | 51 => 133 | n => n, fun | 1 => 3 | n => n⟩
theorem Tryz.laysM143 : Go.Proofs.LaysM.n143 Tryz.prog Tryz.laysM143_ren := {
  mixed := by kernel_rfl
  f143 := Tryz.func126.trans (congrArg some (by kernel_rfl))
  f217 := Tryz.func144.trans (congrArg some (by kernel_rfl))
  f219 := Tryz.func138.trans (congrArg some (by kernel_rfl))
  f224 := Tryz.func146.trans (congrArg some (by kernel_rfl))
  f225 := Tryz.func145.trans (congrArg some (by kernel_rfl))
  f266 := Tryz.func150.trans (congrArg some (by kernel_rfl))
  f267 := Tryz.func147.trans (congrArg some (by kernel_rfl))
  f314 := Tryz.func151.trans (congrArg some (by kernel_rfl))
  t3 := Tryz.underlying3
  a3 := Tryz.isAgg3
  z3 := Tryz.sizeOf3
  v3 := Tryz.zeroValue3
  t4 := Tryz.underlying4
  a4 := Tryz.isAgg4
  z4 := Tryz.sizeOf4
  v4 := Tryz.zeroValue4
  t5 := Tryz.underlying5
  a5 := Tryz.isAgg5
  z5 := Tryz.sizeOf5
  v5 := Tryz.zeroValue5
  t9 := Tryz.underlying9
  a9 := Tryz.isAgg9
  z9 := Tryz.sizeOf9
  v9 := Tryz.zeroValue9
  t46 := Tryz.underlying120
  a46 := Tryz.isAgg120
  z46 := Tryz.sizeOf120
  v46 := Tryz.zeroValue120
  t51 := Tryz.underlying133
  a51 := Tryz.isAgg133
  z51 := Tryz.sizeOf133
  v51 := Tryz.zeroValue133
  t146 := Tryz.underlying160
  a146 := Tryz.isAgg160
  z146 := Tryz.sizeOf160
  v146 := Tryz.zeroValue160
  g1 := by kernel_rfl
  i3 := by kernel_rfl
  i4 := by kernel_rfl
  i5 := by kernel_rfl
  i9 := by kernel_rfl
  i46 := by kernel_rfl
  i51 := by kernel_rfl
  i146 := by kernel_rfl
  m1 := by kernel_rfl
  s1_3 := fun w h => Go.Proofs.cell_of_shapedOpen_int (zero := #[.int .i64 0]) (t := 3) h (of_decide_eq_true (by kernel_rfl)) (by kernel_rfl) rfl (by kernel_rfl) (by kernel_rfl) Tryz.underlying3 }
open Go.RowKit Go.Lib in
theorem Tryz.strings_Index_shaped (s sub : ByteArray) (w : World) (h : w.ShapedOpen Tryz.prog) (hs : s.size < 4294967281) :
    Calls Tryz.prog 126 #[.string s, .string sub] w fun e w' => e = .returned (.int .i64 (Lib.index s.data.toList sub.data.toList)) ∧ w' = w := Any.strings_Index_shaped Tryz.laysM143 s sub w h hs
def Tryz.lays260_ren : Go.Shelf.Ren := ⟨fun | 260 => 137 | n => n, fun | 9 => 9 | 21 => 21 | 3 => 3 | 4 => 4 | 5 => 5 | 119 => 155 | 0 => 0 | 46 => 120 | 139 => 158 | 138 => 157 | n => n, fun | 3 => 1 | 4 => 2 | n => n⟩
theorem Tryz.lays260 : Go.Proofs.Lays.n260 Tryz.prog Tryz.lays260_ren := {
  mixed := by kernel_rfl
  f260 := Tryz.func137.trans (congrArg some (by kernel_rfl))
  t0 := Tryz.underlying0
  a0 := Tryz.isAgg0
  z0 := Tryz.sizeOf0
  v0 := Tryz.zeroValue0
  t3 := Tryz.underlying3
  a3 := Tryz.isAgg3
  z3 := Tryz.sizeOf3
  v3 := Tryz.zeroValue3
  t4 := Tryz.underlying4
  a4 := Tryz.isAgg4
  z4 := Tryz.sizeOf4
  v4 := Tryz.zeroValue4
  t5 := Tryz.underlying5
  a5 := Tryz.isAgg5
  z5 := Tryz.sizeOf5
  v5 := Tryz.zeroValue5
  t9 := Tryz.underlying9
  a9 := Tryz.isAgg9
  z9 := Tryz.sizeOf9
  v9 := Tryz.zeroValue9
  t21 := Tryz.underlying21
  a21 := Tryz.isAgg21
  z21 := Tryz.sizeOf21
  v21 := Tryz.zeroValue21
  t46 := Tryz.underlying120
  a46 := Tryz.isAgg120
  z46 := Tryz.sizeOf120
  v46 := Tryz.zeroValue120
  t119 := Tryz.underlying155
  a119 := Tryz.isAgg155
  z119 := Tryz.sizeOf155
  t138 := Tryz.underlying157
  a138 := Tryz.isAgg157
  z138 := Tryz.sizeOf157
  v138 := Tryz.zeroValue157
  t139 := Tryz.underlying158
  a139 := Tryz.isAgg158
  z139 := Tryz.sizeOf158
  v139 := Tryz.zeroValue158
  g3 := by kernel_rfl
  g4 := by kernel_rfl }
open Go.RowKit Go.Lib in
theorem Tryz.utf8_decodeRuneInStringSlow (s : ByteArray) (w : World) (hT : Lib.Utf8Tabs 1 2 w) :
    Calls Tryz.prog 137 #[.string s] w fun e w' => e = .returned (.tuple #[.int .i32 (Lib.decodeGo s).1, .int .i64 (Lib.decodeGo s).2]) ∧ Below w.heap.size w w' := Any.utf8_decodeRuneInStringSlow Tryz.lays260 s w hT
end Go.Proofs

namespace Go.Proofs.YtkmmcphiijolkaaGreatDoor
namespace Sp

abbrev Bs := List UInt8

def isDig (c : UInt8) : Bool := decide (48 ≤ c.toNat) && decide (c.toNat ≤ 57)
def isLet (c : UInt8) : Bool := (decide (65 ≤ c.toNat) && decide (c.toNat ≤ 90)) || (decide (97 ≤ c.toNat) && decide (c.toNat ≤ 122)) || decide (c.toNat = 95)
def isWd (c : UInt8) : Bool := isLet c || isDig c
def wordLen : Bs → Nat
  | [] => 0
  | c :: r => if isWd c then wordLen r + 1 else 0

theorem wordLen_le : ∀ l : Bs, wordLen l ≤ l.length
  | [] => Nat.le_refl _
  | c :: r => by
    unfold wordLen
    have := wordLen_le r
    split <;> simp <;> omega

def kws : List Bs := [[78, 111, 110, 101], [84, 114, 117, 101], [70, 97, 108, 115, 101], [97, 110, 100], [111, 114], [110, 111, 116], [105, 102], [101, 108, 115, 101], [101, 108, 105, 102], [119, 104, 105, 108, 101], [102, 111, 114], [105, 110], [105, 115], [98, 114, 101, 97, 107], [99, 111, 110, 116, 105, 110, 117, 101], [112, 97, 115, 115], [100, 101, 102], [99, 108, 97, 115, 115], [114, 101, 116, 117, 114, 110], [114, 97, 105, 115, 101], [116, 114, 121], [101, 120, 99, 101, 112, 116], [97, 115], [102, 105, 110, 97, 108, 108, 121], [103, 108, 111, 98, 97, 108], [110, 111, 110, 108, 111, 99, 97, 108], [100, 101, 108], [97, 115, 115, 101, 114, 116], [121, 105, 101, 108, 100], [108, 97, 109, 98, 100, 97]]
def kw (l : Bs) : Bool := kws.contains l
def nm (l : Bs) : Bool :=
  match l with
  | [] => false
  | c :: _ => isLet c && decide (wordLen l = l.length) && !kw l

def hexLow (n : Nat) : UInt8 := UInt8.ofNat (if n < 10 then 48 + n else 87 + n)
def quoteB (c : UInt8) : Bs :=
  if c.toNat = 10 then [92, 110]
  else if c.toNat = 9 then [92, 116]
  else if c.toNat = 92 ∨ c.toNat = 39 then [92, c]
  else if c.toNat < 32 ∨ 126 < c.toNat then [92, 120, hexLow (c.toNat / 16), hexLow (c.toNat % 16)]
  else [c]
def quote (l : Bs) : Bs := 39 :: (l.flatMap quoteB ++ [39])

/-- A digit of sixteen. -/
def hexv (c : UInt8) : Option Nat :=
  if 48 ≤ c.toNat ∧ c.toNat ≤ 57 then some (c.toNat - 48)
  else if 97 ≤ c.toNat ∧ c.toNat ≤ 102 then some (c.toNat - 87)
  else if 65 ≤ c.toNat ∧ c.toNat ≤ 70 then some (c.toNat - 55)
  else none
/-- What a letter behind a backslash says. -/
def simp1 (c : UInt8) : Option UInt8 :=
  if c.toNat = 110 then some 10
  else if c.toNat = 116 then some 9
  else if c.toNat = 92 ∨ c.toNat = 39 ∨ c.toNat = 34 then some c
  else none
/-- What stands behind a backslash: the byte, and how many bytes say it. -/
def esc : Bs → Option (UInt8 × Nat)
  | [] => none
  | c :: r =>
    match simp1 c with
    | some b => some (b, 1)
    | none =>
      if c.toNat = 120 then
        match r with
        | a :: b :: _ =>
          match hexv a, hexv b with
          | some x, some y => some (UInt8.ofNat (16 * x + y), 3)
          | _, _ => none
        | _ => none
      else none

/-- The rest of a string behind its first quote q: what it says, and how many bytes it has, its last quote with them. -/
def strGo (q : UInt8) : Nat → Bs → Option (Bs × Nat)
  | 0, _ => none
  | _ + 1, [] => none
  | f + 1, c :: r =>
    if c = q then some ([], 1)
    else if c.toNat < 32 then none
    else if c.toNat = 92 then
      match esc r with
      | none => none
      | some (b, k) => (strGo q f (r.drop k)).map fun x => (b :: x.1, x.2 + k + 1)
    else (strGo q f r).map fun x => (c :: x.1, x.2 + 1)

theorem esc_len {r : Bs} {b : UInt8} {k : Nat} (h : esc r = some (b, k)) : 1 ≤ k ∧ k ≤ r.length ∧ k ≤ 3 := by
  match r, h with
  | [], h => simp [esc] at h
  | c :: r, h =>
    cases h3 : simp1 c with
    | some x =>
      unfold esc at h
      simp only [h3] at h
      cases h
      simp
    | none =>
      unfold esc at h
      simp only [h3] at h
      by_cases hx : c.toNat = 120
      · rw [if_pos hx] at h
        match r, h with
        | [], h => cases h
        | [_], h => cases h
        | x :: y :: u, h =>
          cases hx1 : hexv x with
          | none => simp [hx1] at h
          | some m =>
            cases hy1 : hexv y with
            | none => simp [hx1, hy1] at h
            | some n => simp only [hx1, hy1] at h; cases h; simp
      · rw [if_neg hx] at h; cases h

theorem strGo_more (q : UInt8) : ∀ (f g : Nat) (l : Bs), l.length ≤ f → l.length ≤ g → strGo q (f + 1) l = strGo q (g + 1) l := by
  intro f
  induction f with
  | zero =>
    intro g l h1 h2
    have : l = [] := by cases l with | nil => rfl | cons => simp at h1
    subst this
    simp [strGo]
  | succ f ih =>
    intro g l h1 h2
    cases l with
    | nil => simp [strGo]
    | cons c r =>
      obtain ⟨g, rfl⟩ : ∃ g', g = g' + 1 := ⟨g - 1, by simp at h2; omega⟩
      simp only [List.length_cons] at h1 h2
      rw [strGo, strGo]
      split
      · rfl
      · split
        · rfl
        · split
          · split
            · rfl
            · rename_i b k he
              rw [ih g (r.drop k) (by simp; omega) (by simp; omega)]
          · rw [ih g r (by omega) (by omega)]

/-- A string behind its first quote. -/
def strAt (q : UInt8) (l : Bs) : Option (Bs × Nat) := strGo q (l.length + 1) l

theorem strAt_eq (q : UInt8) (f : Nat) (l : Bs) (h : l.length ≤ f) : strGo q (f + 1) l = strAt q l := strGo_more q f l.length l h (Nat.le_refl _)

theorem strAt_nil (q : UInt8) : strAt q [] = none := rfl
theorem strAt_cons (q c : UInt8) (r : Bs) : strAt q (c :: r) =
    if c = q then some ([], 1)
    else if c.toNat < 32 then none
    else if c.toNat = 92 then
      match esc r with
      | none => none
      | some (b, k) => (strAt q (r.drop k)).map fun x => (b :: x.1, x.2 + k + 1)
    else (strAt q r).map fun x => (c :: x.1, x.2 + 1) := by
  show strGo q (r.length + 1 + 1) (c :: r) = _
  rw [strGo]
  split
  · rfl
  · split
    · rfl
    · split
      · split
        · rfl
        · rename_i b k he
          rw [strAt_eq q r.length (r.drop k) (by simp)]
      · rfl

theorem strAt_len (q : UInt8) : ∀ (f : Nat) (l t : Bs) (n : Nat), l.length ≤ f → strAt q l = some (t, n) → 1 ≤ n ∧ n ≤ l.length ∧ t.length + 1 ≤ n := by
  intro f
  induction f with
  | zero =>
    intro l t n hl h
    have : l = [] := by cases l with | nil => rfl | cons => simp at hl
    subst this
    simp [strAt_nil] at h
  | succ f ih =>
    intro l t n hl h
    cases l with
    | nil => simp [strAt_nil] at h
    | cons c r =>
      simp only [List.length_cons] at hl
      rw [strAt_cons] at h
      split at h
      · cases h; simp
      · split at h
        · simp at h
        · split at h
          · split at h
            · simp at h
            · rename_i b k he
              have hk := esc_len he
              rw [Option.map_eq_some_iff] at h
              obtain ⟨⟨t', n'⟩, h1, h2⟩ := h
              cases h2
              have := ih (r.drop k) t' n' (by simp; omega) h1
              simp only [List.length_drop] at this
              simp
              omega
          · rw [Option.map_eq_some_iff] at h
            obtain ⟨⟨t', n'⟩, h1, h2⟩ := h
            cases h2
            have := ih r t' n' (by omega) h1
            simp
            omega

/-- How many bytes a string has behind its first quote q, its escapes unread; 'e': a backslash stands ahead. -/
def sizeGo (q : UInt8) : Bool → Bs → Option Nat
  | _, [] => none
  | e, c :: r =>
    if c.toNat < 32 then none
    else if e then (sizeGo q false r).map (· + 1)
    else if c.toNat = 92 then (sizeGo q true r).map (· + 1)
    else if c = q then some 1
    else (sizeGo q false r).map (· + 1)

theorem sizeGo_len (q : UInt8) : ∀ (l : Bs) (e : Bool) (n : Nat), sizeGo q e l = some n → 1 ≤ n ∧ n ≤ l.length := by
  intro l
  induction l with
  | nil => intro e n h; simp [sizeGo] at h
  | cons c r ih =>
    intro e n h
    rw [sizeGo] at h
    have fin : ∀ e', (sizeGo q e' r).map (· + 1) = some n → 1 ≤ n ∧ n ≤ (c :: r).length := by
      intro e' h
      rw [Option.map_eq_some_iff] at h
      obtain ⟨m, h1, rfl⟩ := h
      have := ih e' m h1
      simp
      omega
    split at h
    · simp at h
    · split at h
      · exact fin _ h
      · split at h
        · exact fin _ h
        · split at h
          · cases h; simp
          · exact fin _ h

/-- What stands between the quotes, with each escape as the byte that it says. -/
def unescGo : Nat → Bs → Option Bs
  | 0, _ => none
  | _ + 1, [] => some []
  | f + 1, c :: r =>
    if c.toNat = 92 then
      match esc r with
      | none => none
      | some (b, k) => (unescGo f (r.drop k)).map (b :: ·)
    else (unescGo f r).map (c :: ·)
theorem unescGo_more : ∀ (f g : Nat) (l : Bs), l.length ≤ f → l.length ≤ g → unescGo (f + 1) l = unescGo (g + 1) l := by
  intro f
  induction f with
  | zero =>
    intro g l h1 h2
    have : l = [] := by cases l with | nil => rfl | cons => simp at h1
    subst this
    simp [unescGo]
  | succ f ih =>
    intro g l h1 h2
    cases l with
    | nil => simp [unescGo]
    | cons c r =>
      obtain ⟨g, rfl⟩ : ∃ g', g = g' + 1 := ⟨g - 1, by simp at h2; omega⟩
      simp only [List.length_cons] at h1 h2
      rw [unescGo, unescGo]
      split
      · split
        · rfl
        · rename_i b k he
          rw [ih g (r.drop k) (by simp; omega) (by simp; omega)]
      · rw [ih g r (by omega) (by omega)]
def unesc (l : Bs) : Option Bs := unescGo (l.length + 1) l
theorem unesc_eq (f : Nat) (l : Bs) (h : l.length ≤ f) : unescGo (f + 1) l = unesc l := unescGo_more f l.length l h (Nat.le_refl _)
theorem unesc_nil : unesc [] = some [] := rfl
theorem unesc_cons (c : UInt8) (r : Bs) : unesc (c :: r) =
    if c.toNat = 92 then
      match esc r with
      | none => none
      | some (b, k) => (unesc (r.drop k)).map (b :: ·)
    else (unesc r).map (c :: ·) := by
  show unescGo (r.length + 1 + 1) (c :: r) = _
  rw [unescGo]
  split
  · split
    · rfl
    · rename_i b k he
      rw [unesc_eq r.length (r.drop k) (by simp)]
  · rfl

theorem hexv_range {a : UInt8} {x : Nat} (h : hexv a = some x) : 48 ≤ a.toNat ∧ a.toNat ≠ 92 ∧ x < 16 := by
  unfold hexv at h
  split at h
  · cases h; omega
  · split at h
    · cases h; omega
    · split at h
      · cases h; omega
      · simp at h

/-- The two ways to read a string say the same. -/
theorem two_ways (q : UInt8) (hq : q.toNat = 39 ∨ q.toNat = 34) : ∀ (f : Nat) (r : Bs), r.length ≤ f →
    strAt q r = (sizeGo q false r).bind fun n => (unesc (r.take (n - 1))).map fun t => (t, n) := by
  intro f
  induction f with
  | zero =>
    intro r hl
    have : r = [] := by cases r with | nil => rfl | cons => simp at hl
    subst this
    rfl
  | succ f ih =>
    intro r hl
    cases r with
    | nil => rfl
    | cons c r =>
      simp only [List.length_cons] at hl
      rw [strAt_cons, sizeGo]
      by_cases hc : c = q
      · subst hc
        have h1 : ¬ c.toNat < 32 := by omega
        have h2 : ¬ c.toNat = 92 := by omega
        simp [h1, h2, unesc_nil]
      · rw [if_neg hc]
        by_cases h1 : c.toNat < 32
        · simp [h1]
        · rw [if_neg h1, if_neg h1]
          have fin : ∀ (u : Bs) (b : UInt8) (k : Nat) (p : Bs), (∀ n, 1 ≤ n → unesc (p ++ u.take (n - 1)) = (unesc (u.take (n - 1))).map (b :: ·)) → u.length ≤ f →
              ((strAt q u).map fun x => (b :: x.1, x.2 + k)) = ((sizeGo q false u).map (· + k)).bind fun n => (unesc (p ++ u.take (n - k - 1))).map fun t => (t, n) := by
            intro u b k p hp hu
            rw [ih u hu]
            cases hs : sizeGo q false u with
            | none => rfl
            | some n =>
              have hn := sizeGo_len q u false n hs
              simp only [Option.bind_some, Option.map_some, Nat.add_sub_cancel]
              rw [hp n hn.1]
              cases unesc (u.take (n - 1)) <;> rfl
          by_cases h2 : c.toNat = 92
          · rw [if_pos h2, if_neg (by simp), if_pos h2]
            cases r with
            | nil => simp [esc, sizeGo]
            | cons e r1 =>
              rw [sizeGo]
              simp only [List.length_cons] at hl
              by_cases he : e.toNat < 32
              · have h3 : simp1 e = none := by unfold simp1; rw [if_neg (by omega), if_neg (by omega), if_neg (by omega)]
                have h4 : esc (e :: r1) = none := by unfold esc; simp only [h3]; rw [if_neg (by omega)]
                rw [h4, if_pos he]
                rfl
              · rw [if_neg he, if_pos rfl]
                cases h3 : simp1 e with
                | some b =>
                  have h4 : esc (e :: r1) = some (b, 1) := by unfold esc; simp only [h3]
                  rw [h4]
                  simp only [List.drop_succ_cons, List.drop_zero]
                  rw [fin r1 b 2 [c, e] ?_ (by omega)]
                  · cases hs : sizeGo q false r1 with
                    | none => rfl
                    | some n =>
                      have hn := sizeGo_len q r1 false n hs
                      simp only [Option.map_some, Option.bind_some]
                      rw [show n + 1 + 1 - 1 = (n - 1) + 2 by omega, show n + 2 - 2 - 1 = n - 1 by omega]
                      rfl
                  · intro n hn
                    show unesc (c :: e :: r1.take (n - 1)) = _
                    have h5 : esc (e :: r1.take (n - 1)) = some (b, 1) := by unfold esc; simp only [h3]
                    rw [unesc_cons, if_pos h2, h5]
                    rfl
                | none =>
                  by_cases hx : e.toNat = 120
                  · match r1, hl with
                    | [], _ =>
                      have h4 : esc [e] = none := by unfold esc; simp only [h3]; rw [if_pos hx]
                      rw [h4]; rfl
                    | [a], _ =>
                      have h4 : esc [e, a] = none := by unfold esc; simp only [h3]; rw [if_pos hx]
                      rw [h4]
                      cases hs : sizeGo q false [a] with
                      | none => rfl
                      | some n =>
                        have hn := sizeGo_len q [a] false n hs
                        simp only [List.length_cons, List.length_nil] at hn
                        obtain rfl : n = 1 := by omega
                        have h5 : esc [e] = none := by unfold esc; simp only [h3]; rw [if_pos hx]
                        simp [unesc_cons, h2, h5]
                    | a :: b :: r2, hl =>
                      simp only [List.length_cons] at hl
                      cases ha : hexv a with
                      | none =>
                        have h4 : ∀ u, esc (e :: a :: u) = none := by
                          intro u; unfold esc; simp only [h3]; rw [if_pos hx]
                          cases u with
                          | nil => rfl
                          | cons b u => simp [ha]
                        rw [h4]
                        cases hs : sizeGo q false (a :: b :: r2) with
                        | none => rfl
                        | some n =>
                          have hn := sizeGo_len q _ false n hs
                          simp only [Option.map_some, Option.bind_some]
                          obtain ⟨n, rfl⟩ : ∃ m, n = m + 1 := ⟨n - 1, by omega⟩
                          simp only [Nat.add_sub_cancel, List.take_succ_cons]
                          cases n with
                          | zero =>
                            have h5 : esc [e] = none := by unfold esc; simp only [h3]; rw [if_pos hx]
                            simp [unesc_cons, h2, h5]
                          | succ n => simp [unesc_cons, h2, h4]
                      | some x =>
                        cases hb : hexv b with
                        | none =>
                          have h4 : ∀ u, esc (e :: a :: b :: u) = none := by
                            intro u; unfold esc; simp only [h3]; rw [if_pos hx]; simp [ha, hb]
                          rw [h4]
                          cases hs : sizeGo q false (a :: b :: r2) with
                          | none => rfl
                          | some n =>
                            have hn := sizeGo_len q _ false n hs
                            simp only [Option.map_some, Option.bind_some]
                            obtain ⟨n, rfl⟩ : ∃ m, n = m + 1 := ⟨n - 1, by omega⟩
                            simp only [Nat.add_sub_cancel, List.take_succ_cons]
                            cases n with
                            | zero =>
                              have h5 : esc [e] = none := by unfold esc; simp only [h3]; rw [if_pos hx]
                              simp [unesc_cons, h2, h5]
                            | succ n =>
                              cases n with
                              | zero =>
                                have h5 : esc [e, a] = none := by unfold esc; simp only [h3]; rw [if_pos hx]
                                simp [unesc_cons, h2, h5]
                              | succ n => simp [unesc_cons, h2, h4]
                        | some y =>
                          have h4 : ∀ u, esc (e :: a :: b :: u) = some (UInt8.ofNat (16 * x + y), 3) := by
                            intro u; unfold esc; simp only [h3]; rw [if_pos hx]; simp [ha, hb]
                          have hha := hexv_range ha
                          have hhb := hexv_range hb
                          have na : ¬ a = q := fun h => by rw [h] at hha; omega
                          have nb : ¬ b = q := fun h => by rw [h] at hhb; omega
                          have hs2 : sizeGo q false (a :: b :: r2) = (sizeGo q false r2).map (· + 2) := by
                            rw [sizeGo, sizeGo]
                            simp only [na, nb, hha.2.1, hhb.2.1, if_false, Bool.false_eq_true]
                            rw [if_neg (by omega), if_neg (by omega)]
                            cases sizeGo q false r2 <;> rfl
                          rw [h4, hs2]
                          simp only [List.drop_succ_cons, List.drop_zero]
                          rw [fin r2 (UInt8.ofNat (16 * x + y)) 4 [c, e, a, b] ?_ (by omega)]
                          · cases hs : sizeGo q false r2 with
                            | none => rfl
                            | some n =>
                              have hn := sizeGo_len q r2 false n hs
                              simp only [Option.map_some, Option.bind_some]
                              rw [show n + 2 + 1 + 1 - 1 = (n - 1) + 4 by omega, show n + 4 - 4 - 1 = n - 1 by omega]
                              rfl
                          · intro n hn
                            show unesc (c :: e :: a :: b :: r2.take (n - 1)) = _
                            rw [unesc_cons, if_pos h2, h4]
                            rfl
                  · have h4 : ∀ u, esc (e :: u) = none := by intro u; unfold esc; simp only [h3]; rw [if_neg hx]
                    rw [h4]
                    cases hs : sizeGo q false r1 with
                    | none => rfl
                    | some n =>
                      have hn := sizeGo_len q r1 false n hs
                      simp only [Option.map_some, Option.bind_some]
                      rw [show n + 1 + 1 - 1 = (n - 1) + 2 by omega]
                      simp only [List.take_succ_cons]
                      simp [unesc_cons, h2, h4]
          · rw [if_neg h2, if_neg (by simp), if_neg h2, if_neg hc]
            rw [fin r c 1 [c] ?_ (by omega)]
            · cases hs : sizeGo q false r with
              | none => rfl
              | some n =>
                have hn := sizeGo_len q r false n hs
                simp only [Option.map_some, Option.bind_some]
                rw [show n + 1 - 1 - 1 = n - 1 by omega, show n + 1 - 1 = (n - 1) + 1 by omega]
                rfl
            · intro n hn
              show unesc (c :: r.take (n - 1)) = _
              rw [unesc_cons, if_neg h2]
end Sp
end Go.Proofs.YtkmmcphiijolkaaGreatDoor

set_option linter.unusedVariables false
namespace Go.Proofs.YtkmmcphiijolkaaGreatDoor
open Go.RowKit Go.Shelf

theorem infoByte : (Tryz.prog.info? 5).map (fun i => (i.zero, i.size, i.bytes)) = some (some (.int .u8 0), 1, 1) := by kernel_rfl

end Go.Proofs.YtkmmcphiijolkaaGreatDoor

set_option linter.unusedVariables false
namespace Go.Proofs.YtkmmcphiijolkaaGreatDoor
open Go.RowKit Go.Shelf

def digI (r : Int) : Bool := decide (48 ≤ r ∧ r ≤ 57)
def wdI (r : Int) : Bool := decide ((97 ≤ r ∧ r ≤ 122) ∨ (65 ≤ r ∧ r ≤ 90) ∨ r = 95 ∨ (48 ≤ r ∧ r ≤ 57))

theorem ret_bool {a b : Bool} (h : a = b) : Ending.returned (.bool a) = .returned (.bool b) := by rw [h]
theorem ret_int {k : IntKind} {a b : Int} (h : a = b) : Ending.returned (.int k a) = .returned (.int k b) := by rw [h]

theorem isDigit_any (r : Int) (w : World) : Calls Tryz.prog 97 #[.int .i32 r] w fun e w' => e = .returned (.bool (digI r)) ∧ w = w' := by
  go_enter Tryz.func97, Tryz.ntmps97
  go_wp2
  all_goals
    go_ret
    refine ⟨ret_bool ?_, rfl⟩
    rw [Bool.eq_iff_iff]
    simp [digI] <;> omega
theorem isWord_any (r : Int) (w : World) : Calls Tryz.prog 110 #[.int .i32 r] w fun e w' => e = .returned (.bool (wdI r)) ∧ w = w' := by
  go_enter Tryz.func110, Tryz.ntmps110
  go_wp2_with (go_at_call 97; refine (isDigit_any _ _).mono ?_; rintro e w' ⟨rfl, rfl⟩)
  all_goals
    go_ret
    refine ⟨ret_bool ?_, rfl⟩
    rw [Bool.eq_iff_iff]
    simp [digI, wdI] <;> omega

theorem wdI_byte (c : UInt8) : wdI (c.toNat : Int) = Sp.isWd c := by
  rw [Bool.eq_iff_iff]
  simp [wdI, Sp.isWd, Sp.isLet, Sp.isDig]
  omega
theorem digI_byte (c : UInt8) : digI (c.toNat : Int) = Sp.isDig c := by
  rw [Bool.eq_iff_iff]
  simp [digI, Sp.isDig]
  omega
theorem wdI_high (r : Nat) (h : 128 ≤ r) : wdI (r : Int) = false := by
  simp [wdI]
  omega
theorem isWd_high (c : UInt8) (h : 128 ≤ c.toNat) : Sp.isWd c = false := by
  rw [← wdI_byte, wdI_high _ h]

theorem get_drop (s : ByteArray) (k : Nat) (h : k < s.size) : s.data.toList.drop k = s[k] :: s.data.toList.drop (k + 1) := by
  rw [List.drop_eq_getElem_cons (by simpa using h)]
  rfl
theorem size_list (s : ByteArray) : s.data.toList.length = s.size := by simp

set_option maxHeartbeats 1000000 in
theorem wordSize_any (s : ByteArray) (w : World) (hs : s.size ≤ 1000000) :
    Calls Tryz.prog 98 #[.string s] w fun e w' => e = .returned (.int .i64 (Sp.wordLen s.data.toList)) ∧ Below w.heap.size w w' := by
  go_enter Tryz.func98, Tryz.ntmps98
  go_wp2
  go_loopw [] (fun wr => ∃ pos : Nat, pos ≤ s.size ∧ wr.heap[w.heap.size]? = some (.stringIter s pos) ∧ Below w.heap.size w wr ∧ Sp.wordLen s.data.toList = pos + Sp.wordLen (s.data.toList.drop pos)) (fun wr => s.size - wr.iterPos w.heap.size)
  case atStart =>
    refine ⟨0, Nat.zero_le _, World.iter_heap w s 0, (Below.refl _ w).alloc (Nat.le_refl _) _, by simp⟩
  case round =>
    obtain ⟨pos, hpos, hit, hbw, hwl⟩ := hrel
    by_cases hp : pos < s.size
    · have hnx : ∀ ty, (Instr.next (.pointer (some ⟨w.heap.size, 0, none⟩)) true ty).run Tryz.prog wr = _ := fun ty => Lib.run_next_any_at wr w.heap.size s pos ty hit hp
      have hd1 := decode_le s pos
      have hit2 := Lib.iterAt_heap wr w.heap.size s pos (pos + (Utf8.decode s pos).2) hit
      have hbw2 := Lib.below_iterAt hbw (k := w.heap.size) (by omega) s (pos + (Utf8.decode s pos).2)
      have hdr := get_drop s pos hp
      have HW : Hid (Sp.wordLen s.data.toList = pos + Sp.wordLen (s.data.toList.drop pos)) := hwl
      have HD : Hid (s.data.toList.drop pos = s[pos] :: s.data.toList.drop (pos + 1)) := hdr
      clear hwl hdr
      cases hwd : wdI ((Utf8.decode s pos).1 : Int) with
      | true =>
        have hlo : s[pos].toNat < 128 := by
          rcases Nat.lt_or_ge s[pos].toNat 128 with h | h
          · exact h
          · have := (decode_high s pos hp h).1
            rw [wdI_high _ this] at hwd
            cases hwd
        have hde := decode_ascii s pos hp hlo
        have HE : Hid (Utf8.decode s pos = (s[pos].toNat, 1)) := hde
        clear hde
        go_wp2_with (go_at_call 110; refine (isWord_any _ _).mono ?_; rintro e w' ⟨rfl, rfl⟩)
        go_roundw
        case rel =>
          refine ⟨pos + (Utf8.decode s pos).2, ?_, hit2, hbw2, ?_⟩
          · rw [HE.out]; omega
          · rw [HW.out, HE.out, HD.out, Sp.wordLen]
            rw [HE.out, wdI_byte] at hwd
            rw [if_pos hwd]
            dsimp only
            omega
        case measure =>
          have e1 : wr.iterPos w.heap.size = pos := by simp [World.iterPos, hit]
          have e2 : (wr.iterAt w.heap.size s (pos + (Utf8.decode s pos).2)).iterPos w.heap.size = pos + (Utf8.decode s pos).2 := by simp [World.iterPos, hit2]
          have e3 : (Utf8.decode s pos).2 = 1 := by rw [HE.out]
          rw [e1, e2, e3]
          omega
      | false =>
        go_wp2_with (go_at_call 110; refine (isWord_any _ _).mono ?_; rintro e w' ⟨rfl, rfl⟩)
        go_ret
        refine ⟨ret_int ?_, hbw2⟩
        rw [HW.out, HD.out, Sp.wordLen]
        have : Sp.isWd s[pos] = false := by
          rcases Nat.lt_or_ge s[pos].toNat 128 with h | h
          · rw [decode_ascii s pos hp h, wdI_byte] at hwd
            exact hwd
          · exact isWd_high _ h
        rw [this]
        simp
    · have hnx : ∀ ty, (Instr.next (.pointer (some ⟨w.heap.size, 0, none⟩)) true ty).run Tryz.prog wr = _ := fun ty => Lib.run_next_end_at wr w.heap.size s pos ty hit hp
      have HW : Hid (Sp.wordLen s.data.toList = pos + Sp.wordLen (s.data.toList.drop pos)) := hwl
      clear hwl
      go_wp2
      go_ret
      refine ⟨ret_int ?_, hbw⟩
      rw [HW.out, List.drop_of_length_le (by rw [size_list]; omega)]
      simp [Sp.wordLen]
      omega
end Go.Proofs.YtkmmcphiijolkaaGreatDoor

set_option linter.unusedVariables false
set_option linter.unusedSimpArgs false
namespace Go.Proofs.YtkmmcphiijolkaaGreatDoor
open Go.RowKit Go.Shelf

theorem Sp.toList_data (s : ByteArray) : s.toList = s.data.toList := by
  exact ByteArray.toList_eq s
set_option maxHeartbeats 4000000 in
set_option maxRecDepth 100000 in
theorem keyword_any (s : ByteArray) (w : World) : Calls Tryz.prog 99 #[.string s] w fun e w' => e = .returned (.bool (Sp.kw s.data.toList)) ∧ w = w' := by
  go_enter Tryz.func99, Tryz.ntmps99
  go_wp2
  all_goals
    go_ret
    refine ⟨ret_bool ?_, rfl⟩
    rw [← Sp.toList_data]
    simp only [Sp.kw, Sp.kws, List.contains_cons, List.contains_nil]
    simp_all only [Bool.true_or, Bool.or_true, Bool.false_or, Bool.or_false, Bool.false_eq_true, Bool.true_eq_false]
end Go.Proofs.YtkmmcphiijolkaaGreatDoor

set_option linter.unusedVariables false
set_option linter.unusedSimpArgs false
namespace Go.Proofs.YtkmmcphiijolkaaGreatDoor
open Go.RowKit Go.Shelf

theorem list_of_size0 (s : ByteArray) (h : s.size = 0) : s.data.toList = [] := by
  have : s.data.toList.length = 0 := by rw [size_list]; exact h
  exact List.length_eq_zero_iff.1 this

theorem hid_ex {α : Type} (a : α) : ∃ b, Hid (a = b) := ⟨a, show a = a from rfl⟩
theorem isDigit_is {r : Int} {b : Bool} (h : Hid (digI r = b)) (w : World) : Calls Tryz.prog 97 #[.int .i32 r] w fun e w' => e = .returned (.bool b) ∧ w = w' := by
  rw [← h.out]; exact isDigit_any r w
theorem isWord_is {r : Int} {b : Bool} (h : Hid (wdI r = b)) (w : World) : Calls Tryz.prog 110 #[.int .i32 r] w fun e w' => e = .returned (.bool b) ∧ w = w' := by
  rw [← h.out]; exact isWord_any r w
theorem wordSize_is {s : ByteArray} {n : Nat} (h : Hid (Sp.wordLen s.data.toList = n)) (w : World) (hs : s.size ≤ 1000000) : Calls Tryz.prog 98 #[.string s] w fun e w' => e = .returned (.int .i64 n) ∧ Below w.heap.size w w' := by
  rw [← h.out]; exact wordSize_any s w hs
theorem keyword_is {s : ByteArray} {b : Bool} (h : Hid (Sp.kw s.data.toList = b)) (w : World) : Calls Tryz.prog 99 #[.string s] w fun e w' => e = .returned (.bool b) ∧ w = w' := by
  rw [← h.out]; exact keyword_any s w

theorem nm_cons (c : UInt8) (l r : Sp.Bs) (h : l = c :: r) : Sp.nm l = (!(Sp.isDig c) && decide (Sp.wordLen l = l.length) && !Sp.kw l) := by
  subst h
  show (Sp.isLet c && decide (Sp.wordLen (c :: r) = (c :: r).length) && !Sp.kw (c :: r)) = _
  by_cases hw : Sp.isWd c
  · have : Sp.isLet c = !Sp.isDig c := by
      rw [Bool.eq_iff_iff]
      simp [Sp.isWd, Sp.isLet, Sp.isDig] at hw ⊢
      omega
    rw [this]
  · have h1 : Sp.wordLen (c :: r) = 0 := by rw [Sp.wordLen, if_neg hw]
    rw [h1]
    simp

set_option maxHeartbeats 2000000 in
theorem name_any (s : ByteArray) (w : World) (hs : s.size ≤ 1000000) : Calls Tryz.prog 60 #[.string s] w fun e w' => e = .returned (.bool (Sp.nm s.data.toList)) ∧ Below w.heap.size w w' := by
  by_cases h0 : s.size = 0
  · have hl := list_of_size0 s h0
    have h1 : s.toList.isEmpty = true := by rw [Sp.toList_data, hl]; rfl
    have HL : Hid (Sp.nm s.data.toList = false) := by rw [hl]; rfl
    rw [HL.out]
    clear hl h0
    go_enter Tryz.func60, Tryz.ntmps60
    go_wp2
    go_ret
    exact ⟨rfl, Below.refl _ _⟩
  · have h0' : 0 < s.size := by omega
    have hd := get_drop s 0 h0'
    simp only [List.drop_zero] at hd
    have h1 : s.toList.isEmpty = false := by rw [Sp.toList_data, hd]; rfl
    have hb0 := s[0].toNat_lt
    obtain ⟨bd, HB⟩ := hid_ex (digI (s[0].toNat : Int))
    obtain ⟨n, HN⟩ := hid_ex (Sp.wordLen s.data.toList)
    obtain ⟨bk, HK⟩ := hid_ex (Sp.kw s.data.toList)
    have HE : Hid (Sp.nm s.data.toList = (!bd && decide (n = s.size) && !bk)) := by
      show _ = _
      rw [nm_cons s[0] _ _ hd, ← digI_byte, HB.out, HN.out, HK.out, size_list]
    clear hd h0
    rw [HE.out]
    cases bd
    all_goals
      go_enter Tryz.func60, Tryz.ntmps60
      go_wp2_with (first | (go_at_call 97; refine (isDigit_is HB _).mono ?_; rintro e w' ⟨rfl, rfl⟩) | (go_at_call 98; refine (wordSize_is HN _ hs).mono ?_; rintro e w' ⟨rfl, hb⟩) | (go_at_call 99; refine (keyword_is HK _).mono ?_; rintro e w' ⟨rfl, rfl⟩))
      all_goals
        go_ret
        refine ⟨ret_bool ?_, by first | exact Below.refl _ _ | assumption⟩
        simp_all <;> omega
end Go.Proofs.YtkmmcphiijolkaaGreatDoor
