/-
  Merged by program out of the texts Shelf, Math, Enc of one seat.
-/
import Derived.Test.YtnomcldpbkinmaaGreatDoorProg
import Derived.Shelf.Strings.Builder1
import Derived.Shelf.Strings.Builder2
import Derived.Shelf.Small.Wraps
import Derived.Shelf.Strings.Search1
import Derived.Shelf.Strings.Search2
import Derived.Shelf.Strings.Search3
import Derived.Shelf.Strings.Cut
import Derived.Shelf.Strings.Count
import Derived.Shelf.LaysM
import Derived.Shelf.GgClosure.StringsIndexFunc
import Derived.Shelf.GgClosure.StringsTrimFunc
import Derived.Ground.GgwProg
import Derived.Shelf.GgClosure.StringsIndexFuncTop
import Derived.Shelf.Strings.Prefix
import Derived.Shelf.Strings.Split
import Derived.Shelf.Strings.Replace
import Derived.Shelf.Unicode.DecodeSlow
import Derived.Shelf.Unicode.DecodeAny
import Derived.Shelf.Unicode.DecodeLast
import Derived.Shelf.Strings.FuncGrows

/- The library's contracts of package strings, laid at this program (written by the kit's own two commands, lay-shelf and lay-plain; no walk of ours). -/
set_option linter.unusedVariables false
namespace Go.Proofs.YtnomcldpbkinmaaGreatDoor
open Go.Shelf
def Tryz.lays104_ren : Go.Shelf.Ren := ⟨fun | 104 => 136 | 211 => 167 | 207 => 158 | n => n, fun | 9 => 9 | 4 => 4 | 24 => 97 | 3 => 3 | n => n, fun | n => n⟩
theorem Tryz.lays104 : Go.Proofs.Lays.n104 Tryz.prog Tryz.lays104_ren := {
  mixed := by kernel_rfl
  f104 := Tryz.func136.trans (congrArg some (by kernel_rfl))
  f207 := Tryz.func158.trans (congrArg some (by kernel_rfl))
  f211 := Tryz.func167.trans (congrArg some (by kernel_rfl))
  t3 := Tryz.underlying3
  a3 := Tryz.isAgg3
  z3 := Tryz.sizeOf3
  v3 := Tryz.zeroValue3
  t4 := Tryz.underlying4
  a4 := Tryz.isAgg4
  z4 := Tryz.sizeOf4
  v4 := Tryz.zeroValue4
  t9 := Tryz.underlying9
  a9 := Tryz.isAgg9
  z9 := Tryz.sizeOf9
  v9 := Tryz.zeroValue9
  t24 := Tryz.underlying97
  a24 := Tryz.isAgg97
  z24 := Tryz.sizeOf97
  v24 := Tryz.zeroValue97 }
open Go.RowKit in
theorem Tryz.strings_CutSuffix (s p : ByteArray) (w : World) (hs : s.size ≤ 9223372036854775807) :
    Calls Tryz.prog 136 #[.string s, .string p] w fun e w' => e = .returned (.tuple #[.string ⟨(Lib.trimSuffix s.data.toList p.data.toList).toArray⟩, .bool (Lib.hasSuffix s.data.toList p.data.toList)]) ∧ w' = w := Any.strings_CutSuffix Tryz.lays104 s p w hs
def Tryz.lays143_ren : Go.Shelf.Ren := ⟨fun | 143 => 86 | 219 => 113 | 217 => 137 | 225 => 138 | 224 => 139 | 267 => 140 | 266 => 168 | 314 => 169 | n => n, fun | 9 => 9 | 3 => 3 | 4 => 4 | 5 => 5 | 46 => 185 | 146 => 216 | 51 => 215 | n => n, fun | 1 => 0 | n => n⟩
theorem Tryz.lays143 : Go.Proofs.Lays.n143 Tryz.prog Tryz.lays143_ren := {
  mixed := by kernel_rfl
  f143 := Tryz.func86.trans (congrArg some (by kernel_rfl))
  f217 := Tryz.func137.trans (congrArg some (by kernel_rfl))
  f219 := Tryz.func113.trans (congrArg some (by kernel_rfl))
  f224 := Tryz.func139.trans (congrArg some (by kernel_rfl))
  f225 := Tryz.func138.trans (congrArg some (by kernel_rfl))
  f266 := Tryz.func168.trans (congrArg some (by kernel_rfl))
  f267 := Tryz.func140.trans (congrArg some (by kernel_rfl))
  f314 := Tryz.func169.trans (congrArg some (by kernel_rfl))
  t3 := Tryz.underlying3
  a3 := Tryz.isAgg3
  z3 := Tryz.sizeOf3
  v3 := Tryz.zeroValue3
  t4 := Tryz.underlying4
  a4 := Tryz.isAgg4
  z4 := Tryz.sizeOf4
  v4 := Tryz.zeroValue4
  t5 := Tryz.underlying5
  a5 := Tryz.isAgg5
  z5 := Tryz.sizeOf5
  v5 := Tryz.zeroValue5
  t9 := Tryz.underlying9
  a9 := Tryz.isAgg9
  z9 := Tryz.sizeOf9
  v9 := Tryz.zeroValue9
  t46 := Tryz.underlying185
  a46 := Tryz.isAgg185
  z46 := Tryz.sizeOf185
  v46 := Tryz.zeroValue185
  t51 := Tryz.underlying215
  a51 := Tryz.isAgg215
  z51 := Tryz.sizeOf215
  v51 := Tryz.zeroValue215
  t146 := Tryz.underlying216
  a146 := Tryz.isAgg216
  z146 := Tryz.sizeOf216
  v146 := Tryz.zeroValue216
  g1 := by kernel_rfl }
open Go.RowKit Go.Lib in
theorem Tryz.strings_Index (s sub : ByteArray) (m : Int) (w : World) (hs : s.size < 4294967281) (hm : w.cell? ⟨0, 0, none⟩ = some (.int .i64 m)) :
    Calls Tryz.prog 86 #[.string s, .string sub] w fun e w' => e = .returned (.int .i64 (Lib.index s.data.toList sub.data.toList)) ∧ w' = w := Any.strings_Index Tryz.lays143 s sub m w hs hm
def Tryz.lays144_ren : Go.Shelf.Ren := ⟨fun | 144 => 88 | 143 => 86 | 219 => 113 | 217 => 137 | 225 => 138 | 224 => 139 | 267 => 140 | 266 => 168 | 314 => 169 | n => n, fun | 9 => 9 | 4 => 4 | 3 => 3 | 5 => 5 | 46 => 185 | 146 => 216 | 51 => 215 | n => n, fun | 1 => 0 | n => n⟩
theorem Tryz.lays144 : Go.Proofs.Lays.n144 Tryz.prog Tryz.lays144_ren := {
  mixed := by kernel_rfl
  f143 := Tryz.func86.trans (congrArg some (by kernel_rfl))
  f144 := Tryz.func88.trans (congrArg some (by kernel_rfl))
  f217 := Tryz.func137.trans (congrArg some (by kernel_rfl))
  f219 := Tryz.func113.trans (congrArg some (by kernel_rfl))
  f224 := Tryz.func139.trans (congrArg some (by kernel_rfl))
  f225 := Tryz.func138.trans (congrArg some (by kernel_rfl))
  f266 := Tryz.func168.trans (congrArg some (by kernel_rfl))
  f267 := Tryz.func140.trans (congrArg some (by kernel_rfl))
  f314 := Tryz.func169.trans (congrArg some (by kernel_rfl))
  t3 := Tryz.underlying3
  a3 := Tryz.isAgg3
  z3 := Tryz.sizeOf3
  v3 := Tryz.zeroValue3
  t4 := Tryz.underlying4
  a4 := Tryz.isAgg4
  z4 := Tryz.sizeOf4
  v4 := Tryz.zeroValue4
  t5 := Tryz.underlying5
  a5 := Tryz.isAgg5
  z5 := Tryz.sizeOf5
  v5 := Tryz.zeroValue5
  t9 := Tryz.underlying9
  a9 := Tryz.isAgg9
  z9 := Tryz.sizeOf9
  v9 := Tryz.zeroValue9
  t46 := Tryz.underlying185
  a46 := Tryz.isAgg185
  z46 := Tryz.sizeOf185
  v46 := Tryz.zeroValue185
  t51 := Tryz.underlying215
  a51 := Tryz.isAgg215
  z51 := Tryz.sizeOf215
  v51 := Tryz.zeroValue215
  t146 := Tryz.underlying216
  a146 := Tryz.isAgg216
  z146 := Tryz.sizeOf216
  v146 := Tryz.zeroValue216
  g1 := by kernel_rfl }
open Go.RowKit Go.Lib in
theorem Tryz.strings_Contains (s sub : ByteArray) (m : Int) (w : World) (hs : s.size < 4294967281) (hm : w.cell? ⟨0, 0, none⟩ = some (.int .i64 m)) :
    Calls Tryz.prog 88 #[.string s, .string sub] w fun e w' => e = .returned (.bool (Lib.contains s.data.toList sub.data.toList)) ∧ w' = w := Any.strings_Contains Tryz.lays144 s sub m w hs hm
def Tryz.lays145_ren : Go.Shelf.Ren := ⟨fun | 145 => 123 | 220 => 154 | 219 => 113 | 217 => 137 | 225 => 138 | 224 => 139 | 267 => 140 | 266 => 168 | 314 => 169 | n => n, fun | 9 => 9 | 4 => 4 | 59 => 82 | 3 => 3 | 5 => 5 | 46 => 185 | 146 => 216 | 51 => 215 | n => n, fun | 1 => 0 | n => n⟩
theorem Tryz.lays145 : Go.Proofs.Lays.n145 Tryz.prog Tryz.lays145_ren := {
  mixed := by kernel_rfl
  f145 := Tryz.func123.trans (congrArg some (by kernel_rfl))
  f217 := Tryz.func137.trans (congrArg some (by kernel_rfl))
  f219 := Tryz.func113.trans (congrArg some (by kernel_rfl))
  f220 := Tryz.func154.trans (congrArg some (by kernel_rfl))
  f224 := Tryz.func139.trans (congrArg some (by kernel_rfl))
  f225 := Tryz.func138.trans (congrArg some (by kernel_rfl))
  f266 := Tryz.func168.trans (congrArg some (by kernel_rfl))
  f267 := Tryz.func140.trans (congrArg some (by kernel_rfl))
  f314 := Tryz.func169.trans (congrArg some (by kernel_rfl))
  t3 := Tryz.underlying3
  a3 := Tryz.isAgg3
  z3 := Tryz.sizeOf3
  v3 := Tryz.zeroValue3
  t4 := Tryz.underlying4
  a4 := Tryz.isAgg4
  z4 := Tryz.sizeOf4
  v4 := Tryz.zeroValue4
  t5 := Tryz.underlying5
  a5 := Tryz.isAgg5
  z5 := Tryz.sizeOf5
  v5 := Tryz.zeroValue5
  t9 := Tryz.underlying9
  a9 := Tryz.isAgg9
  z9 := Tryz.sizeOf9
  v9 := Tryz.zeroValue9
  t46 := Tryz.underlying185
  a46 := Tryz.isAgg185
  z46 := Tryz.sizeOf185
  v46 := Tryz.zeroValue185
  t51 := Tryz.underlying215
  a51 := Tryz.isAgg215
  z51 := Tryz.sizeOf215
  v51 := Tryz.zeroValue215
  t59 := Tryz.underlying82
  a59 := Tryz.isAgg82
  z59 := Tryz.sizeOf82
  v59 := Tryz.zeroValue82
  t146 := Tryz.underlying216
  a146 := Tryz.isAgg216
  z146 := Tryz.sizeOf216
  v146 := Tryz.zeroValue216
  g1 := by kernel_rfl }
open Go.RowKit Go.Lib in
theorem Tryz.strings_Cut (s sep : ByteArray) (m : Int) (w : World) (hs : s.size < 4294967281) (hm : w.cell? ⟨0, 0, none⟩ = some (.int .i64 m)) :
    Calls Tryz.prog 123 #[.string s, .string sep] w fun e w' => e = .returned (.tuple #[.string ⟨(Lib.cut s.data.toList sep.data.toList).1.toArray⟩, .string ⟨(Lib.cut s.data.toList sep.data.toList).2.1.toArray⟩, .bool (Lib.cut s.data.toList sep.data.toList).2.2]) ∧ ∃ n, w' = w.drewN n := Any.strings_Cut Tryz.lays145 s sep m w hs hm
def Tryz.lays272_ren : Go.Shelf.Ren := ⟨fun | 272 => 184 | 315 => 159 | n => n, fun | 9 => 9 | 40 => 153 | 4 => 4 | 3 => 3 | 0 => 0 | 21 => 21 | n => n, fun | n => n⟩
theorem Tryz.lays272 : Go.Proofs.Lays.n272 Tryz.prog Tryz.lays272_ren := {
  mixed := by kernel_rfl
  f272 := Tryz.func184.trans (congrArg some (by kernel_rfl))
  f315 := Tryz.func159.trans (congrArg some (by kernel_rfl))
  t0 := Tryz.underlying0
  a0 := Tryz.isAgg0
  z0 := Tryz.sizeOf0
  v0 := Tryz.zeroValue0
  t3 := Tryz.underlying3
  a3 := Tryz.isAgg3
  z3 := Tryz.sizeOf3
  v3 := Tryz.zeroValue3
  t4 := Tryz.underlying4
  a4 := Tryz.isAgg4
  z4 := Tryz.sizeOf4
  v4 := Tryz.zeroValue4
  t9 := Tryz.underlying9
  a9 := Tryz.isAgg9
  z9 := Tryz.sizeOf9
  v9 := Tryz.zeroValue9
  t21 := Tryz.underlying21
  a21 := Tryz.isAgg21
  z21 := Tryz.sizeOf21
  v21 := Tryz.zeroValue21
  t40 := Tryz.underlying153
  a40 := Tryz.isAgg153
  z40 := Tryz.sizeOf153
  v40 := Tryz.zeroValue153 }
def Tryz.lays238_ren : Go.Shelf.Ren := ⟨fun | 238 => 135 | 273 => 166 | 197 => 160 | 271 => 185 | 260 => 181 | 120 => 196 | n => n, fun | 9 => 9 | 40 => 153 | 4 => 4 | 3 => 3 | 105 => 211 | 21 => 21 | 5 => 5 | 119 => 246 | 0 => 0 | 46 => 185 | 139 => 249 | 138 => 248 | n => n, fun | 3 => 4 | 4 => 5 | n => n⟩
theorem Tryz.lays238 : Go.Proofs.Lays.n238 Tryz.prog Tryz.lays238_ren := {
  mixed := by kernel_rfl
  f120 := Tryz.func196.trans (congrArg some (by kernel_rfl))
  f197 := Tryz.func160.trans (congrArg some (by kernel_rfl))
  f238 := Tryz.func135.trans (congrArg some (by kernel_rfl))
  f260 := Tryz.func181.trans (congrArg some (by kernel_rfl))
  f271 := Tryz.func185.trans (congrArg some (by kernel_rfl))
  f273 := Tryz.func166.trans (congrArg some (by kernel_rfl))
  t0 := Tryz.underlying0
  a0 := Tryz.isAgg0
  z0 := Tryz.sizeOf0
  v0 := Tryz.zeroValue0
  t3 := Tryz.underlying3
  a3 := Tryz.isAgg3
  z3 := Tryz.sizeOf3
  v3 := Tryz.zeroValue3
  t4 := Tryz.underlying4
  a4 := Tryz.isAgg4
  z4 := Tryz.sizeOf4
  v4 := Tryz.zeroValue4
  t5 := Tryz.underlying5
  a5 := Tryz.isAgg5
  z5 := Tryz.sizeOf5
  v5 := Tryz.zeroValue5
  t9 := Tryz.underlying9
  a9 := Tryz.isAgg9
  z9 := Tryz.sizeOf9
  v9 := Tryz.zeroValue9
  t21 := Tryz.underlying21
  a21 := Tryz.isAgg21
  z21 := Tryz.sizeOf21
  v21 := Tryz.zeroValue21
  t40 := Tryz.underlying153
  a40 := Tryz.isAgg153
  z40 := Tryz.sizeOf153
  v40 := Tryz.zeroValue153
  t46 := Tryz.underlying185
  a46 := Tryz.isAgg185
  z46 := Tryz.sizeOf185
  v46 := Tryz.zeroValue185
  t105 := Tryz.underlying211
  a105 := Tryz.isAgg211
  z105 := Tryz.sizeOf211
  v105 := Tryz.zeroValue211
  t119 := Tryz.underlying246
  a119 := Tryz.isAgg246
  z119 := Tryz.sizeOf246
  t138 := Tryz.underlying248
  a138 := Tryz.isAgg248
  z138 := Tryz.sizeOf248
  v138 := Tryz.zeroValue248
  t139 := Tryz.underlying249
  a139 := Tryz.isAgg249
  z139 := Tryz.sizeOf249
  v139 := Tryz.zeroValue249
  g3 := by kernel_rfl
  g4 := by kernel_rfl }
def Tryz.laysGw15_ren : Go.Shelf.Ren := ⟨fun | 15 => 132 | 20 => 159 | n => n, fun | 9 => 9 | 23 => 153 | 3 => 3 | 4 => 4 | 0 => 0 | 21 => 21 | n => n, fun | n => n⟩
theorem Tryz.laysGw15 : Go.Proofs.LaysGw.n15 Tryz.prog Tryz.laysGw15_ren := {
  mixed := by kernel_rfl
  f15 := Tryz.func132.trans (congrArg some (by kernel_rfl))
  f20 := Tryz.func159.trans (congrArg some (by kernel_rfl))
  t0 := Tryz.underlying0
  a0 := Tryz.isAgg0
  z0 := Tryz.sizeOf0
  v0 := Tryz.zeroValue0
  i0 := by kernel_rfl
  t3 := Tryz.underlying3
  a3 := Tryz.isAgg3
  z3 := Tryz.sizeOf3
  v3 := Tryz.zeroValue3
  i3 := by kernel_rfl
  t4 := Tryz.underlying4
  a4 := Tryz.isAgg4
  z4 := Tryz.sizeOf4
  v4 := Tryz.zeroValue4
  i4 := by kernel_rfl
  t9 := Tryz.underlying9
  a9 := Tryz.isAgg9
  z9 := Tryz.sizeOf9
  v9 := Tryz.zeroValue9
  i9 := by kernel_rfl
  t21 := Tryz.underlying21
  a21 := Tryz.isAgg21
  z21 := Tryz.sizeOf21
  v21 := Tryz.zeroValue21
  i21 := by kernel_rfl
  t23 := Tryz.underlying153
  a23 := Tryz.isAgg153
  z23 := Tryz.sizeOf153
  v23 := Tryz.zeroValue153
  i23 := by kernel_rfl }
def Tryz.lays100_ren : Go.Shelf.Ren := ⟨fun | 100 => 130 | 207 => 158 | n => n, fun | 9 => 9 | 4 => 4 | 3 => 3 | n => n, fun | n => n⟩
theorem Tryz.lays100 : Go.Proofs.Lays.n100 Tryz.prog Tryz.lays100_ren := {
  mixed := by kernel_rfl
  f100 := Tryz.func130.trans (congrArg some (by kernel_rfl))
  f207 := Tryz.func158.trans (congrArg some (by kernel_rfl))
  t3 := Tryz.underlying3
  a3 := Tryz.isAgg3
  z3 := Tryz.sizeOf3
  v3 := Tryz.zeroValue3
  t4 := Tryz.underlying4
  a4 := Tryz.isAgg4
  z4 := Tryz.sizeOf4
  v4 := Tryz.zeroValue4
  t9 := Tryz.underlying9
  a9 := Tryz.isAgg9
  z9 := Tryz.sizeOf9
  v9 := Tryz.zeroValue9 }
open Go.RowKit Go.Lib in
theorem Tryz.strings_HasSuffix (s p : ByteArray) (w : World) (hs : s.size ≤ 9223372036854775807) :
    Calls Tryz.prog 130 #[.string s, .string p] w fun e w' => e = .returned (.bool (Lib.hasSuffix s.data.toList p.data.toList)) ∧ w' = w := Any.strings_HasSuffix Tryz.lays100 s p w hs
def Tryz.lays155_ren : Go.Shelf.Ren := ⟨fun | 155 => 129 | 154 => 157 | 138 => 178 | 165 => 179 | 143 => 86 | 166 => 180 | 197 => 160 | 169 => 144 | 195 => 192 | 218 => 193 | 240 => 194 | 241 => 195 | 219 => 113 | 260 => 181 | 276 => 201 | 277 => 202 | 217 => 137 | 225 => 138 | 224 => 139 | 267 => 140 | 266 => 168 | 314 => 169 | n => n, fun | 9 => 9 | 3 => 3 | 4 => 4 | 72 => 191 | 0 => 0 | 76 => 228 | 105 => 211 | 21 => 21 | 5 => 5 | 70 => 189 | 20 => 20 | 37 => 65 | 75 => 227 | 127 => 208 | 164 => 258 | 46 => 185 | 119 => 246 | 139 => 249 | 138 => 248 | 146 => 216 | 51 => 215 | 80 => 196 | n => n, fun | 1 => 0 | 3 => 4 | 4 => 5 | n => n⟩
theorem Tryz.lays155 : Go.Proofs.Lays.n155 Tryz.prog Tryz.lays155_ren := {
  mixed := by kernel_rfl
  f138 := Tryz.func178.trans (congrArg some (by kernel_rfl))
  f143 := Tryz.func86.trans (congrArg some (by kernel_rfl))
  f154 := Tryz.func157.trans (congrArg some (by kernel_rfl))
  f155 := Tryz.func129.trans (congrArg some (by kernel_rfl))
  f165 := Tryz.func179.trans (congrArg some (by kernel_rfl))
  f166 := Tryz.func180.trans (congrArg some (by kernel_rfl))
  f169 := Tryz.func144.trans (congrArg some (by kernel_rfl))
  f195 := Tryz.func192.trans (congrArg some (by kernel_rfl))
  f197 := Tryz.func160.trans (congrArg some (by kernel_rfl))
  f217 := Tryz.func137.trans (congrArg some (by kernel_rfl))
  f218 := Tryz.func193.trans (congrArg some (by kernel_rfl))
  f219 := Tryz.func113.trans (congrArg some (by kernel_rfl))
  f224 := Tryz.func139.trans (congrArg some (by kernel_rfl))
  f225 := Tryz.func138.trans (congrArg some (by kernel_rfl))
  f240 := Tryz.func194.trans (congrArg some (by kernel_rfl))
  f241 := Tryz.func195.trans (congrArg some (by kernel_rfl))
  f260 := Tryz.func181.trans (congrArg some (by kernel_rfl))
  f266 := Tryz.func168.trans (congrArg some (by kernel_rfl))
  f267 := Tryz.func140.trans (congrArg some (by kernel_rfl))
  f276 := Tryz.func201.trans (congrArg some (by kernel_rfl))
  f277 := Tryz.func202.trans (congrArg some (by kernel_rfl))
  f314 := Tryz.func169.trans (congrArg some (by kernel_rfl))
  t0 := Tryz.underlying0
  a0 := Tryz.isAgg0
  z0 := Tryz.sizeOf0
  v0 := Tryz.zeroValue0
  t3 := Tryz.underlying3
  a3 := Tryz.isAgg3
  z3 := Tryz.sizeOf3
  v3 := Tryz.zeroValue3
  t4 := Tryz.underlying4
  a4 := Tryz.isAgg4
  z4 := Tryz.sizeOf4
  v4 := Tryz.zeroValue4
  t5 := Tryz.underlying5
  a5 := Tryz.isAgg5
  z5 := Tryz.sizeOf5
  v5 := Tryz.zeroValue5
  t9 := Tryz.underlying9
  a9 := Tryz.isAgg9
  z9 := Tryz.sizeOf9
  v9 := Tryz.zeroValue9
  t20 := Tryz.underlying20
  a20 := Tryz.isAgg20
  z20 := Tryz.sizeOf20
  v20 := Tryz.zeroValue20
  t21 := Tryz.underlying21
  a21 := Tryz.isAgg21
  z21 := Tryz.sizeOf21
  v21 := Tryz.zeroValue21
  t37 := Tryz.underlying65
  a37 := Tryz.isAgg65
  z37 := Tryz.sizeOf65
  v37 := Tryz.zeroValue65
  t46 := Tryz.underlying185
  a46 := Tryz.isAgg185
  z46 := Tryz.sizeOf185
  v46 := Tryz.zeroValue185
  t51 := Tryz.underlying215
  a51 := Tryz.isAgg215
  z51 := Tryz.sizeOf215
  v51 := Tryz.zeroValue215
  t70 := Tryz.underlying189
  a70 := Tryz.isAgg189
  z70 := Tryz.sizeOf189
  v70 := Tryz.zeroValue189
  t72 := Tryz.underlying191
  a72 := Tryz.isAgg191
  z72 := Tryz.sizeOf191
  v72 := Tryz.zeroValue191
  t75 := Tryz.underlying227
  a75 := Tryz.isAgg227
  z75 := Tryz.sizeOf227
  v75 := Tryz.zeroValue227
  t76 := Tryz.underlying228
  a76 := Tryz.isAgg228
  z76 := Tryz.sizeOf228
  v76 := Tryz.zeroValue228
  t105 := Tryz.underlying211
  a105 := Tryz.isAgg211
  z105 := Tryz.sizeOf211
  v105 := Tryz.zeroValue211
  t119 := Tryz.underlying246
  a119 := Tryz.isAgg246
  z119 := Tryz.sizeOf246
  t127 := Tryz.underlying208
  a127 := Tryz.isAgg208
  z127 := Tryz.sizeOf208
  v127 := Tryz.zeroValue208
  t138 := Tryz.underlying248
  a138 := Tryz.isAgg248
  z138 := Tryz.sizeOf248
  v138 := Tryz.zeroValue248
  t139 := Tryz.underlying249
  a139 := Tryz.isAgg249
  z139 := Tryz.sizeOf249
  v139 := Tryz.zeroValue249
  t146 := Tryz.underlying216
  a146 := Tryz.isAgg216
  z146 := Tryz.sizeOf216
  v146 := Tryz.zeroValue216
  t164 := Tryz.underlying258
  a164 := Tryz.isAgg258
  z164 := Tryz.sizeOf258
  v164 := Tryz.zeroValue258
  g1 := by kernel_rfl
  g3 := by kernel_rfl
  g4 := by kernel_rfl }
theorem Tryz.Builder_Extra_155 : Builder.Extra Tryz.prog Tryz.lays155_ren := {
  sizeBuilder := by kernel_rfl
  liesBuilder := by kernel_rfl
  t5 := Tryz.underlying5
  a5 := Tryz.isAgg5
  z5 := Tryz.sizeOf5
  v5 := Tryz.zeroValue5
  infoByte := by kernel_rfl
  cellsByte := by kernel_rfl
  sizeByte := by kernel_rfl
  neB5 := by decide }
open Go.RowKit Go.Lib in
theorem Tryz.strings_ReplaceAll (s old new : ByteArray) (m : Int) (w : World) (hs : s.size < 4294967281) (hm : w.cell? ⟨0, 0, none⟩ = some (.int .i64 m)) (h1 : 1 ≤ old.size) (hlen : s.size + Lib.countB s old * new.size ≤ 140737488355328) :
    Calls Tryz.prog 129 #[.string s, .string old, .string new] w fun e w' =>
      e = .returned (.string ⟨(Lib.replaceAll s.data.toList old.data.toList new.data.toList).toArray⟩) ∧ Below w.heap.size w w' := Any.strings_ReplaceAll Tryz.lays155 Tryz.Builder_Extra_155 s old new m w hs hm h1 hlen
open Go.RowKit Go.Lib in
theorem Tryz.strings_TrimLeftFunc_grows (g : Nat) (lb : Array Value) (eg : ∀ args w, (callFunc g args).run Tryz.prog w = .ok (.enter g args) w) (p : Nat → Bool) (s : ByteArray) (w : World) (hp : PredGrows Tryz.prog g lb p w) :
    Calls Tryz.prog 184 #[.string s, .func (.func g) #[] lb] w fun e w' => e = .returned (.string (Lib.trimLeftF p s)) ∧ Below w.heap.size w w' := Any.strings_TrimLeftFunc_grows Tryz.lays272 g lb eg p s w hp
open Go.RowKit Go.Lib in
theorem Tryz.strings_TrimRightFunc_grows (g : Nat) (lb : Array Value) (eg : ∀ args w, (callFunc g args).run Tryz.prog w = .ok (.enter g args) w) (p : Nat → Bool) (s : ByteArray) (w : World) (hs : s.size ≤ 9223372036854775807) (hT : Lib.Utf8Tabs 4 5 w) (hp : PredGrows Tryz.prog g lb p w) :
    Calls Tryz.prog 135 #[.string s, .func (.func g) #[] lb] w fun e w' => e = .returned (.string (Lib.trimRightF p s)) ∧ Below w.heap.size w w' := Any.strings_TrimRightFunc_grows Tryz.lays238 g lb eg p s w hs hT hp
open Go.RowKit Go.Lib in
theorem Tryz.strings_IndexFunc_grows (g : Nat) (lb : Array Value) (eg : ∀ args w, (callFunc g args).run Tryz.prog w = .ok (.enter g args) w) (p : Nat → Bool) (s : ByteArray) (w : World) (hp : PredGrows Tryz.prog g lb p w) :
    Calls Tryz.prog 132 #[.string s, .func (.func g) #[] lb] w fun e w' => e = .returned (.int .i64 (Lib.idxFunc p true s)) ∧ Below w.heap.size w w' := Any.strings_IndexFunc_grows Tryz.laysGw15 g lb eg p s w hp
end Go.Proofs.YtnomcldpbkinmaaGreatDoor

/- Plain functions on numbers and bytes: what package utf and the document's answer compute. No program is named here. -/
namespace Go.Proofs.YtnomcldpbkinmaaGreatDoor

/-- The byte at a place, as a number (0 beyond the end). -/
def bt (s : ByteArray) (k : Nat) : Int := ((s.data.toList.getD k 0).toNat : Int)
theorem bt_lo (s : ByteArray) (k : Nat) : 0 ≤ bt s k := by unfold bt; omega
theorem bt_hi (s : ByteArray) (k : Nat) : bt s k < 256 := by unfold bt; have := (s.data.toList.getD k 0).toNat_lt; omega
theorem bt_eq (s : ByteArray) (k : Nat) (h : k < s.size) : ((s[k]).toNat : Int) = bt s k := by
  unfold bt
  have h' : k < s.data.toList.length := by simpa using h
  rw [List.getD_eq_getElem?_getD, List.getElem?_eq_getElem h']
  rfl

/-- How many bytes a first byte says that its rune has, and that byte's bits. -/
def leadN (b : Int) : Nat := if b < 128 then 1 else if b < 192 then 0 else if b < 224 then 2 else if b < 240 then 3 else if b < 248 then 4 else 0
def leadR (b : Int) : Int := if b < 128 then b else if b < 192 then 0 else if b < 224 then b - 192 else if b < 240 then b - 224 else if b < 248 then b - 240 else 0

def least (n : Nat) : Int := if n = 1 then 0 else if n = 2 then 128 else if n = 3 then 2048 else 65536
def most (n : Nat) : Int := if n = 1 then 127 else if n = 2 then 2047 else if n = 3 then 65535 else 1114111
def p64 (n : Nat) : Int := if n = 0 then 1 else if n = 1 then 64 else if n = 2 then 4096 else 262144
def possB (r : Int) (k n : Nat) : Bool :=
  n != 0 && !(decide (55296 ≤ r * p64 (n - k)) && decide (r * p64 (n - k) + p64 (n - k) - 1 ≤ 57343)) && decide (r * p64 (n - k) ≤ most n) && decide (least n ≤ r * p64 (n - k) + p64 (n - k) - 1)

/-- The decoder's loop: 'b k' is the k-th byte from the place on, of which there are 'left'. -/
def rgo (b : Nat → Int) (left n : Nat) : Nat → Nat → Int → Int × Int × Int
  | 0, _, _ => (0, 0, 2)
  | f + 1, k, r => if possB r k n = false then (0, 0, 2) else if k = n then (r, n, 0) else if k = left then (0, 0, 7) else if b k / 64 = 2 then rgo b left n f (k + 1) (r * 64 + b k % 64) else (0, 0, 2)

/-- A rune, by its first bytes: the rune, how many bytes, the error's number. -/
def canon (b : Nat → Int) (left : Nat) : Int × Int × Int :=
  if b 0 < 128 then (b 0, 1, 0)
  else if b 0 < 194 then (0, 0, 2)
  else if b 0 < 224 then
    if left < 2 then (0, 0, 7) else if b 1 < 128 ∨ 191 < b 1 then (0, 0, 2) else ((b 0 - 192) * 64 + (b 1 - 128), 2, 0)
  else if b 0 < 240 then
    if left < 2 then (0, 0, 7)
    else if b 1 < (if b 0 = 224 then 160 else 128) ∨ (if b 0 = 237 then 159 else 191) < b 1 then (0, 0, 2)
    else if left < 3 then (0, 0, 7) else if b 2 < 128 ∨ 191 < b 2 then (0, 0, 2)
    else ((b 0 - 224) * 4096 + (b 1 - 128) * 64 + (b 2 - 128), 3, 0)
  else if b 0 < 245 then
    if left < 2 then (0, 0, 7)
    else if b 1 < (if b 0 = 240 then 144 else 128) ∨ (if b 0 = 244 then 143 else 191) < b 1 then (0, 0, 2)
    else if left < 3 then (0, 0, 7) else if b 2 < 128 ∨ 191 < b 2 then (0, 0, 2)
    else if left < 4 then (0, 0, 7) else if b 3 < 128 ∨ 191 < b 3 then (0, 0, 2)
    else ((b 0 - 240) * 262144 + (b 1 - 128) * 4096 + (b 2 - 128) * 64 + (b 3 - 128), 4, 0)
  else (0, 0, 2)

theorem possB_eq (r : Int) (k n : Nat) (c : Bool) (h : (n ≠ 0 ∧ ¬ (55296 ≤ r * p64 (n - k) ∧ r * p64 (n - k) + p64 (n - k) - 1 ≤ 57343) ∧ r * p64 (n - k) ≤ most n ∧ least n ≤ r * p64 (n - k) + p64 (n - k) - 1) ↔ c = true) : possB r k n = c := by
  rw [Bool.eq_iff_iff, ← h]
  simp [possB, and_assoc]
  omega

theorem rgo_step (b : Nat → Int) (left n f k : Nat) (r : Int) : rgo b left n (f + 1) k r = if possB r k n = false then (0, 0, 2) else if k = n then (r, (n : Int), 0) else if k = left then (0, 0, 7) else if b k / 64 = 2 then rgo b left n f (k + 1) (r * 64 + b k % 64) else (0, 0, 2) := rfl

theorem possB_false (r : Int) (k n : Nat) : possB r k n = false ↔ (n = 0 ∨ (55296 ≤ r * p64 (n - k) ∧ r * p64 (n - k) + p64 (n - k) - 1 ≤ 57343) ∨ most n < r * p64 (n - k) ∨ r * p64 (n - k) + p64 (n - k) - 1 < least n) := by
  simp [possB]
  omega

theorem p64_0 : p64 0 = 1 := rfl
theorem p64_1 : p64 1 = 64 := rfl
theorem p64_2 : p64 2 = 4096 := rfl
theorem p64_3 : p64 3 = 262144 := rfl
theorem least1 : least 1 = 0 := rfl
theorem most1 : most 1 = 127 := rfl
theorem least2 : least 2 = 128 := rfl
theorem least3 : least 3 = 2048 := rfl
theorem least4 : least 4 = 65536 := rfl
theorem most2 : most 2 = 2047 := rfl
theorem most3 : most 3 = 65535 := rfl
theorem most4 : most 4 = 1114111 := rfl
theorem tri {a b c a1 b1 c1 : Int} (h : a = a1) (h1 : b = b1) (h2 : c = c1) : (a, b, c) = (a1, b1, c1) := by subst h h1 h2; rfl
theorem rgo0 (b : Nat → Int) (left f : Nat) (r : Int) (k : Nat) : rgo b left 0 (f + 1) k r = (0, 0, 2) := by simp [rgo, possB]

/-- Rune: of whatever bytes, at whatever place. -/
def runeF (s : ByteArray) (a : Int) : Int × Int × Int := if a < 0 ∨ (s.size : Int) ≤ a then (0, 0, 7) else canon (fun k => bt s (a.toNat + k)) (s.size - a.toNat)

/-- All: from a place on. -/
def allGo (s : ByteArray) : Nat → Nat → List Int × Int × Int
  | 0, a => ([], a, 0)
  | f + 1, a => if s.size ≤ a then ([], a, 0) else if (runeF s a).2.2 = 0 then ((runeF s a).1 :: (allGo s f (a + (runeF s a).2.1.toNat)).1, (allGo s f (a + (runeF s a).2.1.toNat)).2) else ([], a, (runeF s a).2.2)
def allF (s : ByteArray) : List Int × Int × Int := allGo s s.size 0

def Okay (left : Nat) (x : Int × Int × Int) : Prop := (x.2.2 = 0 ∧ 1 ≤ x.2.1 ∧ x.2.1 ≤ 4 ∧ x.2.1 ≤ left ∧ 0 ≤ x.1 ∧ x.1 ≤ 1114111 ∧ ¬ (55296 ≤ x.1 ∧ x.1 ≤ 57343)) ∨ (x.1 = 0 ∧ x.2.1 = 0 ∧ (x.2.2 = 2 ∨ x.2.2 = 7))
theorem okay_ite {left : Nat} {c : Prop} [Decidable c] {x y : Int × Int × Int} (h1 : c → Okay left x) (h2 : ¬ c → Okay left y) : Okay left (if c then x else y) := by
  by_cases h : c
  · rw [if_pos h]; exact h1 h
  · rw [if_neg h]; exact h2 h
theorem okay2 {left : Nat} : Okay left (0, 0, 2) := .inr ⟨rfl, rfl, .inl rfl⟩
theorem okay7 {left : Nat} : Okay left (0, 0, 7) := .inr ⟨rfl, rfl, .inr rfl⟩
theorem okay_mk {left : Nat} {r n : Int} (h1 : 1 ≤ n) (h2 : n ≤ 4) (h3 : n ≤ left) (h4 : 0 ≤ r) (h5 : r ≤ 1114111) (h6 : ¬ (55296 ≤ r ∧ r ≤ 57343)) : Okay left (r, n, 0) := .inl ⟨rfl, h1, h2, h3, h4, h5, h6⟩
theorem canon_okay (b : Nat → Int) (left : Nat) (hl : 1 ≤ left) (h0 : ∀ k, 0 ≤ b k) : Okay left (canon b left) := by
  have a0 := h0 0
  have b0 := h0 1
  have c0 := h0 2
  have d0 := h0 3
  unfold canon
  refine okay_ite (fun h => okay_mk (by omega) (by omega) (by omega) (by omega) (by omega) (by omega)) fun h => ?_
  refine okay_ite (fun h => okay2) fun h => ?_
  refine okay_ite (fun h => okay_ite (fun h => okay7) fun h => okay_ite (fun h => okay2) fun h => okay_mk (by omega) (by omega) (by omega) (by omega) (by omega) (by omega)) fun h => ?_
  refine okay_ite (fun h => okay_ite (fun h => okay7) fun h => okay_ite (fun h => okay2) fun h => okay_ite (fun h => okay7) fun h => okay_ite (fun h => okay2) fun h => okay_mk (by omega) (by omega) (by omega) (by omega) (by omega) (by omega)) fun h => ?_
  refine okay_ite (fun h => okay_ite (fun h => okay7) fun h => okay_ite (fun h => okay2) fun h => okay_ite (fun h => okay7) fun h => okay_ite (fun h => okay2) fun h => okay_ite (fun h => okay7) fun h => okay_ite (fun h => okay2) fun h => okay_mk (by omega) (by omega) (by omega) (by omega) (by omega) (by omega)) fun h => ?_
  exact okay2
theorem runeF_okay (s : ByteArray) (a : Nat) (h : a < s.size) : Okay (s.size - a) (runeF s a) := by
  unfold runeF
  rw [if_neg (by omega)]
  simp only [Int.toNat_natCast]
  exact canon_okay _ _ (by omega) fun k => bt_lo s _
theorem allGo_done (s : ByteArray) (f a : Nat) (h : s.size ≤ a) : allGo s f a = ([], (a : Int), 0) := by
  cases f with
  | zero => rfl
  | succ f => rw [allGo, if_pos h]
theorem allGo_err (s : ByteArray) (f a : Nat) (h : a < s.size) (he : (runeF s a).2.2 ≠ 0) : allGo s (f + 1) a = ([], (a : Int), (runeF s a).2.2) := by
  rw [allGo, if_neg (by omega), if_neg he]
theorem allGo_ok (s : ByteArray) (f a : Nat) (h : a < s.size) (he : (runeF s a).2.2 = 0) :
    allGo s (f + 1) a = ((runeF s a).1 :: (allGo s f (a + (runeF s a).2.1.toNat)).1, (allGo s f (a + (runeF s a).2.1.toNat)).2) := by
  rw [allGo, if_neg (by omega), if_pos he]
/-- The fuel does not matter, where there is enough of it. -/
theorem allGo_fuel (s : ByteArray) : ∀ (f g a : Nat), s.size - a ≤ f → s.size - a ≤ g → allGo s f a = allGo s g a
  | 0, g, a, hf, _ => by rw [allGo_done s 0 a (by omega), allGo_done s g a (by omega)]
  | f + 1, 0, a, _, hg => by rw [allGo_done s 0 a (by omega), allGo_done s (f + 1) a (by omega)]
  | f + 1, g + 1, a, hf, hg => by
    by_cases h : s.size ≤ a
    · rw [allGo_done s _ a h, allGo_done s _ a h]
    by_cases he : (runeF s a).2.2 = 0
    · have hk := runeF_okay s a (by omega)
      rw [allGo_ok s f a (by omega) he, allGo_ok s g a (by omega) he]
      have h1 : 1 ≤ (runeF s a).2.1 := by
        rcases hk with hk | hk
        · exact hk.2.1
        · omega
      rw [allGo_fuel s f g (a + (runeF s a).2.1.toNat) (by omega) (by omega)]
    · rw [allGo_err s f a (by omega) he, allGo_err s g a (by omega) he]
def allAt (s : ByteArray) (a : Nat) : List Int × Int × Int := allGo s (s.size - a) a
theorem allF_eq (s : ByteArray) : allF s = allAt s 0 := rfl
theorem allAt_done (s : ByteArray) (a : Nat) (h : s.size ≤ a) : allAt s a = ([], (a : Int), 0) := allGo_done s _ a h
theorem allAt_err (s : ByteArray) (a : Nat) (h : a < s.size) (he : (runeF s a).2.2 ≠ 0) : allAt s a = ([], (a : Int), (runeF s a).2.2) := by
  unfold allAt
  rw [show s.size - a = (s.size - a - 1) + 1 by omega]
  exact allGo_err s _ a h he
theorem allAt_ok (s : ByteArray) (a : Nat) (h : a < s.size) (he : (runeF s a).2.2 = 0) :
    allAt s a = ((runeF s a).1 :: (allAt s (a + (runeF s a).2.1.toNat)).1, (allAt s (a + (runeF s a).2.1.toNat)).2) := by
  have hk := runeF_okay s a h
  have h1 : 1 ≤ (runeF s a).2.1 := by
    rcases hk with hk | hk
    · exact hk.2.1
    · omega
  unfold allAt
  rw [show s.size - a = (s.size - a - 1) + 1 by omega, allGo_ok s _ a h he]
  rw [allGo_fuel s (s.size - a - 1) (s.size - (a + (runeF s a).2.1.toNat)) _ (by omega) (by omega)]
end Go.Proofs.YtnomcldpbkinmaaGreatDoor

/- A rune's bytes, as numbers. -/
set_option linter.unusedSimpArgs false
set_option linter.unusedVariables false
namespace Go.Proofs.YtnomcldpbkinmaaGreatDoor

def encB (r : Int) : List Int :=
  if r < 128 then [r] else if r < 2048 then [192 + r / 64, 128 + r % 64] else if r < 65536 then [224 + r / 4096, 128 + r / 64 % 64, 128 + r % 64]
  else [240 + r / 262144, 128 + r / 4096 % 64, 128 + r / 64 % 64, 128 + r % 64]
/-- It has no bytes. -/
def Bad (r : Int) : Prop := r < 0 ∨ 1114111 < r ∨ (55296 ≤ r ∧ r ≤ 57343)
instance (r : Int) : Decidable (Bad r) := by unfold Bad; infer_instance
def putI (r : Int) : List Int := if Bad r then encB 65533 else encB r
def refPut (r : Int) : List Int := if Bad r then [] else encB r
theorem enc1 {r : Int} (h : r < 128) : encB r = [r] := by simp [encB, h]
theorem enc2 {r : Int} (h : 128 ≤ r) (h2 : r < 2048) : encB r = [192 + r / 64, 128 + r % 64] := by
  simp only [encB]; rw [if_neg (by omega), if_pos h2]
theorem enc3 {r : Int} (h : 2048 ≤ r) (h2 : r < 65536) : encB r = [224 + r / 4096, 128 + r / 64 % 64, 128 + r % 64] := by
  simp only [encB]; rw [if_neg (by omega), if_neg (by omega), if_pos h2]
theorem enc4 {r : Int} (h : 65536 ≤ r) : encB r = [240 + r / 262144, 128 + r / 4096 % 64, 128 + r / 64 % 64, 128 + r % 64] := by
  simp only [encB]; rw [if_neg (by omega), if_neg (by omega), if_neg (by omega)]
theorem putI_ok {r : Int} (h : ¬ Bad r) : putI r = encB r := by simp only [putI, if_neg h]
theorem encB_len (r : Int) : 1 ≤ (encB r).length ∧ (encB r).length ≤ 4 := by
  unfold encB
  repeat' split
  all_goals simp
theorem putI_len (r : Int) : 1 ≤ (putI r).length ∧ (putI r).length ≤ 4 := by
  unfold putI
  split
  · exact encB_len _
  · exact encB_len _
end Go.Proofs.YtnomcldpbkinmaaGreatDoor
