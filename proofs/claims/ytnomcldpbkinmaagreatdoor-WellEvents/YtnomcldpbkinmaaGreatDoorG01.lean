/- Lemmas of the claim. -/
import Derived.Test.YtnomcldpbkinmaaGreatDoorProg
import Derived.Shelf.Strings.Builder1
import Derived.Shelf.Strings.Builder2
import Derived.Shelf.Small.Wraps
import Derived.Shelf.Strings.Search1
import Derived.Shelf.Strings.Search2
import Derived.Shelf.Strings.Search3
import Derived.Shelf.Strings.Cut
import Derived.Shelf.Strings.Count
import Derived.Shelf.LaysM
import Derived.Shelf.GgClosure.StringsIndexFunc
import Derived.Shelf.GgClosure.StringsTrimFunc
import Derived.Ground.GgwProg
import Derived.Shelf.GgClosure.StringsIndexFuncTop
import Derived.Shelf.Strings.Prefix
import Derived.Shelf.Strings.Split
import Derived.Shelf.Strings.Replace
import Derived.Shelf.Unicode.DecodeSlow
import Derived.Shelf.Unicode.DecodeAny
import Derived.Shelf.Unicode.DecodeLast
import Derived.Shelf.Strings.FuncGrows
namespace Go.Proofs.YtnomcldpbkinmaaGreatDoor
theorem aac {p:Prop}(h:p):Go.RowKit.Hid p:=h
end Go.Proofs.YtnomcldpbkinmaaGreatDoor
set_option linter.unusedVariables false
namespace Go.Proofs.YtnomcldpbkinmaaGreatDoor
open Go.Shelf
def Tryz.alF:Go.Shelf.Ren:=⟨fun | 104=>136 | 211=>167 | 207=>158 | n=>n,fun | 9=>9 | 4=>4 | 24=>97 | 3=>3 | n=>n,fun | n=>n⟩
theorem Tryz.lays104:Go.Proofs.Lays.n104 Tryz.prog Tryz.alF:={
 mixed:=by kernel_rfl
 f104:=Tryz.func136.trans (congrArg some (by kernel_rfl))
 f207:=Tryz.func158.trans (congrArg some (by kernel_rfl))
 f211:=Tryz.func167.trans (congrArg some (by kernel_rfl))
 t3:=Tryz.underlying3
 a3:=Tryz.isAgg3
 z3:=Tryz.sizeOf3
 v3:=Tryz.zeroValue3
 t4:=Tryz.underlying4
 a4:=Tryz.isAgg4
 z4:=Tryz.sizeOf4
 v4:=Tryz.zeroValue4
 t9:=Tryz.underlying9
 a9:=Tryz.isAgg9
 z9:=Tryz.sizeOf9
 v9:=Tryz.zeroValue9
 t24:=Tryz.underlying97
 a24:=Tryz.isAgg97
 z24:=Tryz.sizeOf97
 v24:=Tryz.zeroValue97 }
open Go.RowKit in
theorem Tryz.strings_CutSuffix (s p:ByteArray)(w:World)(hs:s.size≤9223372036854775807):
 Calls Tryz.prog 136 #[.string s,.string p] w fun e w'=>e=.returned (.tuple #[.string ⟨(Lib.trimSuffix s.data.toList p.data.toList).toArray⟩,.bool (Lib.hasSuffix s.data.toList p.data.toList)])∧w'=w:=Any.strings_CutSuffix Tryz.lays104 s p w hs
def Tryz.alG:Go.Shelf.Ren:=⟨fun | 143=>86 | 219=>113 | 217=>137 | 225=>138 | 224=>139 | 267=>140 | 266=>168 | 314=>169 | n=>n,fun | 9=>9 | 3=>3 | 4=>4 | 5=>5 | 46=>185 | 146=>216 | 51=>215 | n=>n,fun | 1=>0 | n=>n⟩
theorem Tryz.lays143:Go.Proofs.Lays.n143 Tryz.prog Tryz.alG:={
 mixed:=by kernel_rfl
 f143:=Tryz.func86.trans (congrArg some (by kernel_rfl))
 f217:=Tryz.func137.trans (congrArg some (by kernel_rfl))
 f219:=Tryz.func113.trans (congrArg some (by kernel_rfl))
 f224:=Tryz.func139.trans (congrArg some (by kernel_rfl))
 f225:=Tryz.func138.trans (congrArg some (by kernel_rfl))
 f266:=Tryz.func168.trans (congrArg some (by kernel_rfl))
 f267:=Tryz.func140.trans (congrArg some (by kernel_rfl))
 f314:=Tryz.func169.trans (congrArg some (by kernel_rfl))
 t3:=Tryz.underlying3
 a3:=Tryz.isAgg3
 z3:=Tryz.sizeOf3
 v3:=Tryz.zeroValue3
 t4:=Tryz.underlying4
 a4:=Tryz.isAgg4
 z4:=Tryz.sizeOf4
 v4:=Tryz.zeroValue4
 t5:=Tryz.underlying5
 a5:=Tryz.isAgg5
 z5:=Tryz.sizeOf5
 v5:=Tryz.zeroValue5
 t9:=Tryz.underlying9
 a9:=Tryz.isAgg9
 z9:=Tryz.sizeOf9
 v9:=Tryz.zeroValue9
 t46:=Tryz.underlying185
 a46:=Tryz.isAgg185
 z46:=Tryz.sizeOf185
 v46:=Tryz.zeroValue185
 t51:=Tryz.underlying215
 a51:=Tryz.isAgg215
 z51:=Tryz.sizeOf215
 v51:=Tryz.zeroValue215
 t146:=Tryz.underlying216
 a146:=Tryz.isAgg216
 z146:=Tryz.sizeOf216
 v146:=Tryz.zeroValue216
 g1:=by kernel_rfl }
open Go.RowKit Go.Lib in
theorem Tryz.strings_Index (s sub:ByteArray)(m:Int)(w:World)(hs:s.size < 4294967281)(hm:w.cell? ⟨0,0,none⟩=some (.int .i64 m)):
 Calls Tryz.prog 86 #[.string s,.string sub] w fun e w'=>e=.returned (.int .i64 (Lib.index s.data.toList sub.data.toList))∧w'=w:=Any.strings_Index Tryz.lays143 s sub m w hs hm
def Tryz.alU:Go.Shelf.Ren:=⟨fun | 144=>88 | 143=>86 | 219=>113 | 217=>137 | 225=>138 | 224=>139 | 267=>140 | 266=>168 | 314=>169 | n=>n,fun | 9=>9 | 4=>4 | 3=>3 | 5=>5 | 46=>185 | 146=>216 | 51=>215 | n=>n,fun | 1=>0 | n=>n⟩
theorem Tryz.lays144:Go.Proofs.Lays.n144 Tryz.prog Tryz.alU:={
 mixed:=by kernel_rfl
 f143:=Tryz.func86.trans (congrArg some (by kernel_rfl))
 f144:=Tryz.func88.trans (congrArg some (by kernel_rfl))
 f217:=Tryz.func137.trans (congrArg some (by kernel_rfl))
 f219:=Tryz.func113.trans (congrArg some (by kernel_rfl))
 f224:=Tryz.func139.trans (congrArg some (by kernel_rfl))
 f225:=Tryz.func138.trans (congrArg some (by kernel_rfl))
 f266:=Tryz.func168.trans (congrArg some (by kernel_rfl))
 f267:=Tryz.func140.trans (congrArg some (by kernel_rfl))
 f314:=Tryz.func169.trans (congrArg some (by kernel_rfl))
 t3:=Tryz.underlying3
 a3:=Tryz.isAgg3
 z3:=Tryz.sizeOf3
 v3:=Tryz.zeroValue3
 t4:=Tryz.underlying4
 a4:=Tryz.isAgg4
 z4:=Tryz.sizeOf4
 v4:=Tryz.zeroValue4
 t5:=Tryz.underlying5
 a5:=Tryz.isAgg5
 z5:=Tryz.sizeOf5
 v5:=Tryz.zeroValue5
 t9:=Tryz.underlying9
 a9:=Tryz.isAgg9
 z9:=Tryz.sizeOf9
 v9:=Tryz.zeroValue9
 t46:=Tryz.underlying185
 a46:=Tryz.isAgg185
 z46:=Tryz.sizeOf185
 v46:=Tryz.zeroValue185
 t51:=Tryz.underlying215
 a51:=Tryz.isAgg215
 z51:=Tryz.sizeOf215
 v51:=Tryz.zeroValue215
 t146:=Tryz.underlying216
 a146:=Tryz.isAgg216
 z146:=Tryz.sizeOf216
 v146:=Tryz.zeroValue216
 g1:=by kernel_rfl }
open Go.RowKit Go.Lib in
theorem Tryz.strings_Contains (s sub:ByteArray)(m:Int)(w:World)(hs:s.size < 4294967281)(hm:w.cell? ⟨0,0,none⟩=some (.int .i64 m)):
 Calls Tryz.prog 88 #[.string s,.string sub] w fun e w'=>e=.returned (.bool (Lib.contains s.data.toList sub.data.toList))∧w'=w:=Any.strings_Contains Tryz.lays144 s sub m w hs hm
def Tryz.ald:Go.Shelf.Ren:=⟨fun | 145=>123 | 220=>154 | 219=>113 | 217=>137 | 225=>138 | 224=>139 | 267=>140 | 266=>168 | 314=>169 | n=>n,fun | 9=>9 | 4=>4 | 59=>82 | 3=>3 | 5=>5 | 46=>185 | 146=>216 | 51=>215 | n=>n,fun | 1=>0 | n=>n⟩
theorem Tryz.lays145:Go.Proofs.Lays.n145 Tryz.prog Tryz.ald:={
 mixed:=by kernel_rfl
 f145:=Tryz.func123.trans (congrArg some (by kernel_rfl))
 f217:=Tryz.func137.trans (congrArg some (by kernel_rfl))
 f219:=Tryz.func113.trans (congrArg some (by kernel_rfl))
 f220:=Tryz.func154.trans (congrArg some (by kernel_rfl))
 f224:=Tryz.func139.trans (congrArg some (by kernel_rfl))
 f225:=Tryz.func138.trans (congrArg some (by kernel_rfl))
 f266:=Tryz.func168.trans (congrArg some (by kernel_rfl))
 f267:=Tryz.func140.trans (congrArg some (by kernel_rfl))
 f314:=Tryz.func169.trans (congrArg some (by kernel_rfl))
 t3:=Tryz.underlying3
 a3:=Tryz.isAgg3
 z3:=Tryz.sizeOf3
 v3:=Tryz.zeroValue3
 t4:=Tryz.underlying4
 a4:=Tryz.isAgg4
 z4:=Tryz.sizeOf4
 v4:=Tryz.zeroValue4
 t5:=Tryz.underlying5
 a5:=Tryz.isAgg5
 z5:=Tryz.sizeOf5
 v5:=Tryz.zeroValue5
 t9:=Tryz.underlying9
 a9:=Tryz.isAgg9
 z9:=Tryz.sizeOf9
 v9:=Tryz.zeroValue9
 t46:=Tryz.underlying185
 a46:=Tryz.isAgg185
 z46:=Tryz.sizeOf185
 v46:=Tryz.zeroValue185
 t51:=Tryz.underlying215
 a51:=Tryz.isAgg215
 z51:=Tryz.sizeOf215
 v51:=Tryz.zeroValue215
 t59:=Tryz.underlying82
 a59:=Tryz.isAgg82
 z59:=Tryz.sizeOf82
 v59:=Tryz.zeroValue82
 t146:=Tryz.underlying216
 a146:=Tryz.isAgg216
 z146:=Tryz.sizeOf216
 v146:=Tryz.zeroValue216
 g1:=by kernel_rfl }
open Go.RowKit Go.Lib in
theorem Tryz.strings_Cut (s sep:ByteArray)(m:Int)(w:World)(hs:s.size < 4294967281)(hm:w.cell? ⟨0,0,none⟩=some (.int .i64 m)):
 Calls Tryz.prog 123 #[.string s,.string sep] w fun e w'=>e=.returned (.tuple #[.string ⟨(Lib.cut s.data.toList sep.data.toList).1.toArray⟩,.string ⟨(Lib.cut s.data.toList sep.data.toList).2.1.toArray⟩,.bool (Lib.cut s.data.toList sep.data.toList).2.2])∧∃ n,w'=w.drewN n:=Any.strings_Cut Tryz.lays145 s sep m w hs hm
def Tryz.ame:Go.Shelf.Ren:=⟨fun | 272=>184 | 315=>159 | n=>n,fun | 9=>9 | 40=>153 | 4=>4 | 3=>3 | 0=>0 | 21=>21 | n=>n,fun | n=>n⟩
theorem Tryz.lays272:Go.Proofs.Lays.n272 Tryz.prog Tryz.ame:={
 mixed:=by kernel_rfl
 f272:=Tryz.func184.trans (congrArg some (by kernel_rfl))
 f315:=Tryz.func159.trans (congrArg some (by kernel_rfl))
 t0:=Tryz.underlying0
 a0:=Tryz.isAgg0
 z0:=Tryz.sizeOf0
 v0:=Tryz.zeroValue0
 t3:=Tryz.underlying3
 a3:=Tryz.isAgg3
 z3:=Tryz.sizeOf3
 v3:=Tryz.zeroValue3
 t4:=Tryz.underlying4
 a4:=Tryz.isAgg4
 z4:=Tryz.sizeOf4
 v4:=Tryz.zeroValue4
 t9:=Tryz.underlying9
 a9:=Tryz.isAgg9
 z9:=Tryz.sizeOf9
 v9:=Tryz.zeroValue9
 t21:=Tryz.underlying21
 a21:=Tryz.isAgg21
 z21:=Tryz.sizeOf21
 v21:=Tryz.zeroValue21
 t40:=Tryz.underlying153
 a40:=Tryz.isAgg153
 z40:=Tryz.sizeOf153
 v40:=Tryz.zeroValue153 }
def Tryz.alL:Go.Shelf.Ren:=⟨fun | 238=>135 | 273=>166 | 197=>160 | 271=>185 | 260=>181 | 120=>196 | n=>n,fun | 9=>9 | 40=>153 | 4=>4 | 3=>3 | 105=>211 | 21=>21 | 5=>5 | 119=>246 | 0=>0 | 46=>185 | 139=>249 | 138=>248 | n=>n,fun | 3=>4 | 4=>5 | n=>n⟩
theorem Tryz.lays238:Go.Proofs.Lays.n238 Tryz.prog Tryz.alL:={
 mixed:=by kernel_rfl
 f120:=Tryz.func196.trans (congrArg some (by kernel_rfl))
 f197:=Tryz.func160.trans (congrArg some (by kernel_rfl))
 f238:=Tryz.func135.trans (congrArg some (by kernel_rfl))
 f260:=Tryz.func181.trans (congrArg some (by kernel_rfl))
 f271:=Tryz.func185.trans (congrArg some (by kernel_rfl))
 f273:=Tryz.func166.trans (congrArg some (by kernel_rfl))
 t0:=Tryz.underlying0
 a0:=Tryz.isAgg0
 z0:=Tryz.sizeOf0
 v0:=Tryz.zeroValue0
 t3:=Tryz.underlying3
 a3:=Tryz.isAgg3
 z3:=Tryz.sizeOf3
 v3:=Tryz.zeroValue3
 t4:=Tryz.underlying4
 a4:=Tryz.isAgg4
 z4:=Tryz.sizeOf4
 v4:=Tryz.zeroValue4
 t5:=Tryz.underlying5
 a5:=Tryz.isAgg5
 z5:=Tryz.sizeOf5
 v5:=Tryz.zeroValue5
 t9:=Tryz.underlying9
 a9:=Tryz.isAgg9
 z9:=Tryz.sizeOf9
 v9:=Tryz.zeroValue9
 t21:=Tryz.underlying21
 a21:=Tryz.isAgg21
 z21:=Tryz.sizeOf21
 v21:=Tryz.zeroValue21
 t40:=Tryz.underlying153
 a40:=Tryz.isAgg153
 z40:=Tryz.sizeOf153
 v40:=Tryz.zeroValue153
 t46:=Tryz.underlying185
 a46:=Tryz.isAgg185
 z46:=Tryz.sizeOf185
 v46:=Tryz.zeroValue185
 t105:=Tryz.underlying211
 a105:=Tryz.isAgg211
 z105:=Tryz.sizeOf211
 v105:=Tryz.zeroValue211
 t119:=Tryz.underlying246
 a119:=Tryz.isAgg246
 z119:=Tryz.sizeOf246
 t138:=Tryz.underlying248
 a138:=Tryz.isAgg248
 z138:=Tryz.sizeOf248
 v138:=Tryz.zeroValue248
 t139:=Tryz.underlying249
 a139:=Tryz.isAgg249
 z139:=Tryz.sizeOf249
 v139:=Tryz.zeroValue249
 g3:=by kernel_rfl
 g4:=by kernel_rfl }
def Tryz.akd:Go.Shelf.Ren:=⟨fun | 15=>132 | 20=>159 | n=>n,fun | 9=>9 | 23=>153 | 3=>3 | 4=>4 | 0=>0 | 21=>21 | n=>n,fun | n=>n⟩
theorem Tryz.aul:Go.Proofs.LaysGw.n15 Tryz.prog Tryz.akd:={
 mixed:=by kernel_rfl
 f15:=Tryz.func132.trans (congrArg some (by kernel_rfl))
 f20:=Tryz.func159.trans (congrArg some (by kernel_rfl))
 t0:=Tryz.underlying0
 a0:=Tryz.isAgg0
 z0:=Tryz.sizeOf0
 v0:=Tryz.zeroValue0
 i0:=by kernel_rfl
 t3:=Tryz.underlying3
 a3:=Tryz.isAgg3
 z3:=Tryz.sizeOf3
 v3:=Tryz.zeroValue3
 i3:=by kernel_rfl
 t4:=Tryz.underlying4
 a4:=Tryz.isAgg4
 z4:=Tryz.sizeOf4
 v4:=Tryz.zeroValue4
 i4:=by kernel_rfl
 t9:=Tryz.underlying9
 a9:=Tryz.isAgg9
 z9:=Tryz.sizeOf9
 v9:=Tryz.zeroValue9
 i9:=by kernel_rfl
 t21:=Tryz.underlying21
 a21:=Tryz.isAgg21
 z21:=Tryz.sizeOf21
 v21:=Tryz.zeroValue21
 i21:=by kernel_rfl
 t23:=Tryz.underlying153
 a23:=Tryz.isAgg153
 z23:=Tryz.sizeOf153
 v23:=Tryz.zeroValue153
 i23:=by kernel_rfl }
def Tryz.amj:Go.Shelf.Ren:=⟨fun | 100=>130 | 207=>158 | n=>n,fun | 9=>9 | 4=>4 | 3=>3 | n=>n,fun | n=>n⟩
theorem Tryz.lays100:Go.Proofs.Lays.n100 Tryz.prog Tryz.amj:={
 mixed:=by kernel_rfl
 f100:=Tryz.func130.trans (congrArg some (by kernel_rfl))
 f207:=Tryz.func158.trans (congrArg some (by kernel_rfl))
 t3:=Tryz.underlying3
 a3:=Tryz.isAgg3
 z3:=Tryz.sizeOf3
 v3:=Tryz.zeroValue3
 t4:=Tryz.underlying4
 a4:=Tryz.isAgg4
 z4:=Tryz.sizeOf4
 v4:=Tryz.zeroValue4
 t9:=Tryz.underlying9
 a9:=Tryz.isAgg9
 z9:=Tryz.sizeOf9
 v9:=Tryz.zeroValue9 }
open Go.RowKit Go.Lib in
theorem Tryz.strings_HasSuffix (s p:ByteArray)(w:World)(hs:s.size≤9223372036854775807):
 Calls Tryz.prog 130 #[.string s,.string p] w fun e w'=>e=.returned (.bool (Lib.hasSuffix s.data.toList p.data.toList))∧w'=w:=Any.strings_HasSuffix Tryz.lays100 s p w hs
def Tryz.agL:Go.Shelf.Ren:=⟨fun | 155=>129 | 154=>157 | 138=>178 | 165=>179 | 143=>86 | 166=>180 | 197=>160 | 169=>144 | 195=>192 | 218=>193 | 240=>194 | 241=>195 | 219=>113 | 260=>181 | 276=>201 | 277=>202 | 217=>137 | 225=>138 | 224=>139 | 267=>140 | 266=>168 | 314=>169 | n=>n,fun | 9=>9 | 3=>3 | 4=>4 | 72=>191 | 0=>0 | 76=>228 | 105=>211 | 21=>21 | 5=>5 | 70=>189 | 20=>20 | 37=>65 | 75=>227 | 127=>208 | 164=>258 | 46=>185 | 119=>246 | 139=>249 | 138=>248 | 146=>216 | 51=>215 | 80=>196 | n=>n,fun | 1=>0 | 3=>4 | 4=>5 | n=>n⟩
theorem Tryz.lays155:Go.Proofs.Lays.n155 Tryz.prog Tryz.agL:={
 mixed:=by kernel_rfl
 f138:=Tryz.func178.trans (congrArg some (by kernel_rfl))
 f143:=Tryz.func86.trans (congrArg some (by kernel_rfl))
 f154:=Tryz.func157.trans (congrArg some (by kernel_rfl))
 f155:=Tryz.func129.trans (congrArg some (by kernel_rfl))
 f165:=Tryz.func179.trans (congrArg some (by kernel_rfl))
 f166:=Tryz.func180.trans (congrArg some (by kernel_rfl))
 f169:=Tryz.func144.trans (congrArg some (by kernel_rfl))
 f195:=Tryz.func192.trans (congrArg some (by kernel_rfl))
 f197:=Tryz.func160.trans (congrArg some (by kernel_rfl))
 f217:=Tryz.func137.trans (congrArg some (by kernel_rfl))
 f218:=Tryz.func193.trans (congrArg some (by kernel_rfl))
 f219:=Tryz.func113.trans (congrArg some (by kernel_rfl))
 f224:=Tryz.func139.trans (congrArg some (by kernel_rfl))
 f225:=Tryz.func138.trans (congrArg some (by kernel_rfl))
 f240:=Tryz.func194.trans (congrArg some (by kernel_rfl))
 f241:=Tryz.func195.trans (congrArg some (by kernel_rfl))
 f260:=Tryz.func181.trans (congrArg some (by kernel_rfl))
 f266:=Tryz.func168.trans (congrArg some (by kernel_rfl))
 f267:=Tryz.func140.trans (congrArg some (by kernel_rfl))
 f276:=Tryz.func201.trans (congrArg some (by kernel_rfl))
 f277:=Tryz.func202.trans (congrArg some (by kernel_rfl))
 f314:=Tryz.func169.trans (congrArg some (by kernel_rfl))
 t0:=Tryz.underlying0
 a0:=Tryz.isAgg0
 z0:=Tryz.sizeOf0
 v0:=Tryz.zeroValue0
 t3:=Tryz.underlying3
 a3:=Tryz.isAgg3
 z3:=Tryz.sizeOf3
 v3:=Tryz.zeroValue3
 t4:=Tryz.underlying4
 a4:=Tryz.isAgg4
 z4:=Tryz.sizeOf4
 v4:=Tryz.zeroValue4
 t5:=Tryz.underlying5
 a5:=Tryz.isAgg5
 z5:=Tryz.sizeOf5
 v5:=Tryz.zeroValue5
 t9:=Tryz.underlying9
 a9:=Tryz.isAgg9
 z9:=Tryz.sizeOf9
 v9:=Tryz.zeroValue9
 t20:=Tryz.underlying20
 a20:=Tryz.isAgg20
 z20:=Tryz.sizeOf20
 v20:=Tryz.zeroValue20
 t21:=Tryz.underlying21
 a21:=Tryz.isAgg21
 z21:=Tryz.sizeOf21
 v21:=Tryz.zeroValue21
 t37:=Tryz.underlying65
 a37:=Tryz.isAgg65
 z37:=Tryz.sizeOf65
 v37:=Tryz.zeroValue65
 t46:=Tryz.underlying185
 a46:=Tryz.isAgg185
 z46:=Tryz.sizeOf185
 v46:=Tryz.zeroValue185
 t51:=Tryz.underlying215
 a51:=Tryz.isAgg215
 z51:=Tryz.sizeOf215
 v51:=Tryz.zeroValue215
 t70:=Tryz.underlying189
 a70:=Tryz.isAgg189
 z70:=Tryz.sizeOf189
 v70:=Tryz.zeroValue189
 t72:=Tryz.underlying191
 a72:=Tryz.isAgg191
 z72:=Tryz.sizeOf191
 v72:=Tryz.zeroValue191
 t75:=Tryz.underlying227
 a75:=Tryz.isAgg227
 z75:=Tryz.sizeOf227
 v75:=Tryz.zeroValue227
 t76:=Tryz.underlying228
 a76:=Tryz.isAgg228
 z76:=Tryz.sizeOf228
 v76:=Tryz.zeroValue228
 t105:=Tryz.underlying211
 a105:=Tryz.isAgg211
 z105:=Tryz.sizeOf211
 v105:=Tryz.zeroValue211
 t119:=Tryz.underlying246
 a119:=Tryz.isAgg246
 z119:=Tryz.sizeOf246
 t127:=Tryz.underlying208
 a127:=Tryz.isAgg208
 z127:=Tryz.sizeOf208
 v127:=Tryz.zeroValue208
 t138:=Tryz.underlying248
 a138:=Tryz.isAgg248
 z138:=Tryz.sizeOf248
 v138:=Tryz.zeroValue248
 t139:=Tryz.underlying249
 a139:=Tryz.isAgg249
 z139:=Tryz.sizeOf249
 v139:=Tryz.zeroValue249
 t146:=Tryz.underlying216
 a146:=Tryz.isAgg216
 z146:=Tryz.sizeOf216
 v146:=Tryz.zeroValue216
 t164:=Tryz.underlying258
 a164:=Tryz.isAgg258
 z164:=Tryz.sizeOf258
 v164:=Tryz.zeroValue258
 g1:=by kernel_rfl
 g3:=by kernel_rfl
 g4:=by kernel_rfl }
theorem Tryz.afm:Builder.Extra Tryz.prog Tryz.agL:={
 sizeBuilder:=by kernel_rfl
 liesBuilder:=by kernel_rfl
 t5:=Tryz.underlying5
 a5:=Tryz.isAgg5
 z5:=Tryz.sizeOf5
 v5:=Tryz.zeroValue5
 infoByte:=by kernel_rfl
 cellsByte:=by kernel_rfl
 sizeByte:=by kernel_rfl
 neB5:=by decide }
open Go.RowKit Go.Lib in
theorem Tryz.strings_ReplaceAll (s old new:ByteArray)(m:Int)(w:World)(hs:s.size < 4294967281)(hm:w.cell? ⟨0,0,none⟩=some (.int .i64 m))(h1:1≤old.size)(hlen:s.size+Lib.countB s old * new.size≤140737488355328):
 Calls Tryz.prog 129 #[.string s,.string old,.string new] w fun e w'=>
  e=.returned (.string ⟨(Lib.replaceAll s.data.toList old.data.toList new.data.toList).toArray⟩)∧Below w.heap.size w w':=Any.strings_ReplaceAll Tryz.lays155 Tryz.afm s old new m w hs hm h1 hlen
open Go.RowKit Go.Lib in
theorem Tryz.strings_TrimLeftFunc_grows (g:Nat)(lb:Array Value)(eg:∀ args w,(callFunc g args).run Tryz.prog w=.ok (.enter g args) w)(p:Nat→Bool)(s:ByteArray)(w:World)(hp:PredGrows Tryz.prog g lb p w):
 Calls Tryz.prog 184 #[.string s,.func (.func g) #[] lb] w fun e w'=>e=.returned (.string (Lib.trimLeftF p s))∧Below w.heap.size w w':=Any.strings_TrimLeftFunc_grows Tryz.lays272 g lb eg p s w hp
open Go.RowKit Go.Lib in
theorem Tryz.strings_TrimRightFunc_grows (g:Nat)(lb:Array Value)(eg:∀ args w,(callFunc g args).run Tryz.prog w=.ok (.enter g args) w)(p:Nat→Bool)(s:ByteArray)(w:World)(hs:s.size≤9223372036854775807)(hT:Lib.Utf8Tabs 4 5 w)(hp:PredGrows Tryz.prog g lb p w):
 Calls Tryz.prog 135 #[.string s,.func (.func g) #[] lb] w fun e w'=>e=.returned (.string (Lib.trimRightF p s))∧Below w.heap.size w w':=Any.strings_TrimRightFunc_grows Tryz.lays238 g lb eg p s w hs hT hp
open Go.RowKit Go.Lib in
theorem Tryz.strings_IndexFunc_grows (g:Nat)(lb:Array Value)(eg:∀ args w,(callFunc g args).run Tryz.prog w=.ok (.enter g args) w)(p:Nat→Bool)(s:ByteArray)(w:World)(hp:PredGrows Tryz.prog g lb p w):
 Calls Tryz.prog 132 #[.string s,.func (.func g) #[] lb] w fun e w'=>e=.returned (.int .i64 (Lib.idxFunc p true s))∧Below w.heap.size w w':=Any.strings_IndexFunc_grows Tryz.aul g lb eg p s w hp
end Go.Proofs.YtnomcldpbkinmaaGreatDoor
namespace Go.Proofs.YtnomcldpbkinmaaGreatDoor
def bt (s:ByteArray)(k:Nat):Int:=((s.data.toList.getD k 0).toNat:Int)
theorem afI (s:ByteArray)(k:Nat):0≤bt s k:=by unfold bt;omega
theorem ahA (s:ByteArray)(k:Nat):bt s k < 256:=by unfold bt;have:=(s.data.toList.getD k 0).toNat_lt;omega
theorem afv (s:ByteArray)(k:Nat)(h:k < s.size):((s[k]).toNat:Int)=bt s k:=by
 unfold bt;have h':k < s.data.toList.length:=(by simpa using h);rw[List.getD_eq_getElem?_getD,List.getElem?_eq_getElem h'];rfl
def afg (b:Int):Nat:=if b < 128 then 1 else if b < 192 then 0 else if b < 224 then 2 else if b < 240 then 3 else if b < 248 then 4 else 0
def ahu (b:Int):Int:=if b < 128 then b else if b < 192 then 0 else if b < 224 then b - 192 else if b < 240 then b - 224 else if b < 248 then b - 240 else 0
def least (n:Nat):Int:=if n=1 then 0 else if n=2 then 128 else if n=3 then 2048 else 65536
def most (n:Nat):Int:=if n=1 then 127 else if n=2 then 2047 else if n=3 then 65535 else 1114111
def p64 (n:Nat):Int:=if n=0 then 1 else if n=1 then 64 else if n=2 then 4096 else 262144
def afL (r:Int)(k n:Nat):Bool:=
 n != 0 && !(decide (55296≤r * p64 (n - k)) && decide (r * p64 (n - k)+p64 (n - k) - 1≤57343)) && decide (r * p64 (n - k)≤most n) && decide (least n≤r * p64 (n - k)+p64 (n - k) - 1)
def rgo (b:Nat→Int)(left n:Nat):Nat→Nat→Int→Int × Int × Int
 | 0,_,_=>(0,0,2)
 | f+1,k,r=>if afL r k n=false then (0,0,2) else if k=n then (r,n,0) else if k=left then (0,0,7) else if b k / 64=2 then rgo b left n f (k+1) (r * 64+b k % 64) else (0,0,2)
def canon (b:Nat→Int)(left:Nat):Int × Int × Int:=
 if b 0 < 128 then (b 0,1,0)
 else if b 0 < 194 then (0,0,2)
 else if b 0 < 224 then
  if left < 2 then (0,0,7) else if b 1 < 128∨191 < b 1 then (0,0,2) else ((b 0 - 192) * 64+(b 1 - 128),2,0)
 else if b 0 < 240 then
  if left < 2 then (0,0,7)
  else if b 1 < (if b 0=224 then 160 else 128)∨(if b 0=237 then 159 else 191) < b 1 then (0,0,2)
  else if left < 3 then (0,0,7) else if b 2 < 128∨191 < b 2 then (0,0,2)
  else ((b 0 - 224) * 4096+(b 1 - 128) * 64+(b 2 - 128),3,0)
 else if b 0 < 245 then
  if left < 2 then (0,0,7)
  else if b 1 < (if b 0=240 then 144 else 128)∨(if b 0=244 then 143 else 191) < b 1 then (0,0,2)
  else if left < 3 then (0,0,7) else if b 2 < 128∨191 < b 2 then (0,0,2)
  else if left < 4 then (0,0,7) else if b 3 < 128∨191 < b 3 then (0,0,2)
  else ((b 0 - 240) * 262144+(b 1 - 128) * 4096+(b 2 - 128) * 64+(b 3 - 128),4,0)
 else (0,0,2)
theorem auE (r:Int)(k n:Nat)(c:Bool)(h:(n≠0∧¬ (55296≤r * p64 (n - k)∧r * p64 (n - k)+p64 (n - k) - 1≤57343)∧r * p64 (n - k)≤most n∧least n≤r * p64 (n - k)+p64 (n - k) - 1)↔c=true):afL r k n=c:=by
 rw[Bool.eq_iff_iff,← h];simp[afL,and_assoc];omega
theorem afd (b:Nat→Int)(left n f k:Nat)(r:Int):rgo b left n (f+1) k r=if afL r k n=false then (0,0,2) else if k=n then (r,(n:Int),0) else if k=left then (0,0,7) else if b k / 64=2 then rgo b left n f (k+1) (r * 64+b k % 64) else (0,0,2):=rfl
theorem adl (r:Int)(k n:Nat):afL r k n=false↔(n=0∨(55296≤r * p64 (n - k)∧r * p64 (n - k)+p64 (n - k) - 1≤57343)∨most n < r * p64 (n - k)∨r * p64 (n - k)+p64 (n - k) - 1 < least n):=by
 simp[afL];omega
theorem alS:p64 0=1:=rfl
theorem ajU:p64 1=64:=rfl
theorem aju:p64 2=4096:=rfl
theorem ajC:p64 3=262144:=rfl
theorem a0z:least 1=0:=rfl
theorem a3o:most 1=127:=rfl
theorem anB:least 2=128:=rfl
theorem amH:least 3=2048:=rfl
theorem anp:least 4=65536:=rfl
theorem avg:most 2=2047:=rfl
theorem aun:most 3=65535:=rfl
theorem atf:most 4=1114111:=rfl
theorem tri {a b c a1 b1 c1:Int}(h:a=a1)(h1:b=b1)(h2:c=c1):(a,b,c)=(a1,b1,c1):=by subst h h1 h2;rfl
theorem a3a (b:Nat→Int)(left f:Nat)(r:Int)(k:Nat):rgo b left 0 (f+1) k r=(0,0,2):=by simp[rgo,afL]
def abd (s:ByteArray)(a:Int):Int × Int × Int:=if a < 0∨(s.size:Int)≤a then (0,0,7) else canon (fun k=>bt s (a.toNat+k)) (s.size - a.toNat)
def aec (s:ByteArray):Nat→Nat→List Int × Int × Int
 | 0,a=>([],a,0)
 | f+1,a=>if s.size≤a then ([],a,0) else if (abd s a).2.2=0 then ((abd s a).1 :: (aec s f (a+(abd s a).2.1.toNat)).1,(aec s f (a+(abd s a).2.1.toNat)).2) else ([],a,(abd s a).2.2)
def aiV (s:ByteArray):List Int × Int × Int:=aec s s.size 0
def aoY (left:Nat)(x:Int × Int × Int):Prop:=(x.2.2=0∧1≤x.2.1∧x.2.1≤4∧x.2.1≤left∧0≤x.1∧x.1≤1114111∧¬ (55296≤x.1∧x.1≤57343))∨(x.1=0∧x.2.1=0∧(x.2.2=2∨x.2.2=7))
theorem abj {left:Nat}{c:Prop} [Decidable c]{x y:Int × Int × Int}(h1:c→aoY left x)(h2:¬ c→aoY left y):aoY left (if c then x else y):=by
 by_cases h:c
 · rw[if_pos h];exact h1 h
 · rw[if_neg h];exact h2 h
theorem ajL {left:Nat}:aoY left (0,0,2):=.inr ⟨rfl,rfl,.inl rfl⟩
theorem aoh {left:Nat}:aoY left (0,0,7):=.inr ⟨rfl,rfl,.inr rfl⟩
theorem ajk {left:Nat}{r n:Int}(h1:1≤n)(h2:n≤4)(h3:n≤left)(h4:0≤r)(h5:r≤1114111)(h6:¬ (55296≤r∧r≤57343)):aoY left (r,n,0):=.inl ⟨rfl,h1,h2,h3,h4,h5,h6⟩
theorem ahQ (b:Nat→Int)(left:Nat)(hl:1≤left)(h0:∀ k,0≤b k):aoY left (canon b left):=by
 have a0:=h0 0;have b0:=h0 1;have c0:=h0 2;have d0:=h0 3;unfold canon;refine abj (fun h=>ajk (by omega) (by omega) (by omega) (by omega) (by omega) (by omega)) fun h=> ?_;refine abj (fun h=>ajL) fun h=> ?_;refine abj (fun h=>abj (fun h=>aoh) fun h=>abj (fun h=>ajL) fun h=>ajk (by omega) (by omega) (by omega) (by omega) (by omega) (by omega)) fun h=> ?_;refine abj (fun h=>abj (fun h=>aoh) fun h=>abj (fun h=>ajL) fun h=>abj (fun h=>aoh) fun h=>abj (fun h=>ajL) fun h=>ajk (by omega) (by omega) (by omega) (by omega) (by omega) (by omega)) fun h=> ?_;refine abj (fun h=>abj (fun h=>aoh) fun h=>abj (fun h=>ajL) fun h=>abj (fun h=>aoh) fun h=>abj (fun h=>ajL) fun h=>abj (fun h=>aoh) fun h=>abj (fun h=>ajL) fun h=>ajk (by omega) (by omega) (by omega) (by omega) (by omega) (by omega)) fun h=> ?_;exact ajL
theorem acv (s:ByteArray)(a:Nat)(h:a < s.size):aoY (s.size - a) (abd s a):=by
 unfold abd;rw[if_neg (by omega)];simp only[Int.toNat_natCast];exact ahQ _ _ (by omega) fun k=>afI s _
theorem abL (s:ByteArray)(f a:Nat)(h:s.size≤a):aec s f a=([],(a:Int),0):=by
 cases f with
 | zero=>rfl
 | succ f=>rw[aec,if_pos h]
theorem aeL (s:ByteArray)(f a:Nat)(h:a < s.size)(he:(abd s a).2.2≠0):aec s (f+1) a=([],(a:Int),(abd s a).2.2):=by
 rw[aec,if_neg (by omega),if_neg he]
theorem agi (s:ByteArray)(f a:Nat)(h:a < s.size)(he:(abd s a).2.2=0):
 aec s (f+1) a=((abd s a).1 :: (aec s f (a+(abd s a).2.1.toNat)).1,(aec s f (a+(abd s a).2.1.toNat)).2):=by
 rw[aec,if_neg (by omega),if_pos he]
theorem ahL (s:ByteArray):∀ (f g a:Nat),s.size - a≤f→s.size - a≤g→aec s f a=aec s g a
 | 0,g,a,hf,_=>by rw[abL s 0 a (by omega),abL s g a (by omega)]
 | f+1,0,a,_,hg=>by rw[abL s 0 a (by omega),abL s (f+1) a (by omega)]
 | f+1,g+1,a,hf,hg=>by
   by_cases h:s.size≤a
   · rw[abL s _ a h,abL s _ a h]
   by_cases he:(abd s a).2.2=0
   · have hk:=acv s a (by omega);rw[agi s f a (by omega) he,agi s g a (by omega) he]
     have h1:1≤(abd s a).2.1:=by
      rcases hk with hk | hk
      · exact hk.2.1
      · omega
     rw[ahL s f g (a+(abd s a).2.1.toNat) (by omega) (by omega)]
   · rw[aeL s f a (by omega) he,aeL s g a (by omega) he]
def aef (s:ByteArray)(a:Nat):List Int × Int × Int:=aec s (s.size - a) a
theorem aqQ (s:ByteArray):aiV s=aef s 0:=rfl
theorem ahK (s:ByteArray)(a:Nat)(h:s.size≤a):aef s a=([],(a:Int),0):=abL s _ a h
theorem ake (s:ByteArray)(a:Nat)(h:a < s.size)(he:(abd s a).2.2≠0):aef s a=([],(a:Int),(abd s a).2.2):=by
 unfold aef;rw[show s.size - a=(s.size - a - 1)+1 by omega];exact aeL s _ a h he
theorem amt (s:ByteArray)(a:Nat)(h:a < s.size)(he:(abd s a).2.2=0):
 aef s a=((abd s a).1 :: (aef s (a+(abd s a).2.1.toNat)).1,(aef s (a+(abd s a).2.1.toNat)).2):=by
 have hk:=acv s a h
 have h1:1≤(abd s a).2.1:=by
  rcases hk with hk | hk
  · exact hk.2.1
  · omega
 unfold aef;rw[show s.size - a=(s.size - a - 1)+1 by omega,agi s _ a h he];rw[ahL s (s.size - a - 1) (s.size - (a+(abd s a).2.1.toNat)) _ (by omega) (by omega)]
end Go.Proofs.YtnomcldpbkinmaaGreatDoor
set_option linter.unusedSimpArgs false
namespace Go.Proofs.YtnomcldpbkinmaaGreatDoor
def aaR (r:Int):List Int:=
 if r < 128 then [r] else if r < 2048 then [192+r / 64,128+r % 64] else if r < 65536 then [224+r / 4096,128+r / 64 % 64,128+r % 64]
 else [240+r / 262144,128+r / 4096 % 64,128+r / 64 % 64,128+r % 64]
def Bad (r:Int):Prop:=r < 0∨1114111 < r∨(55296≤r∧r≤57343)
instance (r:Int):Decidable (Bad r):=by unfold Bad;infer_instance
def auw (r:Int):List Int:=if Bad r then aaR 65533 else aaR r
def aaL (r:Int):List Int:=if Bad r then [] else aaR r
theorem enc1 {r:Int}(h:r < 128):aaR r=[r]:=by simp[aaR,h]
theorem enc2 {r:Int}(h:128≤r)(h2:r < 2048):aaR r=[192+r / 64,128+r % 64]:=by
 simp only[aaR];rw[if_neg (by omega),if_pos h2]
theorem enc3 {r:Int}(h:2048≤r)(h2:r < 65536):aaR r=[224+r / 4096,128+r / 64 % 64,128+r % 64]:=by
 simp only[aaR];rw[if_neg (by omega),if_neg (by omega),if_pos h2]
theorem enc4 {r:Int}(h:65536≤r):aaR r=[240+r / 262144,128+r / 4096 % 64,128+r / 64 % 64,128+r % 64]:=by
 simp only[aaR];rw[if_neg (by omega),if_neg (by omega),if_neg (by omega)]
theorem apo {r:Int}(h:¬ Bad r):auw r=aaR r:=by simp only[auw,if_neg h]
theorem abS (r:Int):1≤(aaR r).length∧(aaR r).length≤4:=by
 unfold aaR
 repeat' split
 all_goals simp
theorem atY (r:Int):1≤(auw r).length∧(auw r).length≤4:=by
 unfold auw;split
 · exact abS _
 · exact abS _
end Go.Proofs.YtnomcldpbkinmaaGreatDoor
namespace Go.Proofs.YtnomcldpbkinmaaGreatDoor
def aaO (L:List Int):Int × Int × Int:=canon (fun k=>L.getD k 0) L.length
theorem akZ (r:Int)(T:List Int)(h:¬ Bad r):aaO (aaR r++T)=(r,((aaR r).length:Int),0):=by
 unfold Bad at h;unfold aaO;by_cases h1:r < 128
 · rw[enc1 h1];simp[canon,h1]
 by_cases h2:r < 2048
 · rw[enc2 (by omega) h2];simp only[canon,List.cons_append,List.nil_append,List.getD_cons_zero,List.getD_cons_succ,List.length_cons,List.length_nil];rw[if_neg (by omega),if_neg (by omega),if_pos (by omega),if_neg (by omega),if_neg (by omega)];exact tri (by omega) (by omega) rfl
 by_cases h3:r < 65536
 · rw[enc3 (by omega) h3];simp only[canon,List.cons_append,List.nil_append,List.getD_cons_zero,List.getD_cons_succ,List.length_cons,List.length_nil];rw[if_neg (by omega),if_neg (by omega),if_neg (by omega),if_pos (by omega),if_neg (by omega),if_neg (by omega),if_neg (by omega),if_neg (by omega)];exact tri (by omega) (by omega) rfl
 · rw[enc4 (by omega)];simp only[canon,List.cons_append,List.nil_append,List.getD_cons_zero,List.getD_cons_succ,List.length_cons,List.length_nil];rw[if_neg (by omega),if_neg (by omega),if_neg (by omega),if_neg (by omega),if_pos (by omega),if_neg (by omega),if_neg (by omega),if_neg (by omega),if_neg (by omega),if_neg (by omega),if_neg (by omega)];exact tri (by omega) (by omega) rfl
theorem aza (r:Int)(j:Nat)(h:¬ Bad r)(h1:1≤j)(h2:j < (aaR r).length):aaO ((aaR r).take j)=(0,0,7):=by
 unfold Bad at h;unfold aaO;by_cases q1:r < 128
 · rw[enc1 q1] at h2;simp at h2;omega
 by_cases q2:r < 2048
 · rw[enc2 (by omega) q2] at h2 ⊢;have:j=1:=by simp at h2;omega
   subst this;simp only[canon,List.take_succ_cons,List.take_zero,List.getD_cons_zero,List.getD_cons_succ,List.length_cons,List.length_nil];rw[if_neg (by omega),if_neg (by omega),if_pos (by omega),if_pos (by omega)]
 by_cases q3:r < 65536
 · rw[enc3 (by omega) q3] at h2 ⊢;have:j=1∨j=2:=by simp at h2;omega
   rcases this with rfl | rfl
   · simp only[canon,List.take_succ_cons,List.take_zero,List.getD_cons_zero,List.getD_cons_succ,List.length_cons,List.length_nil];rw[if_neg (by omega),if_neg (by omega),if_neg (by omega),if_pos (by omega),if_pos (by omega)]
   · simp only[canon,List.take_succ_cons,List.take_zero,List.getD_cons_zero,List.getD_cons_succ,List.length_cons,List.length_nil];rw[if_neg (by omega),if_neg (by omega),if_neg (by omega),if_pos (by omega),if_neg (by omega),if_neg (by omega),if_pos (by omega)]
 · rw[enc4 (by omega)] at h2 ⊢;have:j=1∨j=2∨j=3:=by simp at h2;omega
   rcases this with rfl | rfl | rfl
   · simp only[canon,List.take_succ_cons,List.take_zero,List.getD_cons_zero,List.getD_cons_succ,List.length_cons,List.length_nil];rw[if_neg (by omega),if_neg (by omega),if_neg (by omega),if_neg (by omega),if_pos (by omega),if_pos (by omega)]
   · simp only[canon,List.take_succ_cons,List.take_zero,List.getD_cons_zero,List.getD_cons_succ,List.length_cons,List.length_nil];rw[if_neg (by omega),if_neg (by omega),if_neg (by omega),if_neg (by omega),if_pos (by omega),if_neg (by omega),if_neg (by omega),if_pos (by omega)]
   · simp only[canon,List.take_succ_cons,List.take_zero,List.getD_cons_zero,List.getD_cons_succ,List.length_cons,List.length_nil];rw[if_neg (by omega),if_neg (by omega),if_neg (by omega),if_neg (by omega),if_pos (by omega),if_neg (by omega),if_neg (by omega),if_neg (by omega),if_neg (by omega),if_pos (by omega)]
def Inv (L:List Int)(x:Int × Int × Int):Prop:=x.2.2=0→¬ Bad x.1∧x.2.1=((aaR x.1).length:Int)∧L.take (aaR x.1).length=aaR x.1∧(aaR x.1).length≤L.length
theorem abz {L:List Int}{c:Prop} [Decidable c]{x y:Int × Int × Int}(h1:c→Inv L x)(h2:¬ c→Inv L y):Inv L (if c then x else y):=by
 by_cases h:c
 · rw[if_pos h];exact h1 h
 · rw[if_neg h];exact h2 h
theorem inv2 {L:List Int}:Inv L (0,0,2):=fun h=>by simp at h
theorem azO {L:List Int}:Inv L (0,0,7):=fun h=>by simp at h
theorem anJ {L:List Int}{r n:Int}(h:¬ Bad r)(hn:n=((aaR r).length:Int))(h1:L.take (aaR r).length=aaR r):Inv L (r,n,0):=fun _=>⟨h,hn,h1,by
 have:=congrArg List.length h1;rw[List.length_take] at this;dsimp only;omega⟩
theorem take1 {L:List Int}(h:1≤L.length):L.take 1=[L.getD 0 0]:=by
 match L,h with
 | a :: L,_=>simp
theorem take2 {L:List Int}(h:2≤L.length):L.take 2=[L.getD 0 0,L.getD 1 0]:=by
 match L,h with
 | a :: b :: L,_=>simp
theorem take3 {L:List Int}(h:3≤L.length):L.take 3=[L.getD 0 0,L.getD 1 0,L.getD 2 0]:=by
 match L,h with
 | a :: b :: c :: L,_=>simp
theorem a2J {L:List Int}(h:4≤L.length):L.take 4=[L.getD 0 0,L.getD 1 0,L.getD 2 0,L.getD 3 0]:=by
 match L,h with
 | a :: b :: c :: d :: L,_=>simp
theorem abo {a b:Int}{s t:List Int}(h:a=b)(h2:s=t):a :: s=b :: t:=by rw[h,h2]
theorem a2z {L:List Int}(hl:1≤L.length)(h0:0≤L.getD 0 0)(h1:L.getD 0 0 < 128):Inv L (L.getD 0 0,1,0):=by
 refine anJ (by unfold Bad;omega) ?_ ?_
 · rw[enc1 h1];rfl
 · rw[enc1 h1];exact take1 hl
theorem a3b {L:List Int}(hl:2≤L.length)(h0:194≤L.getD 0 0)(h1:L.getD 0 0 < 224)(h2:128≤L.getD 1 0)(h3:L.getD 1 0≤191):
 Inv L ((L.getD 0 0 - 192) * 64+(L.getD 1 0 - 128),2,0):=by
 have t:=take2 hl;generalize L.getD 0 0=a at *;generalize L.getD 1 0=b at *;refine anJ (by unfold Bad;omega) ?_ ?_
 · rw[enc2 (by omega) (by omega)];rfl
 · rw[enc2 (by omega) (by omega)];refine t.trans (abo (by omega) (abo (by omega) rfl))
theorem a2Y {L:List Int}(hl:3≤L.length)(h0:224≤L.getD 0 0)(h1:L.getD 0 0 < 240)(h2:128≤L.getD 1 0)(h3:L.getD 1 0≤191)(h4:128≤L.getD 2 0)(h5:L.getD 2 0≤191)
 (h6:L.getD 0 0=224→160≤L.getD 1 0) (h7:L.getD 0 0=237→L.getD 1 0≤159):
 Inv L ((L.getD 0 0 - 224) * 4096+(L.getD 1 0 - 128) * 64+(L.getD 2 0 - 128),3,0):=by
 have t:=take3 hl;generalize L.getD 0 0=a at *;generalize L.getD 1 0=b at *;generalize L.getD 2 0=c at *;refine anJ (by unfold Bad;omega) ?_ ?_
 · rw[enc3 (by omega) (by omega)];rfl
 · rw[enc3 (by omega) (by omega)];refine t.trans (abo (by omega) (abo (by omega) (abo (by omega) rfl)))
theorem a3B {L:List Int}(hl:4≤L.length)(h0:240≤L.getD 0 0)(h1:L.getD 0 0 < 245)(h2:128≤L.getD 1 0)(h3:L.getD 1 0≤191)(h4:128≤L.getD 2 0)(h5:L.getD 2 0≤191)(h8:128≤L.getD 3 0)(h9:L.getD 3 0≤191)
 (h6:L.getD 0 0=240→144≤L.getD 1 0) (h7:L.getD 0 0=244→L.getD 1 0≤143):
 Inv L ((L.getD 0 0 - 240) * 262144+(L.getD 1 0 - 128) * 4096+(L.getD 2 0 - 128) * 64+(L.getD 3 0 - 128),4,0):=by
 have t:=a2J hl;generalize L.getD 0 0=a at *;generalize L.getD 1 0=b at *;generalize L.getD 2 0=c at *;generalize L.getD 3 0=d at *;refine anJ (by unfold Bad;omega) ?_ ?_
 · rw[enc4 (by omega)];rfl
 · rw[enc4 (by omega)];refine t.trans (abo (by omega) (abo (by omega) (abo (by omega) (abo (by omega) rfl))))
theorem agO (L:List Int)(hl:L≠[])(h0:∀ k,0≤L.getD k 0):Inv L (aaO L):=by
 have hp:1≤L.length:=by
  have:=List.length_pos_iff.2 hl;omega
 have a0:=h0 0;unfold aaO canon;simp only;refine abz (fun h=>a2z hp a0 h) fun n1=> ?_;refine abz (fun h=>inv2) fun n2=> ?_;refine abz (fun h=>abz (fun h=>azO) fun n3=>abz (fun h=>inv2) fun n4=>a3b (by omega) (by omega) (by omega) (by omega) (by omega)) fun n3=> ?_
 refine abz (fun h=>abz (fun h=>azO) fun n3=>abz (fun h=>inv2) fun n4=>abz (fun h=>azO) fun n5=>abz (fun h=>inv2) fun n6=>
  a2Y (by omega) (by omega) (by omega) (by split at n4 <;> omega) (by split at n4 <;> (try split at n4) <;> omega) (by omega) (by omega) (by intro e;rw[if_pos e] at n4;omega) (by intro e;rw[if_pos e] at n4;omega)) fun n3=> ?_
 refine abz (fun h=>abz (fun h=>azO) fun n3=>abz (fun h=>inv2) fun n4=>abz (fun h=>azO) fun n5=>abz (fun h=>inv2) fun n6=>abz (fun h=>azO) fun n7=>abz (fun h=>inv2) fun n8=>
  a3B (by omega) (by omega) (by omega) (by split at n4 <;> omega) (by split at n4 <;> (try split at n4) <;> omega) (by omega) (by omega) (by omega) (by omega) (by intro e;rw[if_pos e] at n4;omega) (by intro e;rw[if_pos e] at n4;omega)) fun n3=> ?_
 exact inv2
end Go.Proofs.YtnomcldpbkinmaaGreatDoor
namespace Go.Proofs.YtnomcldpbkinmaaGreatDoor
def NN (L:List Int):Prop:=∀ x∈L,0≤x
theorem NN.getD {L:List Int}(h:NN L)(k:Nat):0≤L.getD k 0:=by
 rw[List.getD_eq_getElem?_getD];rcases Nat.lt_or_ge k L.length with hk | hk
 · rw[List.getElem?_eq_getElem hk];exact h _ (List.getElem_mem hk)
 · rw[List.getElem?_eq_none hk];exact Int.le_refl 0
theorem NN.drop {L:List Int}(h:NN L)(k:Nat):NN (L.drop k):=fun x hx=>h x (List.mem_of_mem_drop hx)
theorem NN.take {L:List Int}(h:NN L)(k:Nat):NN (L.take k):=fun x hx=>h x (List.mem_of_mem_take hx)
def ahD:Nat→List Int→List Int × Nat × Int
 | 0,_=>([],0,0)
 | f+1,L=>if L=[] then ([],0,0) else if (aaO L).2.2=0 then ((aaO L).1 :: (ahD f (L.drop (aaO L).2.1.toNat)).1,(aaO L).2.1.toNat+(ahD f (L.drop (aaO L).2.1.toNat)).2.1,(ahD f (L.drop (aaO L).2.1.toNat)).2.2) else ([],0,(aaO L).2.2)
def acV (L:List Int):List Int × Nat × Int:=ahD L.length L
theorem akU {L:List Int}(hl:L≠[])(hn:NN L)(h:(aaO L).2.2=0):1≤(aaO L).2.1.toNat∧(aaO L).2.1.toNat≤L.length:=by
 have hi:=agO L hl hn.getD h;have:=abS (aaO L).1;omega
theorem adr (f:Nat):ahD f []=([],0,0):=by cases f <;> simp[ahD]
theorem afV (f:Nat)(L:List Int)(hl:L≠[])(h:(aaO L).2.2≠0):ahD (f+1) L=([],0,(aaO L).2.2):=by rw[ahD,if_neg hl,if_neg h]
theorem ain (f:Nat)(L:List Int)(hl:L≠[])(h:(aaO L).2.2=0):ahD (f+1) L=((aaO L).1 :: (ahD f (L.drop (aaO L).2.1.toNat)).1,(aaO L).2.1.toNat+(ahD f (L.drop (aaO L).2.1.toNat)).2.1,(ahD f (L.drop (aaO L).2.1.toNat)).2.2):=by
 rw[ahD,if_neg hl,if_pos h]
theorem ajD:∀ (f g:Nat) (L:List Int),NN L→L.length≤f→L.length≤g→ahD f L=ahD g L
 | 0,g,L,_,hf,_=>by
   have:L=[]:=List.eq_nil_of_length_eq_zero (by omega);subst this;rw[adr,adr]
 | f+1,0,L,_,_,hg=>by
   have:L=[]:=List.eq_nil_of_length_eq_zero (by omega);subst this;rw[adr,adr]
 | f+1,g+1,L,hn,hf,hg=>by
   by_cases hl:L=[]
   · subst hl;rw[adr,adr]
   by_cases h:(aaO L).2.2=0
   · have hk:=akU hl hn h;rw[ain f L hl h,ain g L hl h,ajD f g (L.drop (aaO L).2.1.toNat) (hn.drop _) (by simp;omega) (by simp;omega)]
   · rw[afV f L hl h,afV g L hl h]
theorem afN:acV []=([],0,0):=rfl
theorem anj (L:List Int)(hl:L≠[])(h:(aaO L).2.2≠0):acV L=([],0,(aaO L).2.2):=by
 have hp:=List.length_pos_iff.2 hl;unfold acV;rw[show L.length=(L.length - 1)+1 by omega];exact afV _ L hl h
theorem ajf (L:List Int)(hl:L≠[])(hn:NN L)(h:(aaO L).2.2=0):acV L=((aaO L).1 :: (acV (L.drop (aaO L).2.1.toNat)).1,(aaO L).2.1.toNat+(acV (L.drop (aaO L).2.1.toNat)).2.1,(acV (L.drop (aaO L).2.1.toNat)).2.2):=by
 have hp:=List.length_pos_iff.2 hl;have hk:=akU hl hn h;have e:ahD L.length L=ahD ((L.length - 1)+1) L:=(by rw[show (L.length - 1)+1=L.length by omega]);unfold acV;rw[e,ain _ L hl h,ajD (L.length - 1) (L.drop (aaO L).2.1.toNat).length _ (hn.drop _) (by simp;omega) (Nat.le_refl _)]
theorem aft (r:Int):aaR r≠[]:=by
 intro e;have:=abS r;rw[e] at this;simp at this
theorem afu (r:Int)(h:¬ Bad r):NN (aaR r)∧∀ x∈aaR r,x≤255:=by
 unfold Bad at h;unfold NN;by_cases h1:r < 128
 · rw[enc1 h1];simp;omega
 by_cases h2:r < 2048
 · rw[enc2 (by omega) h2];simp;omega
 by_cases h3:r < 65536
 · rw[enc3 (by omega) h3];simp;omega
 · rw[enc4 (by omega)];simp;omega
theorem auG (r:Int)(T:List Int)(h:¬ Bad r)(hT:NN T):acV (aaR r++T)=(r :: (acV T).1,(aaR r).length+(acV T).2.1,(acV T).2.2):=by
 have hd:=akZ r T h;have hne:aaR r++T≠[]:=by simp[aft]
 have hnn:NN (aaR r++T):=fun x hx=>by
  rcases List.mem_append.1 hx with hx | hx
  · exact(afu r h).1 x hx
  · exact hT x hx
 rw[ajf _ hne hnn (by rw[hd]),hd];simp
def Good (l:List Int):Prop:=∀ r∈l,¬ Bad r
def a4f (L:List Int)(x:List Int × Nat × Int):Prop:=
 Good x.1∧x.1.flatMap auw=L.take x.2.1∧x.2.1≤L.length∧(x.2.2=0→x.2.1=L.length)∧(x.2.2≠0→x.2.1 < L.length)
theorem ags:∀ (n:Nat) (L:List Int),L.length≤n→NN L→a4f L (acV L)
 | 0,L,h,hn=>by
   have:L=[]:=List.eq_nil_of_length_eq_zero (by omega);subst this;rw[afN];exact⟨fun r hr=>by simp at hr,rfl,Nat.le_refl _,fun _=>rfl,fun h=>absurd rfl h⟩
 | n+1,L,h,hn=>by
   by_cases hl:L=[]
   · subst hl;rw[afN];exact⟨fun r hr=>by simp at hr,rfl,Nat.le_refl _,fun _=>rfl,fun h=>absurd rfl h⟩
   have hp:=List.length_pos_iff.2 hl;by_cases he:(aaO L).2.2=0
   · have hi:=agO L hl hn.getD he;obtain⟨hb,hlen,htk,hle⟩:=hi;have h1:=abS (aaO L).1;rw[ajf L hl hn he];have ht:(aaO L).2.1.toNat=(aaR (aaO L).1).length:=(by omega);rw[ht];generalize (aaO L).1=r at *;obtain⟨a,b,c,d,e⟩:=ags n (L.drop (aaR r).length) (by simp;omega) (hn.drop _);generalize acV (L.drop (aaR r).length)=y at *;rw[List.length_drop] at c d e;refine⟨?_,?_,?_,?_,?_⟩
     · intro x hx;rcases List.mem_cons.1 hx with rfl | hx
       · exact hb
       · exact a x hx
     · show (r :: y.1).flatMap auw=L.take ((aaR r).length+y.2.1);rw[List.flatMap_cons,apo hb,b,List.take_add,htk]
     · show (aaR r).length+y.2.1≤L.length;omega
     · intro h0;have:=d h0;show (aaR r).length+y.2.1=L.length;omega
     · intro h0;have:=e h0;show (aaR r).length+y.2.1 < L.length;omega
   · rw[anj L hl he];exact⟨fun r hr=>by simp at hr,rfl,Nat.zero_le _,fun h=>absurd h he,fun _=>hp⟩
end Go.Proofs.YtnomcldpbkinmaaGreatDoor
