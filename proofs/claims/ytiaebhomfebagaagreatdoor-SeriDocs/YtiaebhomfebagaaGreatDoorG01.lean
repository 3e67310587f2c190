/- Lemmas of the claim. -/
import Derived.Test.YtiaebhomfebagaaGreatDoorProg
import Derived.Shelf.Strings.Builder1
import Derived.Shelf.Strings.Builder2
import Derived.Shelf.Small.Wraps
import Derived.Shelf.Strings.Search1
import Derived.Shelf.Strings.Search2
import Derived.Shelf.Strings.Search3
import Derived.Shelf.Strings.Cut
import Derived.Shelf.Strings.Count
import Derived.Shelf.LaysM
import Derived.Shelf.GgClosure.StringsIndexFunc
import Derived.Shelf.GgClosure.StringsTrimFunc
import Derived.Ground.GgwProg
import Derived.Shelf.GgClosure.StringsIndexFuncTop
import Derived.Shelf.Strings.Prefix
import Derived.Shelf.Strings.Split
import Derived.Shelf.Strings.Replace
import Derived.Shelf.Unicode.DecodeSlow
import Derived.Shelf.Unicode.DecodeAny
import Derived.Shelf.Unicode.DecodeLast
import Derived.Shelf.Strings.FuncGrows
import Derived.WalkKit
import Derived.WalkSpells
import Derived.WalkLawsBesides
import Derived.Laws.BytesArg
import Derived.Laws.OwnMore
import Derived.Lib.Hide
import Derived.Lib.DecodeN
namespace Go.Proofs.YtiaebhomfebagaaGreatDoor
theorem aac {p:Prop}(h:p):Go.RowKit.Hid p:=h
end Go.Proofs.YtiaebhomfebagaaGreatDoor
set_option linter.unusedVariables false
namespace Go.Proofs.YtiaebhomfebagaaGreatDoor
open Go.Shelf
def Tryz.alr:Go.Shelf.Ren:=⟨fun | 104=>117 | 211=>142 | 207=>133 | n=>n,fun | 9=>9 | 4=>4 | 24=>123 | 3=>3 | n=>n,fun | n=>n⟩
theorem Tryz.lays104:Go.Proofs.Lays.n104 Tryz.prog Tryz.alr:={
 mixed:=by kernel_rfl
 f104:=Tryz.func117.trans (congrArg some (by kernel_rfl))
 f207:=Tryz.func133.trans (congrArg some (by kernel_rfl))
 f211:=Tryz.func142.trans (congrArg some (by kernel_rfl))
 t3:=Tryz.underlying3
 a3:=Tryz.isAgg3
 z3:=Tryz.sizeOf3
 v3:=Tryz.zeroValue3
 t4:=Tryz.underlying4
 a4:=Tryz.isAgg4
 z4:=Tryz.sizeOf4
 v4:=Tryz.zeroValue4
 t9:=Tryz.underlying9
 a9:=Tryz.isAgg9
 z9:=Tryz.sizeOf9
 v9:=Tryz.zeroValue9
 t24:=Tryz.underlying123
 a24:=Tryz.isAgg123
 z24:=Tryz.sizeOf123
 v24:=Tryz.zeroValue123 }
open Go.RowKit in
theorem Tryz.strings_CutSuffix (s p:ByteArray)(w:World)(hs:s.size≤9223372036854775807):
 Calls Tryz.prog 117 #[.string s,.string p] w fun e w'=>e=.returned (.tuple #[.string ⟨(Lib.trimSuffix s.data.toList p.data.toList).toArray⟩,.bool (Lib.hasSuffix s.data.toList p.data.toList)])∧w'=w:=Any.strings_CutSuffix Tryz.lays104 s p w hs
def Tryz.als:Go.Shelf.Ren:=⟨fun | 143=>69 | 219=>93 | 217=>118 | 225=>119 | 224=>120 | 267=>121 | 266=>143 | 314=>144 | n=>n,fun | 9=>9 | 3=>3 | 4=>4 | 5=>5 | 46=>112 | 146=>202 | 51=>201 | n=>n,fun | 1=>0 | n=>n⟩
theorem Tryz.lays143:Go.Proofs.Lays.n143 Tryz.prog Tryz.als:={
 mixed:=by kernel_rfl
 f143:=Tryz.func69.trans (congrArg some (by kernel_rfl))
 f217:=Tryz.func118.trans (congrArg some (by kernel_rfl))
 f219:=Tryz.func93.trans (congrArg some (by kernel_rfl))
 f224:=Tryz.func120.trans (congrArg some (by kernel_rfl))
 f225:=Tryz.func119.trans (congrArg some (by kernel_rfl))
 f266:=Tryz.func143.trans (congrArg some (by kernel_rfl))
 f267:=Tryz.func121.trans (congrArg some (by kernel_rfl))
 f314:=Tryz.func144.trans (congrArg some (by kernel_rfl))
 t3:=Tryz.underlying3
 a3:=Tryz.isAgg3
 z3:=Tryz.sizeOf3
 v3:=Tryz.zeroValue3
 t4:=Tryz.underlying4
 a4:=Tryz.isAgg4
 z4:=Tryz.sizeOf4
 v4:=Tryz.zeroValue4
 t5:=Tryz.underlying5
 a5:=Tryz.isAgg5
 z5:=Tryz.sizeOf5
 v5:=Tryz.zeroValue5
 t9:=Tryz.underlying9
 a9:=Tryz.isAgg9
 z9:=Tryz.sizeOf9
 v9:=Tryz.zeroValue9
 t46:=Tryz.underlying112
 a46:=Tryz.isAgg112
 z46:=Tryz.sizeOf112
 v46:=Tryz.zeroValue112
 t51:=Tryz.underlying201
 a51:=Tryz.isAgg201
 z51:=Tryz.sizeOf201
 v51:=Tryz.zeroValue201
 t146:=Tryz.underlying202
 a146:=Tryz.isAgg202
 z146:=Tryz.sizeOf202
 v146:=Tryz.zeroValue202
 g1:=by kernel_rfl }
open Go.RowKit Go.Lib in
theorem Tryz.strings_Index (s sub:ByteArray)(m:Int)(w:World)(hs:s.size < 4294967281)(hm:w.cell? ⟨0,0,none⟩=some (.int .i64 m)):
 Calls Tryz.prog 69 #[.string s,.string sub] w fun e w'=>e=.returned (.int .i64 (Lib.index s.data.toList sub.data.toList))∧w'=w:=Any.strings_Index Tryz.lays143 s sub m w hs hm
def Tryz.akw:Go.Shelf.Ren:=⟨fun | 144=>71 | 143=>69 | 219=>93 | 217=>118 | 225=>119 | 224=>120 | 267=>121 | 266=>143 | 314=>144 | n=>n,fun | 9=>9 | 4=>4 | 3=>3 | 5=>5 | 46=>112 | 146=>202 | 51=>201 | n=>n,fun | 1=>0 | n=>n⟩
theorem Tryz.lays144:Go.Proofs.Lays.n144 Tryz.prog Tryz.akw:={
 mixed:=by kernel_rfl
 f143:=Tryz.func69.trans (congrArg some (by kernel_rfl))
 f144:=Tryz.func71.trans (congrArg some (by kernel_rfl))
 f217:=Tryz.func118.trans (congrArg some (by kernel_rfl))
 f219:=Tryz.func93.trans (congrArg some (by kernel_rfl))
 f224:=Tryz.func120.trans (congrArg some (by kernel_rfl))
 f225:=Tryz.func119.trans (congrArg some (by kernel_rfl))
 f266:=Tryz.func143.trans (congrArg some (by kernel_rfl))
 f267:=Tryz.func121.trans (congrArg some (by kernel_rfl))
 f314:=Tryz.func144.trans (congrArg some (by kernel_rfl))
 t3:=Tryz.underlying3
 a3:=Tryz.isAgg3
 z3:=Tryz.sizeOf3
 v3:=Tryz.zeroValue3
 t4:=Tryz.underlying4
 a4:=Tryz.isAgg4
 z4:=Tryz.sizeOf4
 v4:=Tryz.zeroValue4
 t5:=Tryz.underlying5
 a5:=Tryz.isAgg5
 z5:=Tryz.sizeOf5
 v5:=Tryz.zeroValue5
 t9:=Tryz.underlying9
 a9:=Tryz.isAgg9
 z9:=Tryz.sizeOf9
 v9:=Tryz.zeroValue9
 t46:=Tryz.underlying112
 a46:=Tryz.isAgg112
 z46:=Tryz.sizeOf112
 v46:=Tryz.zeroValue112
 t51:=Tryz.underlying201
 a51:=Tryz.isAgg201
 z51:=Tryz.sizeOf201
 v51:=Tryz.zeroValue201
 t146:=Tryz.underlying202
 a146:=Tryz.isAgg202
 z146:=Tryz.sizeOf202
 v146:=Tryz.zeroValue202
 g1:=by kernel_rfl }
open Go.RowKit Go.Lib in
theorem Tryz.strings_Contains (s sub:ByteArray)(m:Int)(w:World)(hs:s.size < 4294967281)(hm:w.cell? ⟨0,0,none⟩=some (.int .i64 m)):
 Calls Tryz.prog 71 #[.string s,.string sub] w fun e w'=>e=.returned (.bool (Lib.contains s.data.toList sub.data.toList))∧w'=w:=Any.strings_Contains Tryz.lays144 s sub m w hs hm
def Tryz.ale:Go.Shelf.Ren:=⟨fun | 145=>128 | 220=>156 | 219=>93 | 217=>118 | 225=>119 | 224=>120 | 267=>121 | 266=>143 | 314=>144 | n=>n,fun | 9=>9 | 4=>4 | 59=>171 | 3=>3 | 5=>5 | 46=>112 | 146=>202 | 51=>201 | n=>n,fun | 1=>0 | n=>n⟩
theorem Tryz.lays145:Go.Proofs.Lays.n145 Tryz.prog Tryz.ale:={
 mixed:=by kernel_rfl
 f145:=Tryz.func128.trans (congrArg some (by kernel_rfl))
 f217:=Tryz.func118.trans (congrArg some (by kernel_rfl))
 f219:=Tryz.func93.trans (congrArg some (by kernel_rfl))
 f220:=Tryz.func156.trans (congrArg some (by kernel_rfl))
 f224:=Tryz.func120.trans (congrArg some (by kernel_rfl))
 f225:=Tryz.func119.trans (congrArg some (by kernel_rfl))
 f266:=Tryz.func143.trans (congrArg some (by kernel_rfl))
 f267:=Tryz.func121.trans (congrArg some (by kernel_rfl))
 f314:=Tryz.func144.trans (congrArg some (by kernel_rfl))
 t3:=Tryz.underlying3
 a3:=Tryz.isAgg3
 z3:=Tryz.sizeOf3
 v3:=Tryz.zeroValue3
 t4:=Tryz.underlying4
 a4:=Tryz.isAgg4
 z4:=Tryz.sizeOf4
 v4:=Tryz.zeroValue4
 t5:=Tryz.underlying5
 a5:=Tryz.isAgg5
 z5:=Tryz.sizeOf5
 v5:=Tryz.zeroValue5
 t9:=Tryz.underlying9
 a9:=Tryz.isAgg9
 z9:=Tryz.sizeOf9
 v9:=Tryz.zeroValue9
 t46:=Tryz.underlying112
 a46:=Tryz.isAgg112
 z46:=Tryz.sizeOf112
 v46:=Tryz.zeroValue112
 t51:=Tryz.underlying201
 a51:=Tryz.isAgg201
 z51:=Tryz.sizeOf201
 v51:=Tryz.zeroValue201
 t59:=Tryz.underlying171
 a59:=Tryz.isAgg171
 z59:=Tryz.sizeOf171
 v59:=Tryz.zeroValue171
 t146:=Tryz.underlying202
 a146:=Tryz.isAgg202
 z146:=Tryz.sizeOf202
 v146:=Tryz.zeroValue202
 g1:=by kernel_rfl }
open Go.RowKit Go.Lib in
theorem Tryz.strings_Cut (s sep:ByteArray)(m:Int)(w:World)(hs:s.size < 4294967281)(hm:w.cell? ⟨0,0,none⟩=some (.int .i64 m)):
 Calls Tryz.prog 128 #[.string s,.string sep] w fun e w'=>e=.returned (.tuple #[.string ⟨(Lib.cut s.data.toList sep.data.toList).1.toArray⟩,.string ⟨(Lib.cut s.data.toList sep.data.toList).2.1.toArray⟩,.bool (Lib.cut s.data.toList sep.data.toList).2.2])∧∃ n,w'=w.drewN n:=Any.strings_Cut Tryz.lays145 s sep m w hs hm
def Tryz.akQ:Go.Shelf.Ren:=⟨fun | 272=>167 | 315=>134 | n=>n,fun | 9=>9 | 40=>83 | 4=>4 | 3=>3 | 0=>0 | 21=>21 | n=>n,fun | n=>n⟩
theorem Tryz.lays272:Go.Proofs.Lays.n272 Tryz.prog Tryz.akQ:={
 mixed:=by kernel_rfl
 f272:=Tryz.func167.trans (congrArg some (by kernel_rfl))
 f315:=Tryz.func134.trans (congrArg some (by kernel_rfl))
 t0:=Tryz.underlying0
 a0:=Tryz.isAgg0
 z0:=Tryz.sizeOf0
 v0:=Tryz.zeroValue0
 t3:=Tryz.underlying3
 a3:=Tryz.isAgg3
 z3:=Tryz.sizeOf3
 v3:=Tryz.zeroValue3
 t4:=Tryz.underlying4
 a4:=Tryz.isAgg4
 z4:=Tryz.sizeOf4
 v4:=Tryz.zeroValue4
 t9:=Tryz.underlying9
 a9:=Tryz.isAgg9
 z9:=Tryz.sizeOf9
 v9:=Tryz.zeroValue9
 t21:=Tryz.underlying21
 a21:=Tryz.isAgg21
 z21:=Tryz.sizeOf21
 v21:=Tryz.zeroValue21
 t40:=Tryz.underlying83
 a40:=Tryz.isAgg83
 z40:=Tryz.sizeOf83
 v40:=Tryz.zeroValue83 }
def Tryz.alf:Go.Shelf.Ren:=⟨fun | 238=>116 | 273=>141 | 197=>135 | 271=>168 | 260=>164 | 120=>183 | n=>n,fun | 9=>9 | 40=>83 | 4=>4 | 3=>3 | 105=>109 | 21=>21 | 5=>5 | 119=>244 | 0=>0 | 46=>112 | 139=>247 | 138=>246 | n=>n,fun | 3=>5 | 4=>6 | n=>n⟩
theorem Tryz.lays238:Go.Proofs.Lays.n238 Tryz.prog Tryz.alf:={
 mixed:=by kernel_rfl
 f120:=Tryz.func183.trans (congrArg some (by kernel_rfl))
 f197:=Tryz.func135.trans (congrArg some (by kernel_rfl))
 f238:=Tryz.func116.trans (congrArg some (by kernel_rfl))
 f260:=Tryz.func164.trans (congrArg some (by kernel_rfl))
 f271:=Tryz.func168.trans (congrArg some (by kernel_rfl))
 f273:=Tryz.func141.trans (congrArg some (by kernel_rfl))
 t0:=Tryz.underlying0
 a0:=Tryz.isAgg0
 z0:=Tryz.sizeOf0
 v0:=Tryz.zeroValue0
 t3:=Tryz.underlying3
 a3:=Tryz.isAgg3
 z3:=Tryz.sizeOf3
 v3:=Tryz.zeroValue3
 t4:=Tryz.underlying4
 a4:=Tryz.isAgg4
 z4:=Tryz.sizeOf4
 v4:=Tryz.zeroValue4
 t5:=Tryz.underlying5
 a5:=Tryz.isAgg5
 z5:=Tryz.sizeOf5
 v5:=Tryz.zeroValue5
 t9:=Tryz.underlying9
 a9:=Tryz.isAgg9
 z9:=Tryz.sizeOf9
 v9:=Tryz.zeroValue9
 t21:=Tryz.underlying21
 a21:=Tryz.isAgg21
 z21:=Tryz.sizeOf21
 v21:=Tryz.zeroValue21
 t40:=Tryz.underlying83
 a40:=Tryz.isAgg83
 z40:=Tryz.sizeOf83
 v40:=Tryz.zeroValue83
 t46:=Tryz.underlying112
 a46:=Tryz.isAgg112
 z46:=Tryz.sizeOf112
 v46:=Tryz.zeroValue112
 t105:=Tryz.underlying109
 a105:=Tryz.isAgg109
 z105:=Tryz.sizeOf109
 v105:=Tryz.zeroValue109
 t119:=Tryz.underlying244
 a119:=Tryz.isAgg244
 z119:=Tryz.sizeOf244
 t138:=Tryz.underlying246
 a138:=Tryz.isAgg246
 z138:=Tryz.sizeOf246
 v138:=Tryz.zeroValue246
 t139:=Tryz.underlying247
 a139:=Tryz.isAgg247
 z139:=Tryz.sizeOf247
 v139:=Tryz.zeroValue247
 g3:=by kernel_rfl
 g4:=by kernel_rfl }
def Tryz.ajj:Go.Shelf.Ren:=⟨fun | 15=>113 | 20=>134 | n=>n,fun | 9=>9 | 23=>83 | 3=>3 | 4=>4 | 0=>0 | 21=>21 | n=>n,fun | n=>n⟩
theorem Tryz.avH:Go.Proofs.LaysGw.n15 Tryz.prog Tryz.ajj:={
 mixed:=by kernel_rfl
 f15:=Tryz.func113.trans (congrArg some (by kernel_rfl))
 f20:=Tryz.func134.trans (congrArg some (by kernel_rfl))
 t0:=Tryz.underlying0
 a0:=Tryz.isAgg0
 z0:=Tryz.sizeOf0
 v0:=Tryz.zeroValue0
 i0:=by kernel_rfl
 t3:=Tryz.underlying3
 a3:=Tryz.isAgg3
 z3:=Tryz.sizeOf3
 v3:=Tryz.zeroValue3
 i3:=by kernel_rfl
 t4:=Tryz.underlying4
 a4:=Tryz.isAgg4
 z4:=Tryz.sizeOf4
 v4:=Tryz.zeroValue4
 i4:=by kernel_rfl
 t9:=Tryz.underlying9
 a9:=Tryz.isAgg9
 z9:=Tryz.sizeOf9
 v9:=Tryz.zeroValue9
 i9:=by kernel_rfl
 t21:=Tryz.underlying21
 a21:=Tryz.isAgg21
 z21:=Tryz.sizeOf21
 v21:=Tryz.zeroValue21
 i21:=by kernel_rfl
 t23:=Tryz.underlying83
 a23:=Tryz.isAgg83
 z23:=Tryz.sizeOf83
 v23:=Tryz.zeroValue83
 i23:=by kernel_rfl }
def Tryz.akV:Go.Shelf.Ren:=⟨fun | 100=>111 | 207=>133 | n=>n,fun | 9=>9 | 4=>4 | 3=>3 | n=>n,fun | n=>n⟩
theorem Tryz.lays100:Go.Proofs.Lays.n100 Tryz.prog Tryz.akV:={
 mixed:=by kernel_rfl
 f100:=Tryz.func111.trans (congrArg some (by kernel_rfl))
 f207:=Tryz.func133.trans (congrArg some (by kernel_rfl))
 t3:=Tryz.underlying3
 a3:=Tryz.isAgg3
 z3:=Tryz.sizeOf3
 v3:=Tryz.zeroValue3
 t4:=Tryz.underlying4
 a4:=Tryz.isAgg4
 z4:=Tryz.sizeOf4
 v4:=Tryz.zeroValue4
 t9:=Tryz.underlying9
 a9:=Tryz.isAgg9
 z9:=Tryz.sizeOf9
 v9:=Tryz.zeroValue9 }
open Go.RowKit Go.Lib in
theorem Tryz.strings_HasSuffix (s p:ByteArray)(w:World)(hs:s.size≤9223372036854775807):
 Calls Tryz.prog 111 #[.string s,.string p] w fun e w'=>e=.returned (.bool (Lib.hasSuffix s.data.toList p.data.toList))∧w'=w:=Any.strings_HasSuffix Tryz.lays100 s p w hs
def Tryz.agP:Go.Shelf.Ren:=⟨fun | 155=>110 | 154=>132 | 138=>162 | 165=>163 | 143=>69 | 166=>41 | 197=>135 | 169=>30 | 195=>180 | 218=>181 | 240=>61 | 241=>182 | 219=>93 | 260=>164 | 276=>80 | 277=>189 | 217=>118 | 225=>119 | 224=>120 | 267=>121 | 266=>143 | 314=>144 | n=>n,fun | 9=>9 | 3=>3 | 4=>4 | 72=>72 | 0=>0 | 76=>87 | 105=>109 | 21=>21 | 5=>5 | 70=>70 | 20=>20 | 37=>57 | 75=>86 | 127=>91 | 164=>145 | 46=>112 | 119=>244 | 139=>247 | 138=>246 | 146=>202 | 51=>201 | 80=>76 | n=>n,fun | 1=>0 | 3=>5 | 4=>6 | n=>n⟩
theorem Tryz.lays155:Go.Proofs.Lays.n155 Tryz.prog Tryz.agP:={
 mixed:=by kernel_rfl
 f138:=Tryz.func162.trans (congrArg some (by kernel_rfl))
 f143:=Tryz.func69.trans (congrArg some (by kernel_rfl))
 f154:=Tryz.func132.trans (congrArg some (by kernel_rfl))
 f155:=Tryz.func110.trans (congrArg some (by kernel_rfl))
 f165:=Tryz.func163.trans (congrArg some (by kernel_rfl))
 f166:=Tryz.func41.trans (congrArg some (by kernel_rfl))
 f169:=Tryz.func30.trans (congrArg some (by kernel_rfl))
 f195:=Tryz.func180.trans (congrArg some (by kernel_rfl))
 f197:=Tryz.func135.trans (congrArg some (by kernel_rfl))
 f217:=Tryz.func118.trans (congrArg some (by kernel_rfl))
 f218:=Tryz.func181.trans (congrArg some (by kernel_rfl))
 f219:=Tryz.func93.trans (congrArg some (by kernel_rfl))
 f224:=Tryz.func120.trans (congrArg some (by kernel_rfl))
 f225:=Tryz.func119.trans (congrArg some (by kernel_rfl))
 f240:=Tryz.func61.trans (congrArg some (by kernel_rfl))
 f241:=Tryz.func182.trans (congrArg some (by kernel_rfl))
 f260:=Tryz.func164.trans (congrArg some (by kernel_rfl))
 f266:=Tryz.func143.trans (congrArg some (by kernel_rfl))
 f267:=Tryz.func121.trans (congrArg some (by kernel_rfl))
 f276:=Tryz.func80.trans (congrArg some (by kernel_rfl))
 f277:=Tryz.func189.trans (congrArg some (by kernel_rfl))
 f314:=Tryz.func144.trans (congrArg some (by kernel_rfl))
 t0:=Tryz.underlying0
 a0:=Tryz.isAgg0
 z0:=Tryz.sizeOf0
 v0:=Tryz.zeroValue0
 t3:=Tryz.underlying3
 a3:=Tryz.isAgg3
 z3:=Tryz.sizeOf3
 v3:=Tryz.zeroValue3
 t4:=Tryz.underlying4
 a4:=Tryz.isAgg4
 z4:=Tryz.sizeOf4
 v4:=Tryz.zeroValue4
 t5:=Tryz.underlying5
 a5:=Tryz.isAgg5
 z5:=Tryz.sizeOf5
 v5:=Tryz.zeroValue5
 t9:=Tryz.underlying9
 a9:=Tryz.isAgg9
 z9:=Tryz.sizeOf9
 v9:=Tryz.zeroValue9
 t20:=Tryz.underlying20
 a20:=Tryz.isAgg20
 z20:=Tryz.sizeOf20
 v20:=Tryz.zeroValue20
 t21:=Tryz.underlying21
 a21:=Tryz.isAgg21
 z21:=Tryz.sizeOf21
 v21:=Tryz.zeroValue21
 t37:=Tryz.underlying57
 a37:=Tryz.isAgg57
 z37:=Tryz.sizeOf57
 v37:=Tryz.zeroValue57
 t46:=Tryz.underlying112
 a46:=Tryz.isAgg112
 z46:=Tryz.sizeOf112
 v46:=Tryz.zeroValue112
 t51:=Tryz.underlying201
 a51:=Tryz.isAgg201
 z51:=Tryz.sizeOf201
 v51:=Tryz.zeroValue201
 t70:=Tryz.underlying70
 a70:=Tryz.isAgg70
 z70:=Tryz.sizeOf70
 v70:=Tryz.zeroValue70
 t72:=Tryz.underlying72
 a72:=Tryz.isAgg72
 z72:=Tryz.sizeOf72
 v72:=Tryz.zeroValue72
 t75:=Tryz.underlying86
 a75:=Tryz.isAgg86
 z75:=Tryz.sizeOf86
 v75:=Tryz.zeroValue86
 t76:=Tryz.underlying87
 a76:=Tryz.isAgg87
 z76:=Tryz.sizeOf87
 v76:=Tryz.zeroValue87
 t105:=Tryz.underlying109
 a105:=Tryz.isAgg109
 z105:=Tryz.sizeOf109
 v105:=Tryz.zeroValue109
 t119:=Tryz.underlying244
 a119:=Tryz.isAgg244
 z119:=Tryz.sizeOf244
 t127:=Tryz.underlying91
 a127:=Tryz.isAgg91
 z127:=Tryz.sizeOf91
 v127:=Tryz.zeroValue91
 t138:=Tryz.underlying246
 a138:=Tryz.isAgg246
 z138:=Tryz.sizeOf246
 v138:=Tryz.zeroValue246
 t139:=Tryz.underlying247
 a139:=Tryz.isAgg247
 z139:=Tryz.sizeOf247
 v139:=Tryz.zeroValue247
 t146:=Tryz.underlying202
 a146:=Tryz.isAgg202
 z146:=Tryz.sizeOf202
 v146:=Tryz.zeroValue202
 t164:=Tryz.underlying145
 a164:=Tryz.isAgg145
 z164:=Tryz.sizeOf145
 v164:=Tryz.zeroValue145
 g1:=by kernel_rfl
 g3:=by kernel_rfl
 g4:=by kernel_rfl }
theorem Tryz.afs:Builder.Extra Tryz.prog Tryz.agP:={
 sizeBuilder:=by kernel_rfl
 liesBuilder:=by kernel_rfl
 t5:=Tryz.underlying5
 a5:=Tryz.isAgg5
 z5:=Tryz.sizeOf5
 v5:=Tryz.zeroValue5
 infoByte:=by kernel_rfl
 cellsByte:=by kernel_rfl
 sizeByte:=by kernel_rfl
 neB5:=by decide }
open Go.RowKit Go.Lib in
theorem Tryz.strings_ReplaceAll (s old new:ByteArray)(m:Int)(w:World)(hs:s.size < 4294967281)(hm:w.cell? ⟨0,0,none⟩=some (.int .i64 m))(h1:1≤old.size)(hlen:s.size+Lib.countB s old * new.size≤140737488355328):
 Calls Tryz.prog 110 #[.string s,.string old,.string new] w fun e w'=>
  e=.returned (.string ⟨(Lib.replaceAll s.data.toList old.data.toList new.data.toList).toArray⟩)∧Below w.heap.size w w':=Any.strings_ReplaceAll Tryz.lays155 Tryz.afs s old new m w hs hm h1 hlen
open Go.RowKit Go.Lib in
theorem Tryz.strings_TrimLeftFunc_grows (g:Nat)(lb:Array Value)(eg:∀ args w,(callFunc g args).run Tryz.prog w=.ok (.enter g args) w)(p:Nat→Bool)(s:ByteArray)(w:World)(hp:PredGrows Tryz.prog g lb p w):
 Calls Tryz.prog 167 #[.string s,.func (.func g) #[] lb] w fun e w'=>e=.returned (.string (Lib.trimLeftF p s))∧Below w.heap.size w w':=Any.strings_TrimLeftFunc_grows Tryz.lays272 g lb eg p s w hp
open Go.RowKit Go.Lib in
theorem Tryz.strings_TrimRightFunc_grows (g:Nat)(lb:Array Value)(eg:∀ args w,(callFunc g args).run Tryz.prog w=.ok (.enter g args) w)(p:Nat→Bool)(s:ByteArray)(w:World)(hs:s.size≤9223372036854775807)(hT:Lib.Utf8Tabs 5 6 w)(hp:PredGrows Tryz.prog g lb p w):
 Calls Tryz.prog 116 #[.string s,.func (.func g) #[] lb] w fun e w'=>e=.returned (.string (Lib.trimRightF p s))∧Below w.heap.size w w':=Any.strings_TrimRightFunc_grows Tryz.lays238 g lb eg p s w hs hT hp
open Go.RowKit Go.Lib in
theorem Tryz.strings_IndexFunc_grows (g:Nat)(lb:Array Value)(eg:∀ args w,(callFunc g args).run Tryz.prog w=.ok (.enter g args) w)(p:Nat→Bool)(s:ByteArray)(w:World)(hp:PredGrows Tryz.prog g lb p w):
 Calls Tryz.prog 113 #[.string s,.func (.func g) #[] lb] w fun e w'=>e=.returned (.int .i64 (Lib.idxFunc p true s))∧Below w.heap.size w w':=Any.strings_IndexFunc_grows Tryz.avH g lb eg p s w hp
end Go.Proofs.YtiaebhomfebagaaGreatDoor
namespace Go.Proofs.YtiaebhomfebagaaGreatDoor
def bt (s:ByteArray)(k:Nat):Int:=((s.data.toList.getD k 0).toNat:Int)
theorem akz (s:ByteArray)(k:Nat):0≤bt s k:=by unfold bt;omega
theorem aru (s:ByteArray)(k:Nat):bt s k < 256:=by unfold bt;have:=(s.data.toList.getD k 0).toNat_lt;omega
theorem ajc (s:ByteArray)(k:Nat)(h:k < s.size):((s[k]).toNat:Int)=bt s k:=by
 unfold bt;have h':k < s.data.toList.length:=(by simpa using h);rw[List.getD_eq_getElem?_getD,List.getElem?_eq_getElem h'];rfl
def aeL (b:Int):Nat:=if b < 128 then 1 else if b < 192 then 0 else if b < 224 then 2 else if b < 240 then 3 else if b < 248 then 4 else 0
def agK (b:Int):Int:=if b < 128 then b else if b < 192 then 0 else if b < 224 then b - 192 else if b < 240 then b - 224 else if b < 248 then b - 240 else 0
def least (n:Nat):Int:=if n=1 then 0 else if n=2 then 128 else if n=3 then 2048 else 65536
def most (n:Nat):Int:=if n=1 then 127 else if n=2 then 2047 else if n=3 then 65535 else 1114111
def p64 (n:Nat):Int:=if n=0 then 1 else if n=1 then 64 else if n=2 then 4096 else 262144
def afB (r:Int)(k n:Nat):Bool:=
 n != 0 && !(decide (55296≤r * p64 (n - k)) && decide (r * p64 (n - k)+p64 (n - k) - 1≤57343)) && decide (r * p64 (n - k)≤most n) && decide (least n≤r * p64 (n - k)+p64 (n - k) - 1)
def rgo (b:Nat→Int)(left n:Nat):Nat→Nat→Int→Int × Int × Int
 | 0,_,_=>(0,0,2)
 | f+1,k,r=>if afB r k n=false then (0,0,2) else if k=n then (r,n,0) else if k=left then (0,0,7) else if b k / 64=2 then rgo b left n f (k+1) (r * 64+b k % 64) else (0,0,2)
def canon (b:Nat→Int)(left:Nat):Int × Int × Int:=
 if b 0 < 128 then (b 0,1,0)
 else if b 0 < 194 then (0,0,2)
 else if b 0 < 224 then
  if left < 2 then (0,0,7) else if b 1 < 128∨191 < b 1 then (0,0,2) else ((b 0 - 192) * 64+(b 1 - 128),2,0)
 else if b 0 < 240 then
  if left < 2 then (0,0,7)
  else if b 1 < (if b 0=224 then 160 else 128)∨(if b 0=237 then 159 else 191) < b 1 then (0,0,2)
  else if left < 3 then (0,0,7) else if b 2 < 128∨191 < b 2 then (0,0,2)
  else ((b 0 - 224) * 4096+(b 1 - 128) * 64+(b 2 - 128),3,0)
 else if b 0 < 245 then
  if left < 2 then (0,0,7)
  else if b 1 < (if b 0=240 then 144 else 128)∨(if b 0=244 then 143 else 191) < b 1 then (0,0,2)
  else if left < 3 then (0,0,7) else if b 2 < 128∨191 < b 2 then (0,0,2)
  else if left < 4 then (0,0,7) else if b 3 < 128∨191 < b 3 then (0,0,2)
  else ((b 0 - 240) * 262144+(b 1 - 128) * 4096+(b 2 - 128) * 64+(b 3 - 128),4,0)
 else (0,0,2)
theorem auY (r:Int)(k n:Nat)(c:Bool)(h:(n≠0∧¬ (55296≤r * p64 (n - k)∧r * p64 (n - k)+p64 (n - k) - 1≤57343)∧r * p64 (n - k)≤most n∧least n≤r * p64 (n - k)+p64 (n - k) - 1)↔c=true):afB r k n=c:=by
 rw[Bool.eq_iff_iff,← h];simp[afB,and_assoc];omega
theorem aep (b:Nat→Int)(left n f k:Nat)(r:Int):rgo b left n (f+1) k r=if afB r k n=false then (0,0,2) else if k=n then (r,(n:Int),0) else if k=left then (0,0,7) else if b k / 64=2 then rgo b left n f (k+1) (r * 64+b k % 64) else (0,0,2):=rfl
theorem acW (r:Int)(k n:Nat):afB r k n=false↔(n=0∨(55296≤r * p64 (n - k)∧r * p64 (n - k)+p64 (n - k) - 1≤57343)∨most n < r * p64 (n - k)∨r * p64 (n - k)+p64 (n - k) - 1 < least n):=by
 simp[afB];omega
theorem alv:p64 0=1:=rfl
theorem ajP:p64 1=64:=rfl
theorem ajw:p64 2=4096:=rfl
theorem aiZ:p64 3=262144:=rfl
theorem a4d:least 1=0:=rfl
theorem a5a:most 1=127:=rfl
theorem anf:least 2=128:=rfl
theorem ami:least 3=2048:=rfl
theorem alR:least 4=65536:=rfl
theorem awc:most 2=2047:=rfl
theorem auP:most 3=65535:=rfl
theorem awu:most 4=1114111:=rfl
theorem tri {a b c a1 b1 c1:Int}(h:a=a1)(h1:b=b1)(h2:c=c1):(a,b,c)=(a1,b1,c1):=by subst h h1 h2;rfl
theorem a4Z (b:Nat→Int)(left f:Nat)(r:Int)(k:Nat):rgo b left 0 (f+1) k r=(0,0,2):=by simp[rgo,afB]
def aaS (s:ByteArray)(a:Int):Int × Int × Int:=if a < 0∨(s.size:Int)≤a then (0,0,7) else canon (fun k=>bt s (a.toNat+k)) (s.size - a.toNat)
def adV (s:ByteArray):Nat→Nat→List Int × Int × Int
 | 0,a=>([],a,0)
 | f+1,a=>if s.size≤a then ([],a,0) else if (aaS s a).2.2=0 then ((aaS s a).1 :: (adV s f (a+(aaS s a).2.1.toNat)).1,(adV s f (a+(aaS s a).2.1.toNat)).2) else ([],a,(aaS s a).2.2)
def aoJ (s:ByteArray):List Int × Int × Int:=adV s s.size 0
def atq (left:Nat)(x:Int × Int × Int):Prop:=(x.2.2=0∧1≤x.2.1∧x.2.1≤4∧x.2.1≤left∧0≤x.1∧x.1≤1114111∧¬ (55296≤x.1∧x.1≤57343))∨(x.1=0∧x.2.1=0∧(x.2.2=2∨x.2.2=7))
theorem aaJ {left:Nat}{c:Prop} [Decidable c]{x y:Int × Int × Int}(h1:c→atq left x)(h2:¬ c→atq left y):atq left (if c then x else y):=by
 by_cases h:c
 · rw[if_pos h];exact h1 h
 · rw[if_neg h];exact h2 h
theorem ajs {left:Nat}:atq left (0,0,2):=.inr ⟨rfl,rfl,.inl rfl⟩
theorem anX {left:Nat}:atq left (0,0,7):=.inr ⟨rfl,rfl,.inr rfl⟩
theorem aiz {left:Nat}{r n:Int}(h1:1≤n)(h2:n≤4)(h3:n≤left)(h4:0≤r)(h5:r≤1114111)(h6:¬ (55296≤r∧r≤57343)):atq left (r,n,0):=.inl ⟨rfl,h1,h2,h3,h4,h5,h6⟩
theorem ahj (b:Nat→Int)(left:Nat)(hl:1≤left)(h0:∀ k,0≤b k):atq left (canon b left):=by
 have a0:=h0 0;have b0:=h0 1;have c0:=h0 2;have d0:=h0 3;unfold canon;refine aaJ (fun h=>aiz (by omega) (by omega) (by omega) (by omega) (by omega) (by omega)) fun h=> ?_;refine aaJ (fun h=>ajs) fun h=> ?_;refine aaJ (fun h=>aaJ (fun h=>anX) fun h=>aaJ (fun h=>ajs) fun h=>aiz (by omega) (by omega) (by omega) (by omega) (by omega) (by omega)) fun h=> ?_;refine aaJ (fun h=>aaJ (fun h=>anX) fun h=>aaJ (fun h=>ajs) fun h=>aaJ (fun h=>anX) fun h=>aaJ (fun h=>ajs) fun h=>aiz (by omega) (by omega) (by omega) (by omega) (by omega) (by omega)) fun h=> ?_;refine aaJ (fun h=>aaJ (fun h=>anX) fun h=>aaJ (fun h=>ajs) fun h=>aaJ (fun h=>anX) fun h=>aaJ (fun h=>ajs) fun h=>aaJ (fun h=>anX) fun h=>aaJ (fun h=>ajs) fun h=>aiz (by omega) (by omega) (by omega) (by omega) (by omega) (by omega)) fun h=> ?_;exact ajs
theorem acC (s:ByteArray)(a:Nat)(h:a < s.size):atq (s.size - a) (aaS s a):=by
 unfold aaS;rw[if_neg (by omega)];simp only[Int.toNat_natCast];exact ahj _ _ (by omega) fun k=>akz s _
theorem abr (s:ByteArray)(f a:Nat)(h:s.size≤a):adV s f a=([],(a:Int),0):=by
 cases f with
 | zero=>rfl
 | succ f=>rw[adV,if_pos h]
theorem aeP (s:ByteArray)(f a:Nat)(h:a < s.size)(he:(aaS s a).2.2≠0):adV s (f+1) a=([],(a:Int),(aaS s a).2.2):=by
 rw[adV,if_neg (by omega),if_neg he]
theorem afK (s:ByteArray)(f a:Nat)(h:a < s.size)(he:(aaS s a).2.2=0):
 adV s (f+1) a=((aaS s a).1 :: (adV s f (a+(aaS s a).2.1.toNat)).1,(adV s f (a+(aaS s a).2.1.toNat)).2):=by
 rw[adV,if_neg (by omega),if_pos he]
theorem ahz (s:ByteArray):∀ (f g a:Nat),s.size - a≤f→s.size - a≤g→adV s f a=adV s g a
 | 0,g,a,hf,_=>by rw[abr s 0 a (by omega),abr s g a (by omega)]
 | f+1,0,a,_,hg=>by rw[abr s 0 a (by omega),abr s (f+1) a (by omega)]
 | f+1,g+1,a,hf,hg=>by
   by_cases h:s.size≤a
   · rw[abr s _ a h,abr s _ a h]
   by_cases he:(aaS s a).2.2=0
   · have hk:=acC s a (by omega);rw[afK s f a (by omega) he,afK s g a (by omega) he]
     have h1:1≤(aaS s a).2.1:=by
      rcases hk with hk | hk
      · exact hk.2.1
      · omega
     rw[ahz s f g (a+(aaS s a).2.1.toNat) (by omega) (by omega)]
   · rw[aeP s f a (by omega) he,aeP s g a (by omega) he]
def aff (s:ByteArray)(a:Nat):List Int × Int × Int:=adV s (s.size - a) a
theorem azs (s:ByteArray):aoJ s=aff s 0:=rfl
theorem anY (s:ByteArray)(a:Nat)(h:s.size≤a):aff s a=([],(a:Int),0):=abr s _ a h
theorem asK (s:ByteArray)(a:Nat)(h:a < s.size)(he:(aaS s a).2.2≠0):aff s a=([],(a:Int),(aaS s a).2.2):=by
 unfold aff;rw[show s.size - a=(s.size - a - 1)+1 by omega];exact aeP s _ a h he
theorem auN (s:ByteArray)(a:Nat)(h:a < s.size)(he:(aaS s a).2.2=0):
 aff s a=((aaS s a).1 :: (aff s (a+(aaS s a).2.1.toNat)).1,(aff s (a+(aaS s a).2.1.toNat)).2):=by
 have hk:=acC s a h
 have h1:1≤(aaS s a).2.1:=by
  rcases hk with hk | hk
  · exact hk.2.1
  · omega
 unfold aff;rw[show s.size - a=(s.size - a - 1)+1 by omega,afK s _ a h he];rw[ahz s (s.size - a - 1) (s.size - (a+(aaS s a).2.1.toNat)) _ (by omega) (by omega)]
end Go.Proofs.YtiaebhomfebagaaGreatDoor
set_option linter.unusedSimpArgs false
namespace Go.Proofs.YtiaebhomfebagaaGreatDoor
def aat (r:Int):List Int:=
 if r < 128 then [r] else if r < 2048 then [192+r / 64,128+r % 64] else if r < 65536 then [224+r / 4096,128+r / 64 % 64,128+r % 64]
 else [240+r / 262144,128+r / 4096 % 64,128+r / 64 % 64,128+r % 64]
def Bad (r:Int):Prop:=r < 0∨1114111 < r∨(55296≤r∧r≤57343)
instance (r:Int):Decidable (Bad r):=by unfold Bad;infer_instance
def a2r (r:Int):List Int:=if Bad r then aat 65533 else aat r
def axS (r:Int):List Int:=if Bad r then [] else aat r
theorem enc1 {r:Int}(h:r < 128):aat r=[r]:=by simp[aat,h]
theorem enc2 {r:Int}(h:128≤r)(h2:r < 2048):aat r=[192+r / 64,128+r % 64]:=by
 simp only[aat];rw[if_neg (by omega),if_pos h2]
theorem enc3 {r:Int}(h:2048≤r)(h2:r < 65536):aat r=[224+r / 4096,128+r / 64 % 64,128+r % 64]:=by
 simp only[aat];rw[if_neg (by omega),if_neg (by omega),if_pos h2]
theorem enc4 {r:Int}(h:65536≤r):aat r=[240+r / 262144,128+r / 4096 % 64,128+r / 64 % 64,128+r % 64]:=by
 simp only[aat];rw[if_neg (by omega),if_neg (by omega),if_neg (by omega)]
theorem aqn {r:Int}(h:¬ Bad r):a2r r=aat r:=by simp only[a2r,if_neg h]
theorem abT (r:Int):1≤(aat r).length∧(aat r).length≤4:=by
 unfold aat
 repeat' split
 all_goals simp
end Go.Proofs.YtiaebhomfebagaaGreatDoor
namespace Go.Proofs.YtiaebhomfebagaaGreatDoor
def aaX (L:List Int):Int × Int × Int:=canon (fun k=>L.getD k 0) L.length
theorem arO (r:Int)(T:List Int)(h:¬ Bad r):aaX (aat r++T)=(r,((aat r).length:Int),0):=by
 unfold Bad at h;unfold aaX;by_cases h1:r < 128
 · rw[enc1 h1];simp[canon,h1]
 by_cases h2:r < 2048
 · rw[enc2 (by omega) h2];simp only[canon,List.cons_append,List.nil_append,List.getD_cons_zero,List.getD_cons_succ,List.length_cons,List.length_nil];rw[if_neg (by omega),if_neg (by omega),if_pos (by omega),if_neg (by omega),if_neg (by omega)];exact tri (by omega) (by omega) rfl
 by_cases h3:r < 65536
 · rw[enc3 (by omega) h3];simp only[canon,List.cons_append,List.nil_append,List.getD_cons_zero,List.getD_cons_succ,List.length_cons,List.length_nil];rw[if_neg (by omega),if_neg (by omega),if_neg (by omega),if_pos (by omega),if_neg (by omega),if_neg (by omega),if_neg (by omega),if_neg (by omega)];exact tri (by omega) (by omega) rfl
 · rw[enc4 (by omega)];simp only[canon,List.cons_append,List.nil_append,List.getD_cons_zero,List.getD_cons_succ,List.length_cons,List.length_nil];rw[if_neg (by omega),if_neg (by omega),if_neg (by omega),if_neg (by omega),if_pos (by omega),if_neg (by omega),if_neg (by omega),if_neg (by omega),if_neg (by omega),if_neg (by omega),if_neg (by omega)];exact tri (by omega) (by omega) rfl
theorem aoa (r:Int)(T:List Int)(j:Nat)(h:¬ Bad r)(h1:1≤j)(h2:j < (aat r).length):
 128≤((aat r++T).drop j).getD 0 0∧((aat r++T).drop j).getD 0 0 < 192:=by
 unfold Bad at h;by_cases q1:r < 128
 · rw[enc1 q1] at h2;simp at h2;omega
 by_cases q2:r < 2048
 · rw[enc2 (by omega) q2] at h2 ⊢;have:j=1:=by simp at h2;omega
   subst this;simp;omega
 by_cases q3:r < 65536
 · rw[enc3 (by omega) q3] at h2 ⊢;have:j=1∨j=2:=by simp at h2;omega
   rcases this with rfl | rfl
   · simp;omega
   · simp;omega
 · rw[enc4 (by omega)] at h2 ⊢;have:j=1∨j=2∨j=3:=by simp at h2;omega
   rcases this with rfl | rfl | rfl
   · simp;omega
   · simp;omega
   · simp;omega
def Inv (L:List Int)(x:Int × Int × Int):Prop:=x.2.2=0→¬ Bad x.1∧x.2.1=((aat x.1).length:Int)∧L.take (aat x.1).length=aat x.1∧(aat x.1).length≤L.length
theorem abb {L:List Int}{c:Prop} [Decidable c]{x y:Int × Int × Int}(h1:c→Inv L x)(h2:¬ c→Inv L y):Inv L (if c then x else y):=by
 by_cases h:c
 · rw[if_pos h];exact h1 h
 · rw[if_neg h];exact h2 h
theorem inv2 {L:List Int}:Inv L (0,0,2):=fun h=>by simp at h
theorem a1g {L:List Int}:Inv L (0,0,7):=fun h=>by simp at h
theorem anE {L:List Int}{r n:Int}(h:¬ Bad r)(hn:n=((aat r).length:Int))(h1:L.take (aat r).length=aat r):Inv L (r,n,0):=fun _=>⟨h,hn,h1,by
 have:=congrArg List.length h1;rw[List.length_take] at this;dsimp only;omega⟩
theorem take1 {L:List Int}(h:1≤L.length):L.take 1=[L.getD 0 0]:=by
 match L,h with
 | a :: L,_=>simp
theorem take2 {L:List Int}(h:2≤L.length):L.take 2=[L.getD 0 0,L.getD 1 0]:=by
 match L,h with
 | a :: b :: L,_=>simp
theorem take3 {L:List Int}(h:3≤L.length):L.take 3=[L.getD 0 0,L.getD 1 0,L.getD 2 0]:=by
 match L,h with
 | a :: b :: c :: L,_=>simp
theorem a5i {L:List Int}(h:4≤L.length):L.take 4=[L.getD 0 0,L.getD 1 0,L.getD 2 0,L.getD 3 0]:=by
 match L,h with
 | a :: b :: c :: d :: L,_=>simp
theorem adb {a b:Int}{s t:List Int}(h:a=b)(h2:s=t):a :: s=b :: t:=by rw[h,h2]
theorem a5u {L:List Int}(hl:1≤L.length)(h0:0≤L.getD 0 0)(h1:L.getD 0 0 < 128):Inv L (L.getD 0 0,1,0):=by
 refine anE (by unfold Bad;omega) ?_ ?_
 · rw[enc1 h1];rfl
 · rw[enc1 h1];exact take1 hl
theorem a5C {L:List Int}(hl:2≤L.length)(h0:194≤L.getD 0 0)(h1:L.getD 0 0 < 224)(h2:128≤L.getD 1 0)(h3:L.getD 1 0≤191):
 Inv L ((L.getD 0 0 - 192) * 64+(L.getD 1 0 - 128),2,0):=by
 have t:=take2 hl;generalize L.getD 0 0=a at *;generalize L.getD 1 0=b at *;refine anE (by unfold Bad;omega) ?_ ?_
 · rw[enc2 (by omega) (by omega)];rfl
 · rw[enc2 (by omega) (by omega)];refine t.trans (adb (by omega) (adb (by omega) rfl))
theorem a4D {L:List Int}(hl:3≤L.length)(h0:224≤L.getD 0 0)(h1:L.getD 0 0 < 240)(h2:128≤L.getD 1 0)(h3:L.getD 1 0≤191)(h4:128≤L.getD 2 0)(h5:L.getD 2 0≤191)
 (h6:L.getD 0 0=224→160≤L.getD 1 0) (h7:L.getD 0 0=237→L.getD 1 0≤159):
 Inv L ((L.getD 0 0 - 224) * 4096+(L.getD 1 0 - 128) * 64+(L.getD 2 0 - 128),3,0):=by
 have t:=take3 hl;generalize L.getD 0 0=a at *;generalize L.getD 1 0=b at *;generalize L.getD 2 0=c at *;refine anE (by unfold Bad;omega) ?_ ?_
 · rw[enc3 (by omega) (by omega)];rfl
 · rw[enc3 (by omega) (by omega)];refine t.trans (adb (by omega) (adb (by omega) (adb (by omega) rfl)))
theorem a5r {L:List Int}(hl:4≤L.length)(h0:240≤L.getD 0 0)(h1:L.getD 0 0 < 245)(h2:128≤L.getD 1 0)(h3:L.getD 1 0≤191)(h4:128≤L.getD 2 0)(h5:L.getD 2 0≤191)(h8:128≤L.getD 3 0)(h9:L.getD 3 0≤191)
 (h6:L.getD 0 0=240→144≤L.getD 1 0) (h7:L.getD 0 0=244→L.getD 1 0≤143):
 Inv L ((L.getD 0 0 - 240) * 262144+(L.getD 1 0 - 128) * 4096+(L.getD 2 0 - 128) * 64+(L.getD 3 0 - 128),4,0):=by
 have t:=a5i hl;generalize L.getD 0 0=a at *;generalize L.getD 1 0=b at *;generalize L.getD 2 0=c at *;generalize L.getD 3 0=d at *;refine anE (by unfold Bad;omega) ?_ ?_
 · rw[enc4 (by omega)];rfl
 · rw[enc4 (by omega)];refine t.trans (adb (by omega) (adb (by omega) (adb (by omega) (adb (by omega) rfl))))
theorem aiK (L:List Int)(hl:L≠[])(h0:∀ k,0≤L.getD k 0):Inv L (aaX L):=by
 have hp:1≤L.length:=by
  have:=List.length_pos_iff.2 hl;omega
 have a0:=h0 0;unfold aaX canon;simp only;refine abb (fun h=>a5u hp a0 h) fun n1=> ?_;refine abb (fun h=>inv2) fun n2=> ?_;refine abb (fun h=>abb (fun h=>a1g) fun n3=>abb (fun h=>inv2) fun n4=>a5C (by omega) (by omega) (by omega) (by omega) (by omega)) fun n3=> ?_
 refine abb (fun h=>abb (fun h=>a1g) fun n3=>abb (fun h=>inv2) fun n4=>abb (fun h=>a1g) fun n5=>abb (fun h=>inv2) fun n6=>
  a4D (by omega) (by omega) (by omega) (by split at n4 <;> omega) (by split at n4 <;> (try split at n4) <;> omega) (by omega) (by omega) (by intro e;rw[if_pos e] at n4;omega) (by intro e;rw[if_pos e] at n4;omega)) fun n3=> ?_
 refine abb (fun h=>abb (fun h=>a1g) fun n3=>abb (fun h=>inv2) fun n4=>abb (fun h=>a1g) fun n5=>abb (fun h=>inv2) fun n6=>abb (fun h=>a1g) fun n7=>abb (fun h=>inv2) fun n8=>
  a5r (by omega) (by omega) (by omega) (by split at n4 <;> omega) (by split at n4 <;> (try split at n4) <;> omega) (by omega) (by omega) (by omega) (by omega) (by intro e;rw[if_pos e] at n4;omega) (by intro e;rw[if_pos e] at n4;omega)) fun n3=> ?_
 exact inv2
end Go.Proofs.YtiaebhomfebagaaGreatDoor
namespace Go.Proofs.YtiaebhomfebagaaGreatDoor
def NN (L:List Int):Prop:=∀ x∈L,0≤x
theorem NN.getD {L:List Int}(h:NN L)(k:Nat):0≤L.getD k 0:=by
 rw[List.getD_eq_getElem?_getD];rcases Nat.lt_or_ge k L.length with hk | hk
 · rw[List.getElem?_eq_getElem hk];exact h _ (List.getElem_mem hk)
 · rw[List.getElem?_eq_none hk];exact Int.le_refl 0
theorem NN.drop {L:List Int}(h:NN L)(k:Nat):NN (L.drop k):=fun x hx=>h x (List.mem_of_mem_drop hx)
theorem NN.take {L:List Int}(h:NN L)(k:Nat):NN (L.take k):=fun x hx=>h x (List.mem_of_mem_take hx)
def agU:Nat→List Int→List Int × Nat × Int
 | 0,_=>([],0,0)
 | f+1,L=>if L=[] then ([],0,0) else if (aaX L).2.2=0 then ((aaX L).1 :: (agU f (L.drop (aaX L).2.1.toNat)).1,(aaX L).2.1.toNat+(agU f (L.drop (aaX L).2.1.toNat)).2.1,(agU f (L.drop (aaX L).2.1.toNat)).2.2) else ([],0,(aaX L).2.2)
def acX (L:List Int):List Int × Nat × Int:=agU L.length L
theorem alO {L:List Int}(hl:L≠[])(hn:NN L)(h:(aaX L).2.2=0):1≤(aaX L).2.1.toNat∧(aaX L).2.1.toNat≤L.length:=by
 have hi:=aiK L hl hn.getD h;have:=abT (aaX L).1;omega
theorem acS (f:Nat):agU f []=([],0,0):=by cases f <;> simp[agU]
theorem afL (f:Nat)(L:List Int)(hl:L≠[])(h:(aaX L).2.2≠0):agU (f+1) L=([],0,(aaX L).2.2):=by rw[agU,if_neg hl,if_neg h]
theorem ahY (f:Nat)(L:List Int)(hl:L≠[])(h:(aaX L).2.2=0):agU (f+1) L=((aaX L).1 :: (agU f (L.drop (aaX L).2.1.toNat)).1,(aaX L).2.1.toNat+(agU f (L.drop (aaX L).2.1.toNat)).2.1,(agU f (L.drop (aaX L).2.1.toNat)).2.2):=by
 rw[agU,if_neg hl,if_pos h]
theorem ajt:∀ (f g:Nat) (L:List Int),NN L→L.length≤f→L.length≤g→agU f L=agU g L
 | 0,g,L,_,hf,_=>by
   have:L=[]:=List.eq_nil_of_length_eq_zero (by omega);subst this;rw[acS,acS]
 | f+1,0,L,_,_,hg=>by
   have:L=[]:=List.eq_nil_of_length_eq_zero (by omega);subst this;rw[acS,acS]
 | f+1,g+1,L,hn,hf,hg=>by
   by_cases hl:L=[]
   · subst hl;rw[acS,acS]
   by_cases h:(aaX L).2.2=0
   · have hk:=alO hl hn h;rw[ahY f L hl h,ahY g L hl h,ajt f g (L.drop (aaX L).2.1.toNat) (hn.drop _) (by simp;omega) (by simp;omega)]
   · rw[afL f L hl h,afL g L hl h]
theorem ade:acX []=([],0,0):=rfl
theorem aiv (L:List Int)(hl:L≠[])(h:(aaX L).2.2≠0):acX L=([],0,(aaX L).2.2):=by
 have hp:=List.length_pos_iff.2 hl;unfold acX;rw[show L.length=(L.length - 1)+1 by omega];exact afL _ L hl h
theorem agL (L:List Int)(hl:L≠[])(hn:NN L)(h:(aaX L).2.2=0):acX L=((aaX L).1 :: (acX (L.drop (aaX L).2.1.toNat)).1,(aaX L).2.1.toNat+(acX (L.drop (aaX L).2.1.toNat)).2.1,(acX (L.drop (aaX L).2.1.toNat)).2.2):=by
 have hp:=List.length_pos_iff.2 hl;have hk:=alO hl hn h;have e:agU L.length L=agU ((L.length - 1)+1) L:=(by rw[show (L.length - 1)+1=L.length by omega]);unfold acX;rw[e,ahY _ L hl h,ajt (L.length - 1) (L.drop (aaX L).2.1.toNat).length _ (hn.drop _) (by simp;omega) (Nat.le_refl _)]
theorem aqg (r:Int):aat r≠[]:=by
 intro e;have:=abT r;rw[e] at this;simp at this
theorem aef (r:Int)(h:¬ Bad r):NN (aat r)∧∀ x∈aat r,x≤255:=by
 unfold Bad at h;unfold NN;by_cases h1:r < 128
 · rw[enc1 h1];simp;omega
 by_cases h2:r < 2048
 · rw[enc2 (by omega) h2];simp;omega
 by_cases h3:r < 65536
 · rw[enc3 (by omega) h3];simp;omega
 · rw[enc4 (by omega)];simp;omega
theorem anr (r:Int)(T:List Int)(h:¬ Bad r)(hT:NN T):acX (aat r++T)=(r :: (acX T).1,(aat r).length+(acX T).2.1,(acX T).2.2):=by
 have hd:=arO r T h;have hne:aat r++T≠[]:=by simp[aqg]
 have hnn:NN (aat r++T):=fun x hx=>by
  rcases List.mem_append.1 hx with hx | hx
  · exact(aef r h).1 x hx
  · exact hT x hx
 rw[agL _ hne hnn (by rw[hd]),hd];simp
def Good (l:List Int):Prop:=∀ r∈l,¬ Bad r
def a6g (L:List Int)(x:List Int × Nat × Int):Prop:=
 Good x.1∧x.1.flatMap a2r=L.take x.2.1∧x.2.1≤L.length∧(x.2.2=0→x.2.1=L.length)∧(x.2.2≠0→x.2.1 < L.length)
theorem ajB:∀ (n:Nat) (L:List Int),L.length≤n→NN L→a6g L (acX L)
 | 0,L,h,hn=>by
   have:L=[]:=List.eq_nil_of_length_eq_zero (by omega);subst this;rw[ade];exact⟨fun r hr=>by simp at hr,rfl,Nat.le_refl _,fun _=>rfl,fun h=>absurd rfl h⟩
 | n+1,L,h,hn=>by
   by_cases hl:L=[]
   · subst hl;rw[ade];exact⟨fun r hr=>by simp at hr,rfl,Nat.le_refl _,fun _=>rfl,fun h=>absurd rfl h⟩
   have hp:=List.length_pos_iff.2 hl;by_cases he:(aaX L).2.2=0
   · have hi:=aiK L hl hn.getD he;obtain⟨hb,hlen,htk,hle⟩:=hi;have h1:=abT (aaX L).1;rw[agL L hl hn he];have ht:(aaX L).2.1.toNat=(aat (aaX L).1).length:=(by omega);rw[ht];generalize (aaX L).1=r at *;obtain⟨a,b,c,d,e⟩:=ajB n (L.drop (aat r).length) (by simp;omega) (hn.drop _);generalize acX (L.drop (aat r).length)=y at *;rw[List.length_drop] at c d e;refine⟨?_,?_,?_,?_,?_⟩
     · intro x hx;rcases List.mem_cons.1 hx with rfl | hx
       · exact hb
       · exact a x hx
     · show (r :: y.1).flatMap a2r=L.take ((aat r).length+y.2.1);rw[List.flatMap_cons,aqn hb,b,List.take_add,htk]
     · show (aat r).length+y.2.1≤L.length;omega
     · intro h0;have:=d h0;show (aat r).length+y.2.1=L.length;omega
     · intro h0;have:=e h0;show (aat r).length+y.2.1 < L.length;omega
   · rw[aiv L hl he];exact⟨fun r hr=>by simp at hr,rfl,Nat.zero_le _,fun h=>absurd h he,fun _=>hp⟩
end Go.Proofs.YtiaebhomfebagaaGreatDoor
namespace Go.Proofs.YtiaebhomfebagaaGreatDoor
open Go.RowKit
def Rd (k:IntKind)(w:World)(B:Nat)(A:Option Addr)(l:List Int):Prop:=
 l=[]∨∃ b off,A=some ⟨b,off,none⟩∧b < B∧∀ j,j < l.length→w.cell? ⟨b,off+j,none⟩=some (.int k (l.getD j 0))
theorem Rd.below {k:IntKind}{w w':World}{B:Nat}{A:Option Addr}{l:List Int}(h:Rd k w B A l)(hb:Below B w w'):Rd k w' B A l:=by
 rcases h with h | ⟨b,off,rfl,hlt,hc⟩
 · exact .inl h
 · exact .inr ⟨b,off,rfl,hlt,fun j hj=>(hb.cell (p:=⟨b,off+j,none⟩) hlt).trans (hc j hj)⟩
theorem Rd.more {k:IntKind}{w:World}{B B':Nat}{A:Option Addr}{l:List Int}(h:Rd k w B A l)(hB:B≤B'):Rd k w B' A l:=by
 rcases h with h | ⟨b,off,rfl,hlt,hc⟩
 · exact .inl h
 · exact .inr ⟨b,off,rfl,by omega,hc⟩
theorem Rd.at_ {k:IntKind}{w:World}{B:Nat}{A:Option Addr}{l:List Int}(h:Rd k w B A l){j:Nat}(hj:j < l.length):
 ∃ b off,A=some ⟨b,off,none⟩∧b < B∧w.cell? ⟨b,off+j,none⟩=some (.int k (l.getD j 0)):=by
 rcases h with h | ⟨b,off,rfl,hlt,hc⟩
 · subst h;simp at hj
 · exact⟨b,off,rfl,hlt,hc j hj⟩
theorem a4j {k:IntKind}{w:World}{B:Nat}{e:TypeId}{v:Value}{l:List Int}(h:w.ownsRow B e 1 v l.length (l.map (Value.int k))):
 ∃ A c,v=.slice A l.length c∧Rd k w w.heap.size A l:=by
 rcases h.2 with ⟨rfl,h0⟩ | ⟨g,cap,cur,rfl,_,hh,_,_,_,_⟩
 · have:l=[]:=List.eq_nil_of_length_eq_zero h0;subst this;exact⟨none,0,rfl,.inl rfl⟩
 · refine⟨_,cap,rfl,.inr ⟨g,0,rfl,?_,fun j hj=> ?_⟩⟩
   · exact(h.lt g rfl).2
   · have:=h.cellAt (g:=g) j (by omega);rw[Nat.zero_add,this];simp[List.getElem?_eq_getElem hj]
theorem ayc {w:World}{B:Nat}{A:Option Addr}{l:List Int}{c:Nat}(h:Rd .u8 w B A l):
 (convert 57 9 (.slice A l.length c)).run Tryz.prog w=.ok (.string (strOfNums l)) w:=by
 rcases h with rfl | ⟨b,off,rfl,hlt,hc⟩
 · cases A with
   | none=>exact run_convert_bytes_nil w 57 5 Tryz.underlying57 Tryz.underlying5 _ _ 9 Tryz.underlying9
   | some a=>
     rw[run_convert_bytes_string w 57 9 5 _ _ c Tryz.underlying57 Tryz.underlying5 Tryz.underlying9,run_bytesToString w a _ c [] (by simp[loadCells,loadCellsFrom])];rfl
 · exact run_convert_bytes_arg w 57 5 Tryz.underlying57 Tryz.underlying5 b off l.length c l rfl hc 9 Tryz.underlying9
end Go.Proofs.YtiaebhomfebagaaGreatDoor
namespace Go.Proofs.YtiaebhomfebagaaGreatDoor
def aad (s:ByteArray):List Int:=s.data.toList.map fun b=>(b.toNat:Int)
theorem aae (s:ByteArray):(aad s).length=s.size:=by simp[aad]
theorem abn (s:ByteArray):NN (aad s):=fun x hx=>by
 obtain⟨b,_,rfl⟩:=List.mem_map.1 hx;omega
theorem acT (s:ByteArray)(k:Nat):bt s k=(aad s).getD k 0:=by
 unfold bt aad;simp only[List.getD_eq_getElem?_getD,List.getElem?_map];cases s.data.toList[k]? <;> simp
theorem adH (s:ByteArray)(a:Nat)(h:a < s.size):aaS s a=aaX ((aad s).drop a):=by
 unfold aaS aaX;rw[if_neg (by omega),Int.toNat_natCast,List.length_drop,aae]
 congr 1
 funext k
 rw[acT];simp[List.getD_eq_getElem?_getD,List.getElem?_drop]
theorem ajV (s:ByteArray):∀ (f a:Nat),a≤s.size→
 adV s f a=((agU f ((aad s).drop a)).1,((a+(agU f ((aad s).drop a)).2.1:Nat):Int),(agU f ((aad s).drop a)).2.2)
 | 0,a,h=>by simp[adV,agU]
 | f+1,a,h=>by
   by_cases hlt:a < s.size
   · have hne:(aad s).drop a≠[]:=by
      intro e;have:=congrArg List.length e;rw[List.length_drop,aae] at this;simp at this;omega
     by_cases he:(aaS s a).2.2=0
     · rw[afK s f a hlt he];have hk:=acC s a hlt
       have hn:(aaS s a).2.1.toNat≤s.size - a:=by
        rcases hk with hk | hk
        · omega
        · omega
       rw[adH s a hlt] at he hn ⊢;rw[ahY f _ hne he,ajV s f _ (by omega)];simp[Nat.add_assoc]
     · rw[aeP s f a hlt he];rw[adH s a hlt] at he ⊢;rw[afL f _ hne he];simp
   · rw[abr s _ a (by omega)];have:(aad s).drop a=[]:=List.drop_of_length_le (by rw[aae];omega);rw[this,acS];simp
theorem auz (s:ByteArray):aoJ s=((acX (aad s)).1,((acX (aad s)).2.1:Int),(acX (aad s)).2.2):=by
 unfold aoJ acX;rw[ajV s s.size 0 (by omega),aae];simp
theorem ofNat_toNat (x:Int)(h0:0≤x)(h1:x≤255):((UInt8.ofNat x.toNat).toNat:Int)=x:=by
 rw[UInt8.toNat_ofNat'];omega
theorem aeo (l:List Int)(h:NN l)(h1:∀ x∈l,x≤255):aad (strOfNums l)=l:=by
 unfold aad;rw[strOfNums_data,List.map_map]
 conv=>rhs;rw[← List.map_id l]
 refine List.map_congr_left fun x hx=> ?_;simp only[Function.comp];exact ofNat_toNat x (h x hx) (h1 x hx)
theorem aaW {s t:ByteArray}(h:aad s=aad t):s=t:=by
 unfold aad at h;have hl:=congrArg List.length h;simp only[List.length_map] at hl
 have:s.data.toList=t.data.toList:=by
  refine List.ext_getElem hl fun i h1 h2=> ?_;have:=congrArg (fun l=>l[i]?) h;simp only[List.getElem?_map,List.getElem?_eq_getElem h1,List.getElem?_eq_getElem h2,Option.map_some,Option.some.injEq] at this;exact UInt8.toNat_inj.1 (by omega)
 cases s;cases t;simp only[ByteArray.mk.injEq] at this ⊢;exact Array.toList_inj.1 this
theorem aal (s:ByteArray)(a b:Nat):aad (s.extract a b)=((aad s).take b).drop a:=by
 unfold aad;rw[ByteArray.data_extract,Array.toList_extract,List.extract_eq_take_drop,List.map_take,List.map_drop,List.drop_take]
end Go.Proofs.YtiaebhomfebagaaGreatDoor
namespace Go.Proofs.YtiaebhomfebagaaGreatDoor
def Btw (r a b:Int):Prop:=a≤r∧r≤b
def Blank (r:Int):Prop:=r=9∨r=10∨r=13∨r=32
def Chr (r:Int):Prop:=r=9∨r=10∨r=13∨Btw r 32 55295∨Btw r 57344 65533∨Btw r 65536 1114111
def Start (r:Int):Prop:=
 Btw r 65 90∨Btw r 97 122∨r=95∨Btw r 192 214∨Btw r 216 246∨Btw r 248 767∨Btw r 880 893∨Btw r 895 8191∨Btw r 8204 8205∨Btw r 8304 8591∨
 Btw r 11264 12271∨Btw r 12289 55295∨Btw r 63744 64975∨Btw r 65008 65533∨Btw r 65536 983039
def Part (r:Int):Prop:=Start r∨r=45∨r=46∨Btw r 48 57∨r=183∨Btw r 768 879∨Btw r 8255 8256
instance (r a b:Int):Decidable (Btw r a b):=inferInstanceAs (Decidable (a≤r∧r≤b))
instance (r:Int):Decidable (Blank r):=inferInstanceAs (Decidable (r=9∨r=10∨r=13∨r=32))
instance (r:Int):Decidable (Chr r):=inferInstanceAs (Decidable (r=9∨r=10∨r=13∨Btw r 32 55295∨Btw r 57344 65533∨Btw r 65536 1114111))
instance (r:Int):Decidable (Start r):=by unfold Start;infer_instance
instance (r:Int):Decidable (Part r):=by unfold Part;infer_instance
end Go.Proofs.YtiaebhomfebagaaGreatDoor
