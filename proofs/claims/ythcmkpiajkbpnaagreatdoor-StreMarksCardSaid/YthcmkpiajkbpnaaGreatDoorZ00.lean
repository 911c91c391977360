/- Parts of the proof, put together from smaller texts (blanks that Lean does not want are struck). Conditions: those that each theorem writes out. -/
import Derived.BigQuiet
import Derived.Deep.QuietTactic
import Derived.Laws.AppendOwnNone
import Derived.Laws.Cover4
import Derived.Lib.Hide
import Derived.Lib.MapLaws
import Derived.Shelf.GgClosure.StringsIndexFunc
import Derived.Shelf.GgClosure.StringsTrimFunc
import Derived.Shelf.LaysC
import Derived.Shelf.LaysM
import Derived.Shelf.Small.Strs
import Derived.Shelf.Small.Utf8
import Derived.Shelf.Small.Wraps
import Derived.Shelf.Strconv.Clone
import Derived.Shelf.Strconv.Itoa0
import Derived.Shelf.Strconv.SyntaxError
import Derived.Shelf.Strconv.ToError
import Derived.Shelf.Strings.AsciiSet
import Derived.Shelf.Strings.Builder1
import Derived.Shelf.Strings.Builder2
import Derived.Shelf.Strings.BuilderF
import Derived.Shelf.Strings.BuilderK
import Derived.Shelf.Strings.BuilderRune
import Derived.Shelf.Strings.Count
import Derived.Shelf.Strings.LastIndex
import Derived.Shelf.Strings.OnBuilder
import Derived.Shelf.Strings.Prefix
import Derived.Shelf.Strings.Runes
import Derived.Shelf.Strings.Search1
import Derived.Shelf.Strings.Search2
import Derived.Shelf.Strings.Search3
import Derived.Shelf.Strings.Shaped
import Derived.Shelf.Strings.Split
import Derived.Shelf.Strings.Trim
import Derived.Shelf.Unicode.DecodeAny
import Derived.Shelf.Unicode.DecodeLast
import Derived.Shelf.Unicode.DecodeSlow
import Derived.WalkKit
import Derived.WalkLawsBesides
import Derived.WalkSpells
import Derived.Test.YthcmkpiajkbpnaaGreatDoorProg
namespace Go.Proofs
open Go.Shelf
def Tryz.lays156_ren:Go.Shelf.Ren:=⟨fun|156=>82|165=>120|166=>121|169=>122|240=>161|241=>162|276=>183|277=>184|n=>n,fun|31=>37|9=>9|3=>3|4=>4|0=>0|20=>20|72=>157|76=>161|70=>154|37=>155|75=>160|127=>165|164=>196|5=>5|80=>163|n=>n,fun|n=>n⟩
theorem Tryz.lays156:Go.Proofs.Lays.n156 Tryz.prog Tryz.lays156_ren:={
 mixed:=by kernel_rfl
 f156:=Tryz.func82.trans (congrArg some (by kernel_rfl))
 f165:=Tryz.func120.trans (congrArg some (by kernel_rfl))
 f166:=Tryz.func121.trans (congrArg some (by kernel_rfl))
 f169:=Tryz.func122.trans (congrArg some (by kernel_rfl))
 f240:=Tryz.func161.trans (congrArg some (by kernel_rfl))
 f241:=Tryz.func162.trans (congrArg some (by kernel_rfl))
 f276:=Tryz.func183.trans (congrArg some (by kernel_rfl))
 f277:=Tryz.func184.trans (congrArg some (by kernel_rfl))
 t0:=Tryz.underlying0
 a0:=Tryz.isAgg0
 z0:=Tryz.sizeOf0
 v0:=Tryz.zeroValue0
 t3:=Tryz.underlying3
 a3:=Tryz.isAgg3
 z3:=Tryz.sizeOf3
 v3:=Tryz.zeroValue3
 t4:=Tryz.underlying4
 a4:=Tryz.isAgg4
 z4:=Tryz.sizeOf4
 v4:=Tryz.zeroValue4
 t9:=Tryz.underlying9
 a9:=Tryz.isAgg9
 z9:=Tryz.sizeOf9
 v9:=Tryz.zeroValue9
 t20:=Tryz.underlying20
 a20:=Tryz.isAgg20
 z20:=Tryz.sizeOf20
 v20:=Tryz.zeroValue20
 t31:=Tryz.underlying37
 a31:=Tryz.isAgg37
 z31:=Tryz.sizeOf37
 v31:=Tryz.zeroValue37
 t37:=Tryz.underlying155
 a37:=Tryz.isAgg155
 z37:=Tryz.sizeOf155
 v37:=Tryz.zeroValue155
 t70:=Tryz.underlying154
 a70:=Tryz.isAgg154
 z70:=Tryz.sizeOf154
 v70:=Tryz.zeroValue154
 t72:=Tryz.underlying157
 a72:=Tryz.isAgg157
 z72:=Tryz.sizeOf157
 v72:=Tryz.zeroValue157
 t75:=Tryz.underlying160
 a75:=Tryz.isAgg160
 z75:=Tryz.sizeOf160
 v75:=Tryz.zeroValue160
 t76:=Tryz.underlying161
 a76:=Tryz.isAgg161
 z76:=Tryz.sizeOf161
 v76:=Tryz.zeroValue161
 t127:=Tryz.underlying165
 a127:=Tryz.isAgg165
 z127:=Tryz.sizeOf165
 v127:=Tryz.zeroValue165
 t164:=Tryz.underlying196
 a164:=Tryz.isAgg196
 z164:=Tryz.sizeOf196
 v164:=Tryz.zeroValue196 }
theorem Tryz.Builder_Extra_156:Builder.Extra Tryz.prog Tryz.lays156_ren:={
 sizeBuilder:=by kernel_rfl
 liesBuilder:=by kernel_rfl
 t5:=Tryz.underlying5
 a5:=Tryz.isAgg5
 z5:=Tryz.sizeOf5
 v5:=Tryz.zeroValue5
 infoByte:=by kernel_rfl
 cellsByte:=by kernel_rfl
 sizeByte:=by kernel_rfl
 neB5:=by decide }
open Go.RowKit in
theorem Tryz.strings_Join (bk o c:Nat) (xs:List ByteArray) (sep:ByteArray) (w:World) (hcells:∀ (j:Nat) x,xs[j]?=some x→w.cell? ⟨bk,o+j,none⟩=some (.string x)) (hbk:bk<w.heap.size) (hN:xs.length≤140737488355328) (hcap:xs.length≤c) (hlen:(Lib.join (xs.map (·.data.toList)) sep.data.toList).length≤140737488355328) :
  Calls Tryz.prog 82 #[.slice (some ⟨bk,o,none⟩) xs.length c,.string sep] w fun e w'=>e=.returned (.string ⟨(Lib.join (xs.map (·.data.toList)) sep.data.toList).toArray⟩)∧Below w.heap.size w w':=Any.strings_Join Tryz.lays156 Tryz.Builder_Extra_156 bk o c xs sep w hcells hbk hN hcap hlen
def Tryz.lays161_ren:Go.Shelf.Ren:=⟨fun|161=>140|231=>173|227=>107|233=>174|235=>175|228=>153|197=>119|151=>155|260=>160|152=>181|137=>42|119=>194|224=>186|225=>185|217=>75|266=>111|n=>n,fun|9=>9|4=>4|3=>3|5=>5|117=>146|116=>145|0=>0|124=>149|105=>152|21=>21|119=>192|46=>49|139=>195|138=>194|n=>n,fun|3=>1|4=>2|n=>n⟩
def Tryz.lays162_ren:Go.Shelf.Ren:=⟨fun|162=>72|232=>106|227=>107|234=>108|236=>109|228=>153|271=>154|151=>155|120=>180|197=>119|152=>181|260=>160|137=>42|119=>194|224=>186|225=>185|217=>75|266=>111|n=>n,fun|9=>9|4=>4|3=>3|5=>5|117=>146|116=>145|0=>0|124=>149|21=>21|105=>152|46=>49|119=>192|139=>195|138=>194|n=>n,fun|3=>1|4=>2|n=>n⟩
theorem Tryz.lays162:Go.Proofs.Lays.n162 Tryz.prog Tryz.lays162_ren:={
 mixed:=by kernel_rfl
 f119:=Tryz.func194.trans (congrArg some (by kernel_rfl))
 f120:=Tryz.func180.trans (congrArg some (by kernel_rfl))
 f137:=Tryz.func42.trans (congrArg some (by kernel_rfl))
 f151:=Tryz.func155.trans (congrArg some (by kernel_rfl))
 f152:=Tryz.func181.trans (congrArg some (by kernel_rfl))
 f162:=Tryz.func72.trans (congrArg some (by kernel_rfl))
 f197:=Tryz.func119.trans (congrArg some (by kernel_rfl))
 f217:=Tryz.func75.trans (congrArg some (by kernel_rfl))
 f224:=Tryz.func186.trans (congrArg some (by kernel_rfl))
 f225:=Tryz.func185.trans (congrArg some (by kernel_rfl))
 f227:=Tryz.func107.trans (congrArg some (by kernel_rfl))
 f228:=Tryz.func153.trans (congrArg some (by kernel_rfl))
 f232:=Tryz.func106.trans (congrArg some (by kernel_rfl))
 f234:=Tryz.func108.trans (congrArg some (by kernel_rfl))
 f236:=Tryz.func109.trans (congrArg some (by kernel_rfl))
 f260:=Tryz.func160.trans (congrArg some (by kernel_rfl))
 f266:=Tryz.func111.trans (congrArg some (by kernel_rfl))
 f271:=Tryz.func154.trans (congrArg some (by kernel_rfl))
 t0:=Tryz.underlying0
 a0:=Tryz.isAgg0
 z0:=Tryz.sizeOf0
 v0:=Tryz.zeroValue0
 t3:=Tryz.underlying3
 a3:=Tryz.isAgg3
 z3:=Tryz.sizeOf3
 v3:=Tryz.zeroValue3
 t4:=Tryz.underlying4
 a4:=Tryz.isAgg4
 z4:=Tryz.sizeOf4
 v4:=Tryz.zeroValue4
 t5:=Tryz.underlying5
 a5:=Tryz.isAgg5
 z5:=Tryz.sizeOf5
 v5:=Tryz.zeroValue5
 t9:=Tryz.underlying9
 a9:=Tryz.isAgg9
 z9:=Tryz.sizeOf9
 v9:=Tryz.zeroValue9
 t21:=Tryz.underlying21
 a21:=Tryz.isAgg21
 z21:=Tryz.sizeOf21
 v21:=Tryz.zeroValue21
 t46:=Tryz.underlying49
 a46:=Tryz.isAgg49
 z46:=Tryz.sizeOf49
 v46:=Tryz.zeroValue49
 t105:=Tryz.underlying152
 a105:=Tryz.isAgg152
 z105:=Tryz.sizeOf152
 v105:=Tryz.zeroValue152
 t116:=Tryz.underlying145
 a116:=Tryz.isAgg145
 z116:=Tryz.sizeOf145
 t117:=Tryz.underlying146
 a117:=Tryz.isAgg146
 z117:=Tryz.sizeOf146
 v117:=Tryz.zeroValue146
 t119:=Tryz.underlying192
 a119:=Tryz.isAgg192
 z119:=Tryz.sizeOf192
 t124:=Tryz.underlying149
 a124:=Tryz.isAgg149
 z124:=Tryz.sizeOf149
 v124:=Tryz.zeroValue149
 t138:=Tryz.underlying194
 a138:=Tryz.isAgg194
 z138:=Tryz.sizeOf194
 v138:=Tryz.zeroValue194
 t139:=Tryz.underlying195
 a139:=Tryz.isAgg195
 z139:=Tryz.sizeOf195
 v139:=Tryz.zeroValue195
 g3:=by kernel_rfl
 g4:=by kernel_rfl }
def Tryz.lays160_ren:Go.Shelf.Ren:=⟨fun|160=>157|232=>106|231=>173|227=>107|234=>108|233=>174|236=>109|235=>175|228=>153|271=>154|151=>155|197=>119|120=>180|152=>181|260=>160|137=>42|119=>194|224=>186|225=>185|217=>75|266=>111|n=>n,fun|9=>9|4=>4|3=>3|5=>5|117=>146|116=>145|0=>0|124=>149|21=>21|105=>152|46=>49|119=>192|139=>195|138=>194|n=>n,fun|3=>1|4=>2|n=>n⟩
theorem Tryz.lays160:Go.Proofs.Lays.n160 Tryz.prog Tryz.lays160_ren:={
 mixed:=by kernel_rfl
 f119:=Tryz.func194.trans (congrArg some (by kernel_rfl))
 f120:=Tryz.func180.trans (congrArg some (by kernel_rfl))
 f137:=Tryz.func42.trans (congrArg some (by kernel_rfl))
 f151:=Tryz.func155.trans (congrArg some (by kernel_rfl))
 f152:=Tryz.func181.trans (congrArg some (by kernel_rfl))
 f160:=Tryz.func157.trans (congrArg some (by kernel_rfl))
 f197:=Tryz.func119.trans (congrArg some (by kernel_rfl))
 f217:=Tryz.func75.trans (congrArg some (by kernel_rfl))
 f224:=Tryz.func186.trans (congrArg some (by kernel_rfl))
 f225:=Tryz.func185.trans (congrArg some (by kernel_rfl))
 f227:=Tryz.func107.trans (congrArg some (by kernel_rfl))
 f228:=Tryz.func153.trans (congrArg some (by kernel_rfl))
 f231:=Tryz.func173.trans (congrArg some (by kernel_rfl))
 f232:=Tryz.func106.trans (congrArg some (by kernel_rfl))
 f233:=Tryz.func174.trans (congrArg some (by kernel_rfl))
 f234:=Tryz.func108.trans (congrArg some (by kernel_rfl))
 f235:=Tryz.func175.trans (congrArg some (by kernel_rfl))
 f236:=Tryz.func109.trans (congrArg some (by kernel_rfl))
 f260:=Tryz.func160.trans (congrArg some (by kernel_rfl))
 f266:=Tryz.func111.trans (congrArg some (by kernel_rfl))
 f271:=Tryz.func154.trans (congrArg some (by kernel_rfl))
 t0:=Tryz.underlying0
 a0:=Tryz.isAgg0
 z0:=Tryz.sizeOf0
 v0:=Tryz.zeroValue0
 t3:=Tryz.underlying3
 a3:=Tryz.isAgg3
 z3:=Tryz.sizeOf3
 v3:=Tryz.zeroValue3
 t4:=Tryz.underlying4
 a4:=Tryz.isAgg4
 z4:=Tryz.sizeOf4
 v4:=Tryz.zeroValue4
 t5:=Tryz.underlying5
 a5:=Tryz.isAgg5
 z5:=Tryz.sizeOf5
 v5:=Tryz.zeroValue5
 t9:=Tryz.underlying9
 a9:=Tryz.isAgg9
 z9:=Tryz.sizeOf9
 v9:=Tryz.zeroValue9
 t21:=Tryz.underlying21
 a21:=Tryz.isAgg21
 z21:=Tryz.sizeOf21
 v21:=Tryz.zeroValue21
 t46:=Tryz.underlying49
 a46:=Tryz.isAgg49
 z46:=Tryz.sizeOf49
 v46:=Tryz.zeroValue49
 t105:=Tryz.underlying152
 a105:=Tryz.isAgg152
 z105:=Tryz.sizeOf152
 v105:=Tryz.zeroValue152
 t116:=Tryz.underlying145
 a116:=Tryz.isAgg145
 z116:=Tryz.sizeOf145
 t117:=Tryz.underlying146
 a117:=Tryz.isAgg146
 z117:=Tryz.sizeOf146
 v117:=Tryz.zeroValue146
 t119:=Tryz.underlying192
 a119:=Tryz.isAgg192
 z119:=Tryz.sizeOf192
 t124:=Tryz.underlying149
 a124:=Tryz.isAgg149
 z124:=Tryz.sizeOf149
 v124:=Tryz.zeroValue149
 t138:=Tryz.underlying194
 a138:=Tryz.isAgg194
 z138:=Tryz.sizeOf194
 v138:=Tryz.zeroValue194
 t139:=Tryz.underlying195
 a139:=Tryz.isAgg195
 z139:=Tryz.sizeOf195
 v139:=Tryz.zeroValue195
 g3:=by kernel_rfl
 g4:=by kernel_rfl }
def Tryz.lays137_ren:Go.Shelf.Ren:=⟨fun|137=>42|217=>75|266=>111|n=>n,fun|9=>9|5=>5|3=>3|n=>n,fun|n=>n⟩
theorem Tryz.lays137:Go.Proofs.Lays.n137 Tryz.prog Tryz.lays137_ren:={
 mixed:=by kernel_rfl
 f137:=Tryz.func42.trans (congrArg some (by kernel_rfl))
 f217:=Tryz.func75.trans (congrArg some (by kernel_rfl))
 f266:=Tryz.func111.trans (congrArg some (by kernel_rfl))
 t3:=Tryz.underlying3
 a3:=Tryz.isAgg3
 z3:=Tryz.sizeOf3
 v3:=Tryz.zeroValue3
 t5:=Tryz.underlying5
 a5:=Tryz.isAgg5
 z5:=Tryz.sizeOf5
 v5:=Tryz.zeroValue5
 t9:=Tryz.underlying9
 a9:=Tryz.isAgg9
 z9:=Tryz.sizeOf9
 v9:=Tryz.zeroValue9 }
open Go.RowKit in
theorem Tryz.strings_IndexByte (s:ByteArray) (c:Int) (w:World) :
  Calls Tryz.prog 42 #[.string s,.int .u8 c] w fun e w'=>e=.returned (.int .i64 (Lib.indexByte s.data.toList c.toNat.toUInt8))∧w'=w:=Any.strings_IndexByte Tryz.lays137 s c w
def Tryz.lays103_ren:Go.Shelf.Ren:=⟨fun|103=>79|210=>117|206=>113|n=>n,fun|9=>9|4=>4|24=>95|3=>3|n=>n,fun|n=>n⟩
theorem Tryz.lays103:Go.Proofs.Lays.n103 Tryz.prog Tryz.lays103_ren:={
 mixed:=by kernel_rfl
 f103:=Tryz.func79.trans (congrArg some (by kernel_rfl))
 f206:=Tryz.func113.trans (congrArg some (by kernel_rfl))
 f210:=Tryz.func117.trans (congrArg some (by kernel_rfl))
 t3:=Tryz.underlying3
 a3:=Tryz.isAgg3
 z3:=Tryz.sizeOf3
 v3:=Tryz.zeroValue3
 t4:=Tryz.underlying4
 a4:=Tryz.isAgg4
 z4:=Tryz.sizeOf4
 v4:=Tryz.zeroValue4
 t9:=Tryz.underlying9
 a9:=Tryz.isAgg9
 z9:=Tryz.sizeOf9
 v9:=Tryz.zeroValue9
 t24:=Tryz.underlying95
 a24:=Tryz.isAgg95
 z24:=Tryz.sizeOf95
 v24:=Tryz.zeroValue95 }
open Go.RowKit in
theorem Tryz.strings_CutPrefix (s p:ByteArray) (w:World) :
  Calls Tryz.prog 79 #[.string s,.string p] w fun e w'=>e=.returned (.tuple #[.string ⟨(Lib.trimPrefix s.data.toList p.data.toList).toArray⟩,.bool (Lib.hasPrefix s.data.toList p.data.toList)])∧w'=w:=Any.strings_CutPrefix Tryz.lays103 s p w
def Tryz.laysM316_ren:Go.Shelf.Ren:=⟨fun|316=>89|n=>n,fun|9=>9|3=>3|4=>4|37=>155|0=>0|127=>165|5=>5|n=>n,fun|n=>n⟩
theorem Tryz.laysM316:Go.Proofs.LaysM.n316 Tryz.prog Tryz.laysM316_ren:={
 mixed:=by kernel_rfl
 f316:=Tryz.func89.trans (congrArg some (by kernel_rfl))
 t0:=Tryz.underlying0
 a0:=Tryz.isAgg0
 z0:=Tryz.sizeOf0
 v0:=Tryz.zeroValue0
 t3:=Tryz.underlying3
 a3:=Tryz.isAgg3
 z3:=Tryz.sizeOf3
 v3:=Tryz.zeroValue3
 t4:=Tryz.underlying4
 a4:=Tryz.isAgg4
 z4:=Tryz.sizeOf4
 v4:=Tryz.zeroValue4
 t9:=Tryz.underlying9
 a9:=Tryz.isAgg9
 z9:=Tryz.sizeOf9
 v9:=Tryz.zeroValue9
 t37:=Tryz.underlying155
 a37:=Tryz.isAgg155
 z37:=Tryz.sizeOf155
 v37:=Tryz.zeroValue155
 t127:=Tryz.underlying165
 a127:=Tryz.isAgg165
 z127:=Tryz.sizeOf165
 v127:=Tryz.zeroValue165
 t5:=Tryz.underlying5
 a5:=Tryz.isAgg5
 z5:=Tryz.sizeOf5
 v5:=Tryz.zeroValue5
 i0:=by kernel_rfl
 i3:=by kernel_rfl
 i4:=by kernel_rfl
 i5:=by kernel_rfl
 i9:=by kernel_rfl
 i37:=by kernel_rfl
 i127:=by kernel_rfl }
open Go.RowKit in
theorem Tryz.stringslite_Clone (s:ByteArray) (w:World) (hlim:s.size≤281474976710656) :
  Calls Tryz.prog 89 #[.string s] w fun e w'=>e=.returned (.string s)∧Below w.heap.size w w':=Any.stringslite_Clone Tryz.laysM316 s w hlim
def Tryz.lays144_ren:Go.Shelf.Ren:=⟨fun|144=>84|143=>123|219=>163|217=>75|225=>185|224=>186|267=>187|266=>111|314=>195|n=>n,fun|9=>9|4=>4|3=>3|5=>5|46=>49|146=>204|51=>203|n=>n,fun|1=>0|n=>n⟩
theorem Tryz.lays144:Go.Proofs.Lays.n144 Tryz.prog Tryz.lays144_ren:={
 mixed:=by kernel_rfl
 f143:=Tryz.func123.trans (congrArg some (by kernel_rfl))
 f144:=Tryz.func84.trans (congrArg some (by kernel_rfl))
 f217:=Tryz.func75.trans (congrArg some (by kernel_rfl))
 f219:=Tryz.func163.trans (congrArg some (by kernel_rfl))
 f224:=Tryz.func186.trans (congrArg some (by kernel_rfl))
 f225:=Tryz.func185.trans (congrArg some (by kernel_rfl))
 f266:=Tryz.func111.trans (congrArg some (by kernel_rfl))
 f267:=Tryz.func187.trans (congrArg some (by kernel_rfl))
 f314:=Tryz.func195.trans (congrArg some (by kernel_rfl))
 t3:=Tryz.underlying3
 a3:=Tryz.isAgg3
 z3:=Tryz.sizeOf3
 v3:=Tryz.zeroValue3
 t4:=Tryz.underlying4
 a4:=Tryz.isAgg4
 z4:=Tryz.sizeOf4
 v4:=Tryz.zeroValue4
 t5:=Tryz.underlying5
 a5:=Tryz.isAgg5
 z5:=Tryz.sizeOf5
 v5:=Tryz.zeroValue5
 t9:=Tryz.underlying9
 a9:=Tryz.isAgg9
 z9:=Tryz.sizeOf9
 v9:=Tryz.zeroValue9
 t46:=Tryz.underlying49
 a46:=Tryz.isAgg49
 z46:=Tryz.sizeOf49
 v46:=Tryz.zeroValue49
 t51:=Tryz.underlying203
 a51:=Tryz.isAgg203
 z51:=Tryz.sizeOf203
 v51:=Tryz.zeroValue203
 t146:=Tryz.underlying204
 a146:=Tryz.isAgg204
 z146:=Tryz.sizeOf204
 v146:=Tryz.zeroValue204
 g1:=by kernel_rfl }
open Go.RowKit Go.Lib in
theorem Tryz.strings_Contains_one (s:ByteArray) (c:UInt8) (w:World) :
  Calls Tryz.prog 84 #[.string s,.string ⟨#[c]⟩] w fun e w'=>e=.returned (.bool (decide (0≤Lib.indexByte s.data.toList c)))∧w'=w:=Any.strings_Contains_one Tryz.lays144 s c w
def Tryz.lays149_ren:Go.Shelf.Ren:=⟨fun|149=>74|222=>110|n=>n,fun|9=>9|5=>5|3=>3|4=>4|n=>n,fun|n=>n⟩
theorem Tryz.lays149:Go.Proofs.Lays.n149 Tryz.prog Tryz.lays149_ren:={
 mixed:=by kernel_rfl
 f149:=Tryz.func74.trans (congrArg some (by kernel_rfl))
 f222:=Tryz.func110.trans (congrArg some (by kernel_rfl))
 t3:=Tryz.underlying3
 a3:=Tryz.isAgg3
 z3:=Tryz.sizeOf3
 v3:=Tryz.zeroValue3
 t4:=Tryz.underlying4
 a4:=Tryz.isAgg4
 z4:=Tryz.sizeOf4
 v4:=Tryz.zeroValue4
 t5:=Tryz.underlying5
 a5:=Tryz.isAgg5
 z5:=Tryz.sizeOf5
 v5:=Tryz.zeroValue5
 t9:=Tryz.underlying9
 a9:=Tryz.isAgg9
 z9:=Tryz.sizeOf9
 v9:=Tryz.zeroValue9 }
open Go.RowKit Go.Lib in
theorem Tryz.strings_LastIndexByte (s:ByteArray) (c:Int) (hs:s.size<4611686018427387904) (w:World) :
  Calls Tryz.prog 74 #[.string s,.int .u8 c] w fun e w'=>e=.returned (.int .i64 (Lib.lastIndexByte s c))∧w'=w:=Any.strings_LastIndexByte Tryz.lays149 s c hs w
def Tryz.lays272_ren:Go.Shelf.Ren:=⟨fun|272=>112|315=>156|n=>n,fun|9=>9|40=>112|4=>4|3=>3|0=>0|21=>21|n=>n,fun|n=>n⟩
theorem Tryz.lays272:Go.Proofs.Lays.n272 Tryz.prog Tryz.lays272_ren:={
 mixed:=by kernel_rfl
 f272:=Tryz.func112.trans (congrArg some (by kernel_rfl))
 f315:=Tryz.func156.trans (congrArg some (by kernel_rfl))
 t0:=Tryz.underlying0
 a0:=Tryz.isAgg0
 z0:=Tryz.sizeOf0
 v0:=Tryz.zeroValue0
 t3:=Tryz.underlying3
 a3:=Tryz.isAgg3
 z3:=Tryz.sizeOf3
 v3:=Tryz.zeroValue3
 t4:=Tryz.underlying4
 a4:=Tryz.isAgg4
 z4:=Tryz.sizeOf4
 v4:=Tryz.zeroValue4
 t9:=Tryz.underlying9
 a9:=Tryz.isAgg9
 z9:=Tryz.sizeOf9
 v9:=Tryz.zeroValue9
 t21:=Tryz.underlying21
 a21:=Tryz.isAgg21
 z21:=Tryz.sizeOf21
 v21:=Tryz.zeroValue21
 t40:=Tryz.underlying112
 a40:=Tryz.isAgg112
 z40:=Tryz.sizeOf112
 v40:=Tryz.zeroValue112 }
open Go.RowKit Go.Lib in
theorem Tryz.strings_TrimLeftFunc (g:Nat) (lb:Array Value) (eg:∀ args w,(callFunc g args).run Tryz.prog w=.ok (.enter g args) w) (p:Nat→Bool) (s:ByteArray) (w:World) (hp:PredAt Tryz.prog g lb encR p w) :
  Calls Tryz.prog 112 #[.string s,.func (.func g) #[] lb] w fun e w'=>e=.returned (.string (Lib.trimLeftF p s))∧Below w.heap.size w w':=Any.strings_TrimLeftFunc Tryz.lays272 g lb eg p s w hp
def Tryz.lays238_ren:Go.Shelf.Ren:=⟨fun|238=>80|273=>118|197=>119|271=>154|260=>160|120=>180|n=>n,fun|9=>9|40=>112|4=>4|3=>3|105=>152|21=>21|5=>5|119=>192|0=>0|46=>49|139=>195|138=>194|n=>n,fun|3=>1|4=>2|n=>n⟩
theorem Tryz.lays238:Go.Proofs.Lays.n238 Tryz.prog Tryz.lays238_ren:={
 mixed:=by kernel_rfl
 f120:=Tryz.func180.trans (congrArg some (by kernel_rfl))
 f197:=Tryz.func119.trans (congrArg some (by kernel_rfl))
 f238:=Tryz.func80.trans (congrArg some (by kernel_rfl))
 f260:=Tryz.func160.trans (congrArg some (by kernel_rfl))
 f271:=Tryz.func154.trans (congrArg some (by kernel_rfl))
 f273:=Tryz.func118.trans (congrArg some (by kernel_rfl))
 t0:=Tryz.underlying0
 a0:=Tryz.isAgg0
 z0:=Tryz.sizeOf0
 v0:=Tryz.zeroValue0
 t3:=Tryz.underlying3
 a3:=Tryz.isAgg3
 z3:=Tryz.sizeOf3
 v3:=Tryz.zeroValue3
 t4:=Tryz.underlying4
 a4:=Tryz.isAgg4
 z4:=Tryz.sizeOf4
 v4:=Tryz.zeroValue4
 t5:=Tryz.underlying5
 a5:=Tryz.isAgg5
 z5:=Tryz.sizeOf5
 v5:=Tryz.zeroValue5
 t9:=Tryz.underlying9
 a9:=Tryz.isAgg9
 z9:=Tryz.sizeOf9
 v9:=Tryz.zeroValue9
 t21:=Tryz.underlying21
 a21:=Tryz.isAgg21
 z21:=Tryz.sizeOf21
 v21:=Tryz.zeroValue21
 t40:=Tryz.underlying112
 a40:=Tryz.isAgg112
 z40:=Tryz.sizeOf112
 v40:=Tryz.zeroValue112
 t46:=Tryz.underlying49
 a46:=Tryz.isAgg49
 z46:=Tryz.sizeOf49
 v46:=Tryz.zeroValue49
 t105:=Tryz.underlying152
 a105:=Tryz.isAgg152
 z105:=Tryz.sizeOf152
 v105:=Tryz.zeroValue152
 t119:=Tryz.underlying192
 a119:=Tryz.isAgg192
 z119:=Tryz.sizeOf192
 t138:=Tryz.underlying194
 a138:=Tryz.isAgg194
 z138:=Tryz.sizeOf194
 v138:=Tryz.zeroValue194
 t139:=Tryz.underlying195
 a139:=Tryz.isAgg195
 z139:=Tryz.sizeOf195
 v139:=Tryz.zeroValue195
 g3:=by kernel_rfl
 g4:=by kernel_rfl }
open Go.RowKit Go.Lib in
theorem Tryz.strings_TrimRightFunc (g:Nat) (lb:Array Value) (eg:∀ args w,(callFunc g args).run Tryz.prog w=.ok (.enter g args) w) (p:Nat→Bool) (s:ByteArray) (w:World) (hs:s.size≤9223372036854775807) (hT:Lib.Utf8Tabs 1 2 w) (hp:PredAt Tryz.prog g lb encR p w) :
  Calls Tryz.prog 80 #[.string s,.func (.func g) #[] lb] w fun e w'=>e=.returned (.string (Lib.trimRightF p s))∧Below w.heap.size w w':=Any.strings_TrimRightFunc Tryz.lays238 g lb eg p s w hs hT hp
def Tryz.lays99_ren:Go.Shelf.Ren:=⟨fun|99=>77|206=>113|n=>n,fun|9=>9|4=>4|3=>3|n=>n,fun|n=>n⟩
theorem Tryz.lays99:Go.Proofs.Lays.n99 Tryz.prog Tryz.lays99_ren:={
 mixed:=by kernel_rfl
 f99:=Tryz.func77.trans (congrArg some (by kernel_rfl))
 f206:=Tryz.func113.trans (congrArg some (by kernel_rfl))
 t3:=Tryz.underlying3
 a3:=Tryz.isAgg3
 z3:=Tryz.sizeOf3
 v3:=Tryz.zeroValue3
 t4:=Tryz.underlying4
 a4:=Tryz.isAgg4
 z4:=Tryz.sizeOf4
 v4:=Tryz.zeroValue4
 t9:=Tryz.underlying9
 a9:=Tryz.isAgg9
 z9:=Tryz.sizeOf9
 v9:=Tryz.zeroValue9 }
open Go.RowKit Go.Lib in
theorem Tryz.strings_HasPrefix (s p:ByteArray) (w:World) :
  Calls Tryz.prog 77 #[.string s,.string p] w fun e w'=>e=.returned (.bool (Lib.hasPrefix s.data.toList p.data.toList))∧w'=w:=Any.strings_HasPrefix Tryz.lays99 s p w
def Tryz.lays100_ren:Go.Shelf.Ren:=⟨fun|100=>158|207=>182|n=>n,fun|9=>9|4=>4|3=>3|n=>n,fun|n=>n⟩
theorem Tryz.lays100:Go.Proofs.Lays.n100 Tryz.prog Tryz.lays100_ren:={
 mixed:=by kernel_rfl
 f100:=Tryz.func158.trans (congrArg some (by kernel_rfl))
 f207:=Tryz.func182.trans (congrArg some (by kernel_rfl))
 t3:=Tryz.underlying3
 a3:=Tryz.isAgg3
 z3:=Tryz.sizeOf3
 v3:=Tryz.zeroValue3
 t4:=Tryz.underlying4
 a4:=Tryz.isAgg4
 z4:=Tryz.sizeOf4
 v4:=Tryz.zeroValue4
 t9:=Tryz.underlying9
 a9:=Tryz.isAgg9
 z9:=Tryz.sizeOf9
 v9:=Tryz.zeroValue9 }
open Go.RowKit Go.Lib in
theorem Tryz.strings_HasSuffix (s p:ByteArray) (w:World) (hs:s.size≤9223372036854775807) :
  Calls Tryz.prog 158 #[.string s,.string p] w fun e w'=>e=.returned (.bool (Lib.hasSuffix s.data.toList p.data.toList))∧w'=w:=Any.strings_HasSuffix Tryz.lays100 s p w hs
end Go.Proofs
namespace Go.Proofs.YthcmkpiajkbpnaaGreatDoor.U
open Go.Lib
def bad (l:List UInt8):Bool:=(decodeL l).1==65533&&(decodeL l).2==1
def scalar (r:Int):Bool:=decide ((0≤r∧r<55296)∨(57343<r∧r≤1114111))
theorem bad_iff (l:List UInt8):bad l=true↔(decodeL l).1=65533∧(decodeL l).2=1:=by simp[bad]
theorem decodeL_scalar (l:List UInt8):scalar ((decodeL l).1:Int)=true:=by
 rw[decodeL_N]
 have k0:=(l.getD 0 0).toNat_lt
 have k1:=(l.getD 1 0).toNat_lt
 have k2:=(l.getD 2 0).toNat_lt
 have k3:=(l.getD 3 0).toNat_lt
 unfold scalar
 rw[decide_eq_true_eq]
 rcases decodeN_shape l.length (l.getD 0 0).toNat (l.getD 1 0).toNat (l.getD 2 0).toNat (l.getD 3 0).toNat with ⟨c,e⟩|⟨c1,c2,c3,cv,e⟩|⟨c1,c2,c3,c4,cv,cs,e⟩|⟨c1,c2,c3,c4,c5,cv,cw,e⟩|e
 all_goals (rw[e];dsimp only;omega)
end Go.Proofs.YthcmkpiajkbpnaaGreatDoor.U
namespace Go.Proofs.YthcmkpiajkbpnaaGreatDoor
open Go.RowKit
theorem drop_ne {s:ByteArray} {pos:Nat} (h:pos<s.size):s.data.toList.drop pos≠[]:=by
 intro h0
 have:=congrArg List.length h0
 have hl:=Lib.size_eq s
 simp at this
 omega
theorem bad_width (s:ByteArray) (pos:Nat) (_h:pos<s.size) (hb:U.bad (s.data.toList.drop pos)=true):(Utf8.decode s pos).1=65533:=by
 rw[U.bad_iff,Lib.decodeL_drop] at hb
 exact hb.1
theorem dec_pos (s:ByteArray) (pos:Nat):1≤(Utf8.decode s pos).2:=by
 rw[←Lib.decodeL_drop];exact Lib.decodeL_width _
theorem dec_le (s:ByteArray) (pos:Nat) (h:pos<s.size):pos+(Utf8.decode s pos).2≤s.size:=by
 have:=Lib.decodeL_le _ (drop_ne h)
 rw[Lib.decodeL_drop,List.length_drop,←Lib.size_eq] at this
 omega
theorem ownsRow_below {w w':World} {B B':Nat} {e:TypeId} {size:Nat} {v:Value} {n:Nat} {xs:List Value} (h:w.ownsRow B e size v n xs) (hb:Below B' w w') (hB:w.heap.size≤B'):w'.ownsRow B e size v n xs:=by
 refine ⟨h.1,?_⟩
 rcases h.2 with h2|⟨g,cap,cur,hv,hg,hh,r⟩
 ·exact .inl h2
 ·refine .inr ⟨g,cap,cur,hv,hg,?_,r⟩
  rw[hb.block g (Nat.lt_of_lt_of_le (Array.getElem?_eq_some_iff.1 hh).1 hB)];exact hh
end Go.Proofs.YthcmkpiajkbpnaaGreatDoor
namespace Go.Proofs.YthcmkpiajkbpnaaGreatDoor
open Go.RowKit
def one (l:List UInt8):Nat × Nat:=if U.bad l=true then (0,0) else Lib.decodeL l
def byt (s:ByteArray) (i:Nat):Nat:=(s.get! i).toNat
def acc (s:ByteArray) (pos:Nat) (m:Nat):Nat→Nat
 | 0=>m
 | i+1=>acc s pos m i*64+byt s (pos+(i+1)) % 64
def oneN (n b0 b1 b2 b3:Nat):Nat × Nat:=if (Lib.decodeN n b0 b1 b2 b3).1=65533∧(Lib.decodeN n b0 b1 b2 b3).2=1 then (0,0) else Lib.decodeN n b0 b1 b2 b3
theorem one_eq (s:ByteArray) (pos:Nat):one (s.data.toList.drop pos)=oneN (s.size-pos) (byt s pos) (byt s (pos+1)) (byt s (pos+2)) (byt s (pos+3)):=by
 unfold one oneN byt
 rw[←Lib.decode_at,←Lib.decodeL_drop]
 by_cases h:U.bad (s.data.toList.drop pos)=true
 ·rw[if_pos h,if_pos ((U.bad_iff _).1 h)]
 ·rw[if_neg h,if_neg (fun x=>h ((U.bad_iff _).2 x))]
theorem oneN_some {n b0 b1 b2 b3 c k:Nat} (h:Lib.decodeN n b0 b1 b2 b3=(c,k)) (hk:c<128∨2≤k):oneN n b0 b1 b2 b3=(c,k):=by
 unfold oneN
 rw[h,if_neg]
 intro x
 dsimp only at x
 omega
theorem oneA (n b0 b1 b2 b3:Nat) (h:b0<128):oneN n b0 b1 b2 b3=(b0,1):=
 oneN_some (by unfold Lib.decodeN;rw[if_pos h]) (.inl h)
theorem run_byt (s:ByteArray) (i:Nat) (h:i<s.size) (x:Int) (hx:x=(i:Int)):∀ W,(Instr.index 9 (.string s) (.int .i64 x)).run Tryz.prog W=.ok (.int .u8 (byt s i:Int)) W:=by
 intro W
 subst hx
 have e:s.get! i=s[i]'h:=by
  simp[ByteArray.get!,getElem!_pos,h]
  rfl
 simp[Instr.index,asIntOf,run_underlying Tryz.underlying9,byt,e,h]
end Go.Proofs.YthcmkpiajkbpnaaGreatDoor
namespace Go.Proofs.YthcmkpiajkbpnaaGreatDoor
open Go.RowKit
def lowZ (x n:Int):Int:=x % 18446744073709551616 % n
theorem drop_getD {α:Type} (l:List α) (d:α) (k:Nat) (h:k<l.length):l.drop k=l.getD k d :: l.drop (k+1):=by
 rw[List.drop_eq_getElem_cons h]
 simp[List.getD,List.getElem?_eq_getElem h]
theorem tb2 {a b c:World} (h:Below a.heap.size a b) (k:Below b.heap.size b c):Below a.heap.size a c:=h.trans (k.mono h.size)
end Go.Proofs.YthcmkpiajkbpnaaGreatDoor
namespace Go.Proofs.YthcmkpiajkbpnaaGreatDoor
open Go.RowKit
theorem getD_mem_drop (ls:List (List UInt8)) (k:Nat) (h:k<ls.length):ls.drop k=ls.getD k [] :: ls.drop (k+1):=by
 rw[List.drop_eq_getElem_cons h]
 simp[List.getD,List.getElem?_eq_getElem h]
def IsTexts (B:Nat) (w:World) (v:Value) (ls:List (List UInt8)):Prop:=
 ∃ ao cap,v=.slice ao ls.length cap∧ls.length≤cap∧cap≤maxLen∧(ao=none→cap=0)∧(0<ls.length→∃ b o,ao=some ⟨b,o,none⟩∧b<B∧∀ j,j<ls.length→w.cell? ⟨b,o+j,none⟩=some (.string ⟨(ls.getD j []).toArray⟩))
theorem IsTexts.slice {B:Nat} {w:World} {v:Value} {ls:List (List UInt8)} (h:IsTexts B w v ls):∃ ao cap,v=.slice ao ls.length cap∧ls.length≤cap∧cap≤maxLen:=by
 obtain ⟨ao,cap,rfl,h1,h2,_⟩:=h
 exact ⟨ao,cap,rfl,h1,h2⟩
theorem IsTexts.at {B:Nat} {w:World} {ao:Option Addr} {n cap:Nat} {ls:List (List UInt8)} (h:IsTexts B w (.slice ao n cap) ls) (hn:ls.length=n) (hp:0<n):∃ b o,ao=some ⟨b,o,none⟩∧b<B∧∀ j,j<n→w.cell? ⟨b,o+j,none⟩=some (.string ⟨(ls.getD j []).toArray⟩):=by
 obtain ⟨ao',cap',e,h1,h2,h3,h4⟩:=h
 rw[hn] at e h4
 injection e with e1 e2 e3
 subst e1
 exact h4 hp
theorem texts_none (B:Nat) (w:World):IsTexts B w (.slice none 0 0) []:=⟨none,0,rfl,by simp,by decide,fun _=>rfl,fun h=>by simp at h⟩
theorem texts_new (w:World) (ls:List (List UInt8)) (h:ls.length≤maxLen):IsTexts (w.heap.size+1) (w.alloc (.cells (ls.map fun l=>Value.string ⟨l.toArray⟩).toArray 9)) (.slice (some ⟨w.heap.size,0,none⟩) ls.length ls.length) ls:=by
 refine ⟨_,ls.length,rfl,Nat.le_refl _,h,(fun h=>by cases h),fun hp=>⟨_,_,rfl,Nat.lt_succ_self _,fun j hj=>?_⟩⟩
 rw[Nat.zero_add,World.cell?_alloc_mark]
 simp[List.getD,hj]
def txts (ls:List (List UInt8)):List Value:=ls.map fun l=>Value.string ⟨l.toArray⟩
theorem txts_length (ls:List (List UInt8)):(txts ls).length=ls.length:=List.length_map _
theorem txts_append (a b:List (List UInt8)):txts (a++b)=txts a++txts b:=List.map_append
theorem txts_get (ls:List (List UInt8)) (j:Nat) (h:j<ls.length):(txts ls)[j]?=some (.string ⟨(ls.getD j []).toArray⟩):=by
 unfold txts;simp[List.getD,h]
def OutT (B:Nat) (w:World) (v:Value) (ls:List (List UInt8)):Prop:=w.ownsRow B 9 1 v ls.length (txts ls)
theorem OutT.nil (B:Nat) (w:World):OutT B w (.slice none 0 0) []:=World.ownsRow_nil _ _ _ _
theorem OutT.below {B:Nat} {w w':World} {v:Value} {ls:List (List UInt8)} (h:OutT B w v ls) (hb:Below w.heap.size w w'):OutT B w' v ls:=ownsRow_below h hb (Nat.le_refl _)
theorem OutT.is {B:Nat} {w:World} {v:Value} {ls:List (List UInt8)} (h:OutT B w v ls):IsTexts w.heap.size w v ls:=by
 obtain ⟨_,h2⟩:=h
 rcases h2 with ⟨rfl,hn⟩|⟨g,cap,cur,rfl,hg,hh,hnc,hcm,hcs,htake⟩
 ·have:ls=[]:=List.eq_nil_of_length_eq_zero (by omega)
  subst this
  exact texts_none _ _
 ·refine ⟨_,cap,rfl,hnc,hcm,(fun h=>by cases h),fun _=>⟨g,0,rfl,(Array.getElem?_eq_some_iff.1 hh).1,fun j hj=>?_⟩⟩
  rw[cell_of_row w g (0+j) cur _ (0,0) hh,Nat.zero_add]
  have h3:(cur.toList.take (ls.length*1))[j]?=(txts ls)[j]?:=by rw[htake]
  rw[List.getElem?_take,if_pos (by omega),Array.getElem?_toList] at h3
  rw[h3,txts_get ls j hj]
theorem OutT.shape {B:Nat} {w:World} {v:Value} {ls:List (List UInt8)} (h:OutT B w v ls) (hp:0<ls.length) :
  ∃ g cp,v=.slice (some ⟨g,0,none⟩) ls.length cp∧B≤g∧ls.length≤cp∧cp≤maxLen:=by
 rcases h.2 with ⟨_,hn⟩|⟨g,cap,cur,rfl,hg,_,hnc,hcm,_⟩
 ·omega
 ·exact ⟨g,cap,rfl,hg,hnc,hcm⟩
theorem infoS:(Tryz.prog.info? 9).map (fun i=>(i.zero,i.size,i.bytes))=some (some (.string ByteArray.empty),1,16):=by kernel_rfl
theorem appendT {ops:Array Oper} {rest:List Oper} {o:Oper} {a:Act} {Q:Exit→Act→World→Prop} {w:World} (hgd:o.guard=none) (s x:Operand)
  (ho:o.op=.call { callee:=.builtin .append,args:=#[s,x],argTypes:=#[37,37] })
  (B B2:Nat) (v v2:Value) (xs ys:List (List UInt8)) (hs:a.eval s=v) (hx:a.eval x=v2) (hv:OutT B w v xs) (hv2:IsTexts B2 w v2 ys) (hn:xs.length+ys.length≤1099511627776) (hB:B≤w.heap.size)
  (h:∀ v' w',OutT B w' v' (xs++ys)→w.grownBy w' v.ownBlock→wpList Tryz.prog ops Q rest (a.put o.dst v') w'):wpList Tryz.prog ops Q (o :: rest) a w:=by
 obtain ⟨i0,hi,hz0,hz1,hz2⟩:=info_parts infoS
 obtain ⟨ao,cap,rfl,k1,k2,k3,k4⟩:=hv2
 have key:∀ (ad:Addr),ao=some ad→wpList Tryz.prog ops Q (o :: rest) a w:=fun ad had=>by
  refine wpList_append_own _ hgd s x 37 ho B 9 i0 (.string ByteArray.empty) 1 16 Tryz.underlying37 hi hz0 hz1 hz2 rfl (by decide) v xs.length (txts xs) hs hv ad ys.length cap (txts ys) (by rw[hx,had]) (by simp[txts_length]) ?_ (by intro u hu;simp[txts] at hu;obtain ⟨z,_,rfl⟩:=hu;rfl) (by unfold maxLen;omega) (by omega) hB ?_
  ·intro j u hu
   have hj:j<ys.length:=by
    have:=(List.getElem?_eq_some_iff.1 hu).1
    simpa [txts_length] using this
   obtain ⟨b,o,e,_,hc⟩:=k4 (by omega)
   rw[had] at e
   obtain rfl:=Option.some.inj e
   rw[Addr.add_lit,hc j hj,←hu,txts_get ys j hj]
  ·intro v' w' h1 h2 _
   refine h v' w' ?_ h2
   unfold OutT
   rw[List.length_append,txts_append]
   exact h1
 cases ao with
 | some ad=>exact key ad rfl
 | none=>
  have hc:=k3 rfl
  subst hc
  have hy:ys=[]:=List.eq_nil_of_length_eq_zero (by omega)
  subst hy
  refine wpList_append_own_none hgd s x 37 ho B 9 i0 1 Tryz.underlying37 hi v xs.length (txts xs) hs hv hx ?_
  exact h v w (by rw[List.append_nil];exact hv) (World.grownBy.refl _ _)
theorem OutT.lt {B:Nat} {w:World} {v:Value} {ls:List (List UInt8)} (h:OutT B w v ls):∀ k,v.ownBlock=some k→B≤k∧k<w.heap.size:=World.ownsRow.lt h
theorem appendOne {ops:Array Oper} {rest:List Oper} {o:Oper} {a:Act} {Q:Exit→Act→World→Prop} (w0:World) (y:List UInt8) (hgd:o.guard=none) (s x:Operand)
  (ho:o.op=.call { callee:=.builtin .append,args:=#[s,x],argTypes:=#[37,37] })
  (B:Nat) (wb:World) (v:Value) (xs:List (List UInt8)) (hs:a.eval s=v) (hx:a.eval x=.slice (some ⟨w0.heap.size,0,none⟩) 1 1) (hv:OutT B w0 v xs) (hb:Below B wb w0) (hn:xs.length≤1000000000) (hB:B≤wb.heap.size)
  (h:∀ v' w',OutT B w' v' (xs++[y])→Below B wb w'→wpList Tryz.prog ops Q rest (a.put o.dst v') w'):wpList Tryz.prog ops Q (o :: rest) a (w0.alloc (.cells #[.string ⟨y.toArray⟩] 9)):=by
 have hs0:=hb.size
 have hw0:(w0.alloc (.cells #[.string ⟨y.toArray⟩] 9)).heap.size=w0.heap.size+1:=by simp
 have hB0:B≤w0.heap.size:=Nat.le_trans hB hs0
 refine appendT hgd s x ho B (w0.heap.size+1) v _ xs [y] hs hx (hv.below ((Below.refl _ _).alloc (Nat.le_refl _) _)) (texts_new w0 [y] (by simp[maxLen])) (by simp;omega) (by rw[hw0];omega) ?_
 intro v' w' h1 h2
 exact h v' w' h1 ((hb.alloc hB0 _).grown h2 (by rw[hw0];omega) (fun k hk=>(hv.lt k hk).1))
theorem OutT_one (B:Nat) (w:World) (l:List UInt8) (hB:B≤w.heap.size):OutT B (w.alloc (.cells #[.string ⟨l.toArray⟩] 9)) (.slice (some ⟨w.heap.size,0,none⟩) 1 1) [l]:=
 ⟨by simp[txts],.inr ⟨w.heap.size,1,#[.string ⟨l.toArray⟩],rfl,hB,heap_alloc_new w _,Nat.le_refl _,by decide,rfl,rfl⟩⟩
theorem results_tmp4 {fn:Func} {t u v x:Tmp} (h:fn.results=#[.tmp t,.tmp u,.tmp v,.tmp x]) (tmps:Array Value) (P:Program) (w:World) :
  (results fn tmps).run P w=.ok (.tuple #[tmps.getD t undef,tmps.getD u undef,tmps.getD v undef,tmps.getD x undef]) w:=by
 simp[results,h,go_sem]
end Go.Proofs.YthcmkpiajkbpnaaGreatDoor
namespace Go.Proofs.YthcmkpiajkbpnaaGreatDoor
open Go.RowKit
theorem infoC:(Tryz.prog.info? 36).map (fun i=>(i.zero,i.size,i.bytes))=some (some (.agg #[.string ByteArray.empty,.int .i64 0]),2,24):=by kernel_rfl
def comV:List (List UInt8 × Nat)→List Value
 | []=>[]
 | c :: cs=>.string ⟨c.1.toArray⟩ :: .int .i64 (c.2:Int) :: comV cs
theorem comV_length:∀ cs:List (List UInt8 × Nat),(comV cs).length=cs.length*2
 | []=>rfl
 | c :: cs=>by
  show (comV cs).length+1+1=(cs.length+1)*2
  rw[comV_length cs];omega
theorem comV_append:∀ a b:List (List UInt8 × Nat),comV (a++b)=comV a++comV b
 | [],b=>rfl
 | c :: a,b=>by
  show _ :: _ :: comV (a++b)=_
  rw[comV_append a b]
  rfl
def comT (cs:List (List UInt8 × Nat)) (j:Nat):List UInt8:=(cs.getD j ([],0)).1
def comN (cs:List (List UInt8 × Nat)) (j:Nat):Nat:=(cs.getD j ([],0)).2
theorem comV_get:∀ (cs:List (List UInt8 × Nat)) (j:Nat),j<cs.length→(comV cs)[j*2]?=some (.string ⟨(comT cs j).toArray⟩)∧(comV cs)[j*2+1]?=some (.int .i64 (comN cs j:Int))
 | [],j,h=>by simp at h
 | c :: cs,0,h=>⟨rfl,rfl⟩
 | c :: cs,j+1,h=>by
  obtain ⟨h1,h2⟩:=comV_get cs j (by simpa using h)
  have e1:(j+1)*2=j*2+1+1:=by omega
  refine ⟨?_,?_⟩
  ·rw[e1]
   show (comV cs)[j*2]?=_
   rw[h1];rfl
  ·rw[e1]
   show (comV cs)[j*2+1]?=_
   rw[h2];rfl
theorem comV_one:∀ (cs:List (List UInt8 × Nat)),∀ u∈comV cs,u.oneCell'=true
 | [],u,h=>by simp[comV] at h
 | c :: cs,u,h=>by
  simp only[comV,List.mem_cons] at h
  rcases h with rfl|rfl|h
  ·rfl
  ·rfl
  ·exact comV_one cs u h
def OutC (B:Nat) (w:World) (v:Value) (cs:List (List UInt8 × Nat)):Prop:=w.ownsRow B 36 2 v cs.length (comV cs)
theorem OutC.nil (B:Nat) (w:World):OutC B w (.slice none 0 0) []:=World.ownsRow_nil _ _ _ _
theorem OutC.below {B:Nat} {w w':World} {v:Value} {cs:List (List UInt8 × Nat)} (h:OutC B w v cs) (hb:Below w.heap.size w w'):OutC B w' v cs:=ownsRow_below h hb (Nat.le_refl _)
theorem OutC.lt {B:Nat} {w:World} {v:Value} {cs:List (List UInt8 × Nat)} (h:OutC B w v cs):∀ k,v.ownBlock=some k→B≤k∧k<w.heap.size:=World.ownsRow.lt h
theorem appendC {ops:Array Oper} {rest:List Oper} {o:Oper} {a:Act} {Q:Exit→Act→World→Prop} (w0:World) (T:ByteArray) (t:List UInt8) (n:Nat) (z:Int) (hT:(⟨t.toArray⟩:ByteArray)=T) (hz:(n:Int)=z) (hgd:o.guard=none) (s x:Operand)
  (ho:o.op=.call { callee:=.builtin .append,args:=#[s,x],argTypes:=#[25,25] })
  (B:Nat) (wb:World) (v:Value) (xs:List (List UInt8 × Nat)) (hs:a.eval s=v) (hx:a.eval x=.slice (some ⟨w0.heap.size,0,none⟩) 1 1) (hv:OutC B w0 v xs) (hb:Below B wb w0) (hn:xs.length≤1000000000) (hB:B≤wb.heap.size)
  (h:∀ v' w',OutC B w' v' (xs++[(t,n)])→Below B wb w'→wpList Tryz.prog ops Q rest (a.put o.dst v') w'):wpList Tryz.prog ops Q (o :: rest) a (w0.alloc (.cells #[.string T,.int .i64 z] 36)):=by
 subst hT hz
 obtain ⟨i0,hi,hz0,hz1,hz2⟩:=info_parts infoC
 have hs0:=hb.size
 have hw0:(w0.alloc (.cells #[.string ⟨t.toArray⟩,.int .i64 (n:Int)] 36)).heap.size=w0.heap.size+1:=by simp
 have hB0:B≤w0.heap.size:=Nat.le_trans hB hs0
 refine wpList_append_own _ hgd s x 25 ho B 36 i0 (.agg #[.string ByteArray.empty,.int .i64 0]) 2 24 Tryz.underlying25 hi hz0 hz1 hz2 rfl (by decide) v xs.length (comV xs) hs (hv.below ((Below.refl _ _).alloc (Nat.le_refl _) _)) ⟨w0.heap.size,0,none⟩ 1 1 (comV [(t,n)]) hx rfl ?_ (comV_one _) (by unfold maxLen;omega) (by omega) (by rw[hw0];omega) ?_
 ·intro j u hu
  rw[Addr.add_lit,Nat.zero_add,World.cell?_alloc_mark]
  rw[←hu]
  match j with
  | 0=>rfl
  | 1=>rfl
  | j+2=>rfl
 ·intro v' w' h1 h2 _
  refine h v' w' ?_ ((hb.alloc hB0 _).grown h2 (by rw[hw0];omega) (fun k hk=>(hv.lt k hk).1))
  unfold OutC
  rw[List.length_append,comV_append]
  exact h1
end Go.Proofs.YthcmkpiajkbpnaaGreatDoor
