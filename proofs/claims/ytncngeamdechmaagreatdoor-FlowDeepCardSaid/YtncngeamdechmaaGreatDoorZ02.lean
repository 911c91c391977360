/- Parts of the proof, put together from smaller texts (blanks that Lean does not want are struck). Conditions: those that each theorem writes out. -/
import Derived.Lib.CountLaws
import Derived.Lib.Replace
import Derived.Shelf.LaysC
import Derived.Shelf.LaysM
import Derived.Shelf.Small.Strs
import Derived.Shelf.Small.Utf8
import Derived.Shelf.Strconv.Clone
import Derived.Shelf.Strconv.SyntaxError
import Derived.Shelf.Strconv.ToError
import Derived.Shelf.Strings.AsciiSet
import Derived.Shelf.Strings.Builder1
import Derived.Shelf.Strings.BuilderF
import Derived.Shelf.Strings.BuilderK
import Derived.Shelf.Strings.BuilderRune
import Derived.Shelf.Strings.LastIndex
import Derived.Shelf.Strings.Prefix
import Derived.Shelf.Strings.Runes
import Derived.Shelf.Strings.Search1
import Derived.Shelf.Strings.Search2
import Derived.Shelf.Strings.Search3
import Derived.Shelf.Strings.Shaped
import Derived.Shelf.Strings.Trim
import Derived.Shelf.Unicode.DecodeSlow
import Derived.Test.YtncngeamdechmaaGreatDoorProg
import Derived.Test.YtncngeamdechmaaGreatDoorZ00
import Derived.Test.YtncngeamdechmaaGreatDoorZ01
namespace Go.Proofs
open Go.Shelf
def Tryz.lays161_ren:Go.Shelf.Ren:=⟨fun|161=>97|231=>110|227=>84|233=>111|235=>112|228=>103|197=>115|151=>105|260=>121|152=>116|137=>81|119=>122|224=>79|225=>78|217=>77|266=>101|n=>n,fun|9=>9|4=>4|3=>3|5=>5|117=>105|116=>104|0=>0|124=>108|105=>129|21=>21|119=>146|46=>47|139=>149|138=>148|n=>n,fun|3=>1|4=>2|n=>n⟩
theorem Tryz.lays161:Go.Proofs.Lays.n161 Tryz.prog Tryz.lays161_ren:={
 mixed:=by kernel_rfl
 f119:=Tryz.func122.trans (congrArg some (by kernel_rfl))
 f137:=Tryz.func81.trans (congrArg some (by kernel_rfl))
 f151:=Tryz.func105.trans (congrArg some (by kernel_rfl))
 f152:=Tryz.func116.trans (congrArg some (by kernel_rfl))
 f161:=Tryz.func97.trans (congrArg some (by kernel_rfl))
 f197:=Tryz.func115.trans (congrArg some (by kernel_rfl))
 f217:=Tryz.func77.trans (congrArg some (by kernel_rfl))
 f224:=Tryz.func79.trans (congrArg some (by kernel_rfl))
 f225:=Tryz.func78.trans (congrArg some (by kernel_rfl))
 f227:=Tryz.func84.trans (congrArg some (by kernel_rfl))
 f228:=Tryz.func103.trans (congrArg some (by kernel_rfl))
 f231:=Tryz.func110.trans (congrArg some (by kernel_rfl))
 f233:=Tryz.func111.trans (congrArg some (by kernel_rfl))
 f235:=Tryz.func112.trans (congrArg some (by kernel_rfl))
 f260:=Tryz.func121.trans (congrArg some (by kernel_rfl))
 f266:=Tryz.func101.trans (congrArg some (by kernel_rfl))
 t0:=Tryz.underlying0
 a0:=Tryz.isAgg0
 z0:=Tryz.sizeOf0
 v0:=Tryz.zeroValue0
 t3:=Tryz.underlying3
 a3:=Tryz.isAgg3
 z3:=Tryz.sizeOf3
 v3:=Tryz.zeroValue3
 t4:=Tryz.underlying4
 a4:=Tryz.isAgg4
 z4:=Tryz.sizeOf4
 v4:=Tryz.zeroValue4
 t5:=Tryz.underlying5
 a5:=Tryz.isAgg5
 z5:=Tryz.sizeOf5
 v5:=Tryz.zeroValue5
 t9:=Tryz.underlying9
 a9:=Tryz.isAgg9
 z9:=Tryz.sizeOf9
 v9:=Tryz.zeroValue9
 t21:=Tryz.underlying21
 a21:=Tryz.isAgg21
 z21:=Tryz.sizeOf21
 v21:=Tryz.zeroValue21
 t46:=Tryz.underlying47
 a46:=Tryz.isAgg47
 z46:=Tryz.sizeOf47
 v46:=Tryz.zeroValue47
 t105:=Tryz.underlying129
 a105:=Tryz.isAgg129
 z105:=Tryz.sizeOf129
 v105:=Tryz.zeroValue129
 t116:=Tryz.underlying104
 a116:=Tryz.isAgg104
 z116:=Tryz.sizeOf104
 t117:=Tryz.underlying105
 a117:=Tryz.isAgg105
 z117:=Tryz.sizeOf105
 v117:=Tryz.zeroValue105
 t119:=Tryz.underlying146
 a119:=Tryz.isAgg146
 z119:=Tryz.sizeOf146
 t124:=Tryz.underlying108
 a124:=Tryz.isAgg108
 z124:=Tryz.sizeOf108
 v124:=Tryz.zeroValue108
 t138:=Tryz.underlying148
 a138:=Tryz.isAgg148
 z138:=Tryz.sizeOf148
 v138:=Tryz.zeroValue148
 t139:=Tryz.underlying149
 a139:=Tryz.isAgg149
 z139:=Tryz.sizeOf149
 v139:=Tryz.zeroValue149
 g3:=by kernel_rfl
 g4:=by kernel_rfl }
def Tryz.lays162_ren:Go.Shelf.Ren:=⟨fun|162=>59|232=>83|227=>84|234=>85|236=>86|228=>103|271=>104|151=>105|120=>114|197=>115|152=>116|260=>121|137=>81|119=>122|224=>79|225=>78|217=>77|266=>101|n=>n,fun|9=>9|4=>4|3=>3|5=>5|117=>105|116=>104|0=>0|124=>108|21=>21|105=>129|46=>47|119=>146|139=>149|138=>148|n=>n,fun|3=>1|4=>2|n=>n⟩
theorem Tryz.lays162:Go.Proofs.Lays.n162 Tryz.prog Tryz.lays162_ren:={
 mixed:=by kernel_rfl
 f119:=Tryz.func122.trans (congrArg some (by kernel_rfl))
 f120:=Tryz.func114.trans (congrArg some (by kernel_rfl))
 f137:=Tryz.func81.trans (congrArg some (by kernel_rfl))
 f151:=Tryz.func105.trans (congrArg some (by kernel_rfl))
 f152:=Tryz.func116.trans (congrArg some (by kernel_rfl))
 f162:=Tryz.func59.trans (congrArg some (by kernel_rfl))
 f197:=Tryz.func115.trans (congrArg some (by kernel_rfl))
 f217:=Tryz.func77.trans (congrArg some (by kernel_rfl))
 f224:=Tryz.func79.trans (congrArg some (by kernel_rfl))
 f225:=Tryz.func78.trans (congrArg some (by kernel_rfl))
 f227:=Tryz.func84.trans (congrArg some (by kernel_rfl))
 f228:=Tryz.func103.trans (congrArg some (by kernel_rfl))
 f232:=Tryz.func83.trans (congrArg some (by kernel_rfl))
 f234:=Tryz.func85.trans (congrArg some (by kernel_rfl))
 f236:=Tryz.func86.trans (congrArg some (by kernel_rfl))
 f260:=Tryz.func121.trans (congrArg some (by kernel_rfl))
 f266:=Tryz.func101.trans (congrArg some (by kernel_rfl))
 f271:=Tryz.func104.trans (congrArg some (by kernel_rfl))
 t0:=Tryz.underlying0
 a0:=Tryz.isAgg0
 z0:=Tryz.sizeOf0
 v0:=Tryz.zeroValue0
 t3:=Tryz.underlying3
 a3:=Tryz.isAgg3
 z3:=Tryz.sizeOf3
 v3:=Tryz.zeroValue3
 t4:=Tryz.underlying4
 a4:=Tryz.isAgg4
 z4:=Tryz.sizeOf4
 v4:=Tryz.zeroValue4
 t5:=Tryz.underlying5
 a5:=Tryz.isAgg5
 z5:=Tryz.sizeOf5
 v5:=Tryz.zeroValue5
 t9:=Tryz.underlying9
 a9:=Tryz.isAgg9
 z9:=Tryz.sizeOf9
 v9:=Tryz.zeroValue9
 t21:=Tryz.underlying21
 a21:=Tryz.isAgg21
 z21:=Tryz.sizeOf21
 v21:=Tryz.zeroValue21
 t46:=Tryz.underlying47
 a46:=Tryz.isAgg47
 z46:=Tryz.sizeOf47
 v46:=Tryz.zeroValue47
 t105:=Tryz.underlying129
 a105:=Tryz.isAgg129
 z105:=Tryz.sizeOf129
 v105:=Tryz.zeroValue129
 t116:=Tryz.underlying104
 a116:=Tryz.isAgg104
 z116:=Tryz.sizeOf104
 t117:=Tryz.underlying105
 a117:=Tryz.isAgg105
 z117:=Tryz.sizeOf105
 v117:=Tryz.zeroValue105
 t119:=Tryz.underlying146
 a119:=Tryz.isAgg146
 z119:=Tryz.sizeOf146
 t124:=Tryz.underlying108
 a124:=Tryz.isAgg108
 z124:=Tryz.sizeOf108
 v124:=Tryz.zeroValue108
 t138:=Tryz.underlying148
 a138:=Tryz.isAgg148
 z138:=Tryz.sizeOf148
 v138:=Tryz.zeroValue148
 t139:=Tryz.underlying149
 a139:=Tryz.isAgg149
 z139:=Tryz.sizeOf149
 v139:=Tryz.zeroValue149
 g3:=by kernel_rfl
 g4:=by kernel_rfl }
def Tryz.lays119_ren:Go.Shelf.Ren:=⟨fun|119=>122|n=>n,fun|21=>21|4=>4|n=>n,fun|n=>n⟩
theorem Tryz.lays119:Go.Proofs.Lays.n119 Tryz.prog Tryz.lays119_ren:={
 mixed:=by kernel_rfl
 f119:=Tryz.func122.trans (congrArg some (by kernel_rfl))
 t4:=Tryz.underlying4
 a4:=Tryz.isAgg4
 z4:=Tryz.sizeOf4
 v4:=Tryz.zeroValue4
 t21:=Tryz.underlying21
 a21:=Tryz.isAgg21
 z21:=Tryz.sizeOf21
 v21:=Tryz.zeroValue21 }
theorem Tryz.utf8_ValidRune (r:Int) (w:World) :
  Calls Tryz.prog 122 #[.int .i32 r] w fun e w'=>e=.returned (.bool (Lib.validRune r))∧w'=w:=Any.utf8_ValidRune Tryz.lays119 r w
def Tryz.lays137_ren:Go.Shelf.Ren:=⟨fun|137=>81|217=>77|266=>101|n=>n,fun|9=>9|5=>5|3=>3|n=>n,fun|n=>n⟩
theorem Tryz.lays137:Go.Proofs.Lays.n137 Tryz.prog Tryz.lays137_ren:={
 mixed:=by kernel_rfl
 f137:=Tryz.func81.trans (congrArg some (by kernel_rfl))
 f217:=Tryz.func77.trans (congrArg some (by kernel_rfl))
 f266:=Tryz.func101.trans (congrArg some (by kernel_rfl))
 t3:=Tryz.underlying3
 a3:=Tryz.isAgg3
 z3:=Tryz.sizeOf3
 v3:=Tryz.zeroValue3
 t5:=Tryz.underlying5
 a5:=Tryz.isAgg5
 z5:=Tryz.sizeOf5
 v5:=Tryz.zeroValue5
 t9:=Tryz.underlying9
 a9:=Tryz.isAgg9
 z9:=Tryz.sizeOf9
 v9:=Tryz.zeroValue9 }
open Go.RowKit in
theorem Tryz.strings_IndexByte (s:ByteArray) (c:Int) (w:World) :
  Calls Tryz.prog 81 #[.string s,.int .u8 c] w fun e w'=>e=.returned (.int .i64 (Lib.indexByte s.data.toList c.toNat.toUInt8))∧w'=w:=Any.strings_IndexByte Tryz.lays137 s c w
def Tryz.laysM316_ren:Go.Shelf.Ren:=⟨fun|316=>65|n=>n,fun|9=>9|3=>3|4=>4|37=>110|0=>0|127=>111|5=>5|n=>n,fun|n=>n⟩
theorem Tryz.laysM316:Go.Proofs.LaysM.n316 Tryz.prog Tryz.laysM316_ren:={
 mixed:=by kernel_rfl
 f316:=Tryz.func65.trans (congrArg some (by kernel_rfl))
 t0:=Tryz.underlying0
 a0:=Tryz.isAgg0
 z0:=Tryz.sizeOf0
 v0:=Tryz.zeroValue0
 t3:=Tryz.underlying3
 a3:=Tryz.isAgg3
 z3:=Tryz.sizeOf3
 v3:=Tryz.zeroValue3
 t4:=Tryz.underlying4
 a4:=Tryz.isAgg4
 z4:=Tryz.sizeOf4
 v4:=Tryz.zeroValue4
 t9:=Tryz.underlying9
 a9:=Tryz.isAgg9
 z9:=Tryz.sizeOf9
 v9:=Tryz.zeroValue9
 t37:=Tryz.underlying110
 a37:=Tryz.isAgg110
 z37:=Tryz.sizeOf110
 v37:=Tryz.zeroValue110
 t127:=Tryz.underlying111
 a127:=Tryz.isAgg111
 z127:=Tryz.sizeOf111
 v127:=Tryz.zeroValue111
 t5:=Tryz.underlying5
 a5:=Tryz.isAgg5
 z5:=Tryz.sizeOf5
 v5:=Tryz.zeroValue5
 i0:=by kernel_rfl
 i3:=by kernel_rfl
 i4:=by kernel_rfl
 i5:=by kernel_rfl
 i9:=by kernel_rfl
 i37:=by kernel_rfl
 i127:=by kernel_rfl }
open Go.RowKit in
theorem Tryz.stringslite_Clone (s:ByteArray) (w:World) (hlim:s.size≤281474976710656) :
  Calls Tryz.prog 65 #[.string s] w fun e w'=>e=.returned (.string s)∧Below w.heap.size w w':=Any.stringslite_Clone Tryz.laysM316 s w hlim
def Tryz.laysC245_ren:Go.Shelf.Ren:=⟨fun|245=>125|279=>128|280=>129|281=>130|282=>131|316=>65|171=>133|205=>132|243=>134|246=>135|283=>136|284=>137|285=>138|286=>139|129=>141|317=>140|318=>142|319=>143|320=>144|337=>145|338=>146|n=>n,fun|9=>9|3=>3|75=>117|167=>151|4=>4|168=>154|210=>158|37=>110|0=>0|127=>111|145=>162|143=>160|2=>2|171=>164|53=>143|5=>5|173=>167|212=>170|51=>126|20=>20|213=>171|46=>47|232=>175|233=>176|80=>115|n=>n,fun|15=>3|16=>4|17=>5|18=>6|19=>7|n=>n⟩
theorem Tryz.laysC245:Go.Proofs.LaysC.n245 Tryz.prog Tryz.laysC245_ren:={
 mixed:=by kernel_rfl
 f129:=Tryz.func141.trans (congrArg some (by kernel_rfl))
 f171:=Tryz.func133.trans (congrArg some (by kernel_rfl))
 f205:=Tryz.func132.trans (congrArg some (by kernel_rfl))
 f243:=Tryz.func134.trans (congrArg some (by kernel_rfl))
 f245:=Tryz.func125.trans (congrArg some (by kernel_rfl))
 f246:=Tryz.func135.trans (congrArg some (by kernel_rfl))
 f279:=Tryz.func128.trans (congrArg some (by kernel_rfl))
 f280:=Tryz.func129.trans (congrArg some (by kernel_rfl))
 f281:=Tryz.func130.trans (congrArg some (by kernel_rfl))
 f282:=Tryz.func131.trans (congrArg some (by kernel_rfl))
 f283:=Tryz.func136.trans (congrArg some (by kernel_rfl))
 f284:=Tryz.func137.trans (congrArg some (by kernel_rfl))
 f285:=Tryz.func138.trans (congrArg some (by kernel_rfl))
 f286:=Tryz.func139.trans (congrArg some (by kernel_rfl))
 f316:=Tryz.func65.trans (congrArg some (by kernel_rfl))
 f317:=Tryz.func140.trans (congrArg some (by kernel_rfl))
 f318:=Tryz.func142.trans (congrArg some (by kernel_rfl))
 f319:=Tryz.func143.trans (congrArg some (by kernel_rfl))
 f320:=Tryz.func144.trans (congrArg some (by kernel_rfl))
 f337:=Tryz.func145.trans (congrArg some (by kernel_rfl))
 f338:=Tryz.func146.trans (congrArg some (by kernel_rfl))
 t0:=Tryz.underlying0
 a0:=Tryz.isAgg0
 z0:=Tryz.sizeOf0
 v0:=Tryz.zeroValue0
 t2:=Tryz.underlying2
 a2:=Tryz.isAgg2
 z2:=Tryz.sizeOf2
 v2:=Tryz.zeroValue2
 t3:=Tryz.underlying3
 a3:=Tryz.isAgg3
 z3:=Tryz.sizeOf3
 v3:=Tryz.zeroValue3
 t4:=Tryz.underlying4
 a4:=Tryz.isAgg4
 z4:=Tryz.sizeOf4
 v4:=Tryz.zeroValue4
 t5:=Tryz.underlying5
 a5:=Tryz.isAgg5
 z5:=Tryz.sizeOf5
 v5:=Tryz.zeroValue5
 t9:=Tryz.underlying9
 a9:=Tryz.isAgg9
 z9:=Tryz.sizeOf9
 v9:=Tryz.zeroValue9
 t20:=Tryz.underlying20
 a20:=Tryz.isAgg20
 z20:=Tryz.sizeOf20
 v20:=Tryz.zeroValue20
 t37:=Tryz.underlying110
 a37:=Tryz.isAgg110
 z37:=Tryz.sizeOf110
 v37:=Tryz.zeroValue110
 t46:=Tryz.underlying47
 a46:=Tryz.isAgg47
 z46:=Tryz.sizeOf47
 v46:=Tryz.zeroValue47
 t51:=Tryz.underlying126
 a51:=Tryz.isAgg126
 z51:=Tryz.sizeOf126
 v51:=Tryz.zeroValue126
 t53:=Tryz.underlying143
 a53:=Tryz.isAgg143
 z53:=Tryz.sizeOf143
 v53:=Tryz.zeroValue143
 t75:=Tryz.underlying117
 a75:=Tryz.isAgg117
 z75:=Tryz.sizeOf117
 v75:=Tryz.zeroValue117
 t127:=Tryz.underlying111
 a127:=Tryz.isAgg111
 z127:=Tryz.sizeOf111
 v127:=Tryz.zeroValue111
 t143:=Tryz.underlying160
 a143:=Tryz.isAgg160
 z143:=Tryz.sizeOf160
 v143:=Tryz.zeroValue160
 t145:=Tryz.underlying162
 a145:=Tryz.isAgg162
 z145:=Tryz.sizeOf162
 v145:=Tryz.zeroValue162
 t167:=Tryz.underlying151
 a167:=Tryz.isAgg151
 z167:=Tryz.sizeOf151
 v167:=Tryz.zeroValue151
 t168:=Tryz.underlying154
 a168:=Tryz.isAgg154
 z168:=Tryz.sizeOf154
 v168:=Tryz.zeroValue154
 t171:=Tryz.underlying164
 a171:=Tryz.isAgg164
 z171:=Tryz.sizeOf164
 v171:=Tryz.zeroValue164
 t173:=Tryz.underlying167
 a173:=Tryz.isAgg167
 z173:=Tryz.sizeOf167
 v173:=Tryz.zeroValue167
 t210:=Tryz.underlying158
 a210:=Tryz.isAgg158
 z210:=Tryz.sizeOf158
 v210:=Tryz.zeroValue158
 t212:=Tryz.underlying170
 a212:=Tryz.isAgg170
 z212:=Tryz.sizeOf170
 v212:=Tryz.zeroValue170
 t213:=Tryz.underlying171
 a213:=Tryz.isAgg171
 z213:=Tryz.sizeOf171
 t232:=Tryz.underlying175
 a232:=Tryz.isAgg175
 z232:=Tryz.sizeOf175
 v232:=Tryz.zeroValue175
 t233:=Tryz.underlying176
 a233:=Tryz.isAgg176
 z233:=Tryz.sizeOf176
 v233:=Tryz.zeroValue176
 g15:=by kernel_rfl
 g16:=by kernel_rfl
 g17:=by kernel_rfl
 g18:=by kernel_rfl
 g19:=by kernel_rfl
 t80:=Tryz.underlying115
 a80:=Tryz.isAgg115
 z80:=Tryz.sizeOf115
 v80:=Tryz.zeroValue115
 i0:=by kernel_rfl
 i2:=by kernel_rfl
 i3:=by kernel_rfl
 i4:=by kernel_rfl
 i5:=by kernel_rfl
 i9:=by kernel_rfl
 i20:=by kernel_rfl
 i37:=by kernel_rfl
 i46:=by kernel_rfl
 i51:=by kernel_rfl
 i53:=by kernel_rfl
 i75:=by kernel_rfl
 i80:=by kernel_rfl
 i127:=by kernel_rfl
 i143:=by kernel_rfl
 i145:=by kernel_rfl
 i167:=by kernel_rfl
 i168:=by kernel_rfl
 i171:=by kernel_rfl
 i173:=by kernel_rfl
 i210:=by kernel_rfl
 i212:=by kernel_rfl
 i232:=by kernel_rfl
 i233:=by kernel_rfl
 m15:=by kernel_rfl
 m16:=by kernel_rfl
 m17:=by kernel_rfl
 m18:=by kernel_rfl
 m19:=by kernel_rfl
 c0:=by kernel_rfl
 c2:=by kernel_rfl
 c3:=by kernel_rfl
 c4:=by kernel_rfl
 c5:=by kernel_rfl
 c9:=by kernel_rfl
 c20:=by kernel_rfl
 c37:=by kernel_rfl
 c46:=by kernel_rfl
 c51:=by kernel_rfl
 c53:=by kernel_rfl
 c75:=by kernel_rfl
 c80:=by kernel_rfl
 c127:=by kernel_rfl
 c143:=by kernel_rfl
 c145:=by kernel_rfl
 c167:=by kernel_rfl
 c168:=by kernel_rfl
 c171:=by kernel_rfl
 c173:=by kernel_rfl
 c210:=by kernel_rfl
 c212:=by kernel_rfl
 c213:=by kernel_rfl
 c232:=by kernel_rfl
 c233:=by kernel_rfl }
open Go.RowKit in
theorem Tryz.strconv_toError_syntax (fn s:ByteArray) (base bits:Int) (ev:Value) (w:World) (hlim:s.size≤281474976710656) (hv:w.cell? ⟨3,0,none⟩=some ev) (hev:ev=.nilIface∨∃ te pe,ev=.iface te pe) :
  Calls Tryz.prog 125 #[.string fn,.string s,.int .i64 base,.int .i64 bits,.iface 151 (.int .i64 2)] w fun e w'=>∃ N,e=.returned (.iface 154 (.pointer (some ⟨N,0,none⟩)))∧w.heap.size≤N∧w'.heap[N]?=some (.cells #[.string fn,.string s,ev] 158 (0,0))∧Below w.heap.size w w':=Any.strconv_toError_syntax Tryz.laysC245 fn s base bits ev w hlim hv hev
def Tryz.lays144_ren:Go.Shelf.Ren:=⟨fun|144=>27|143=>39|219=>56|217=>77|225=>78|224=>79|267=>80|266=>101|314=>102|n=>n,fun|9=>9|4=>4|3=>3|5=>5|46=>47|146=>127|51=>126|n=>n,fun|1=>0|n=>n⟩
theorem Tryz.lays144:Go.Proofs.Lays.n144 Tryz.prog Tryz.lays144_ren:={
 mixed:=by kernel_rfl
 f143:=Tryz.func39.trans (congrArg some (by kernel_rfl))
 f144:=Tryz.func27.trans (congrArg some (by kernel_rfl))
 f217:=Tryz.func77.trans (congrArg some (by kernel_rfl))
 f219:=Tryz.func56.trans (congrArg some (by kernel_rfl))
 f224:=Tryz.func79.trans (congrArg some (by kernel_rfl))
 f225:=Tryz.func78.trans (congrArg some (by kernel_rfl))
 f266:=Tryz.func101.trans (congrArg some (by kernel_rfl))
 f267:=Tryz.func80.trans (congrArg some (by kernel_rfl))
 f314:=Tryz.func102.trans (congrArg some (by kernel_rfl))
 t3:=Tryz.underlying3
 a3:=Tryz.isAgg3
 z3:=Tryz.sizeOf3
 v3:=Tryz.zeroValue3
 t4:=Tryz.underlying4
 a4:=Tryz.isAgg4
 z4:=Tryz.sizeOf4
 v4:=Tryz.zeroValue4
 t5:=Tryz.underlying5
 a5:=Tryz.isAgg5
 z5:=Tryz.sizeOf5
 v5:=Tryz.zeroValue5
 t9:=Tryz.underlying9
 a9:=Tryz.isAgg9
 z9:=Tryz.sizeOf9
 v9:=Tryz.zeroValue9
 t46:=Tryz.underlying47
 a46:=Tryz.isAgg47
 z46:=Tryz.sizeOf47
 v46:=Tryz.zeroValue47
 t51:=Tryz.underlying126
 a51:=Tryz.isAgg126
 z51:=Tryz.sizeOf126
 v51:=Tryz.zeroValue126
 t146:=Tryz.underlying127
 a146:=Tryz.isAgg127
 z146:=Tryz.sizeOf127
 v146:=Tryz.zeroValue127
 g1:=by kernel_rfl }
open Go.RowKit Go.Lib in
theorem Tryz.strings_Contains_one (s:ByteArray) (c:UInt8) (w:World) :
  Calls Tryz.prog 27 #[.string s,.string ⟨#[c]⟩] w fun e w'=>e=.returned (.bool (decide (0≤Lib.indexByte s.data.toList c)))∧w'=w:=Any.strings_Contains_one Tryz.lays144 s c w
def Tryz.lays149_ren:Go.Shelf.Ren:=⟨fun|149=>60|222=>87|n=>n,fun|9=>9|5=>5|3=>3|4=>4|n=>n,fun|n=>n⟩
theorem Tryz.lays149:Go.Proofs.Lays.n149 Tryz.prog Tryz.lays149_ren:={
 mixed:=by kernel_rfl
 f149:=Tryz.func60.trans (congrArg some (by kernel_rfl))
 f222:=Tryz.func87.trans (congrArg some (by kernel_rfl))
 t3:=Tryz.underlying3
 a3:=Tryz.isAgg3
 z3:=Tryz.sizeOf3
 v3:=Tryz.zeroValue3
 t4:=Tryz.underlying4
 a4:=Tryz.isAgg4
 z4:=Tryz.sizeOf4
 v4:=Tryz.zeroValue4
 t5:=Tryz.underlying5
 a5:=Tryz.isAgg5
 z5:=Tryz.sizeOf5
 v5:=Tryz.zeroValue5
 t9:=Tryz.underlying9
 a9:=Tryz.isAgg9
 z9:=Tryz.sizeOf9
 v9:=Tryz.zeroValue9 }
open Go.RowKit Go.Lib in
theorem Tryz.strings_LastIndexByte (s:ByteArray) (c:Int) (hs:s.size<4611686018427387904) (w:World) :
  Calls Tryz.prog 60 #[.string s,.int .u8 c] w fun e w'=>e=.returned (.int .i64 (Lib.lastIndexByte s c))∧w'=w:=Any.strings_LastIndexByte Tryz.lays149 s c hs w
def Tryz.lays99_ren:Go.Shelf.Ren:=⟨fun|99=>73|206=>100|n=>n,fun|9=>9|4=>4|3=>3|n=>n,fun|n=>n⟩
theorem Tryz.lays99:Go.Proofs.Lays.n99 Tryz.prog Tryz.lays99_ren:={
 mixed:=by kernel_rfl
 f99:=Tryz.func73.trans (congrArg some (by kernel_rfl))
 f206:=Tryz.func100.trans (congrArg some (by kernel_rfl))
 t3:=Tryz.underlying3
 a3:=Tryz.isAgg3
 z3:=Tryz.sizeOf3
 v3:=Tryz.zeroValue3
 t4:=Tryz.underlying4
 a4:=Tryz.isAgg4
 z4:=Tryz.sizeOf4
 v4:=Tryz.zeroValue4
 t9:=Tryz.underlying9
 a9:=Tryz.isAgg9
 z9:=Tryz.sizeOf9
 v9:=Tryz.zeroValue9 }
open Go.RowKit Go.Lib in
theorem Tryz.strings_HasPrefix (s p:ByteArray) (w:World) :
  Calls Tryz.prog 73 #[.string s,.string p] w fun e w'=>e=.returned (.bool (Lib.hasPrefix s.data.toList p.data.toList))∧w'=w:=Any.strings_HasPrefix Tryz.lays99 s p w
end Go.Proofs
namespace Go.Proofs.YtncngeamdechmaaGreatDoor
open Go.RowKit
def clampN (at':Int) (n:Nat):Nat:=min at'.toNat n
theorem clampN_le (at':Int) (n:Nat):clampN at' n≤n:=Nat.min_le_right _ _
theorem clampN_self (k n:Nat) (h:k≤n):clampN (k:Int) n=k:=by unfold clampN;omega
end Go.Proofs.YtncngeamdechmaaGreatDoor
namespace Go.Proofs.YtncngeamdechmaaGreatDoor
open Go.RowKit
def ntB (s:ByteArray) (p:Nat):Bool:=decide (byt s p=35∧(p=0∨U.white (byt s (p-1):Int)=true∨byt s (p-1)=10))
def TabN (s:ByteArray) (a b x:Nat):Prop:=a≤x∧x<b∧byt s x=9∧∀ j,j<x→a≤j→byt s j≠9
def NoTab (s:ByteArray) (a b:Nat):Prop:=∀ j,j<b→a≤j→byt s j≠9
inductive NZ (s:ByteArray) (wi:Bool) (n:Int) (a:Nat) (sm:Bool) (L:List (List UInt8 × Nat)) (S:Bool) (E:Nat) (C:Int):Nat→Bool→Bool→List (List UInt8 × Nat)→Bool→Prop
 | over {p m f o b}:¬ p<s.size→L=o→S=b→E=p→C=0→NZ s wi n a sm L S E C p m f o b
 | mark {p t q f o b}:p<s.size→RowE s p t→FirN s p t q→(kindN s p t q=3∨kindN s p t q=4)→(wi=false∨p=a)→L=o→S=b→E=p→C=0→NZ s wi n a sm L S E C p true f o b
 | markX {p t q f o b}:p<s.size→RowE s p t→FirN s p t q→(kindN s p t q=3∨kindN s p t q=4)→wi=true→p≠a→L=[]→S=false→E=p→C=5→NZ s wi n a sm L S E C p true f o b
 | tab {p t q x f o b}:p<s.size→RowE s p t→FirN s p t q→kindN s p t q=5→wi=false→TabN s p q x→L=[]→S=false→E=x→C=4→NZ s wi n a sm L S E C p true f o b
 | far {p t q i f o b}:p<s.size→RowE s p t→FirN s p t q→kindN s p t q=5→wi=true→p≠a→InN s p t i→(i:Int)≤n→L=[]→S=false→E=q→C=5→NZ s wi n a sm L S E C p true f o b
 | met {p t q i f o b}:p<s.size→RowE s p t→FirN s p t q→InN s p t i→kindN s p t q≠3→kindN s p t q≠4→(kindN s p t q=5→wi=false→NoTab s p q)→(kindN s p t q=5→wi=true→p≠a→n<(i:Int))→NZ s wi n a sm L S E C p false f o b→NZ s wi n a sm L S E C p true f o b
 | white {p f o b}:p<s.size→U.white (byt s p:Int)=true→NZ s wi n a sm L S E C (p+1) false f o b→NZ s wi n a sm L S E C p false f o b
 | lf {p f o b}:p<s.size→byt s p=10→NZ s wi n a sm L S E C (p+1) true false o b→NZ s wi n a sm L S E C p false f o b
 | com {p t e k d f o b}:p<s.size→ntB s p=true→RowE s p t→BakN s (p+1) t e→Abv s p k d→NZ s wi n a sm L S E C t false f (o++[(pieceL s (p+1) e,d)]) (if o=[] then (sm&&f) else b)→NZ s wi n a sm L S E C p false f o b
 | stop {p f o b}:p<s.size→U.white (byt s p:Int)=false→byt s p≠10→ntB s p=false→L=o→S=b→E=p→C=0→NZ s wi n a sm L S E C p false f o b
def NoteZ (s:ByteArray) (wi:Bool) (n:Int) (at':Int) (L:List (List UInt8 × Nat)) (S:Bool) (E:Int) (C:Int):Prop:=
 ∃ r0 E',RowB s (clampN at' s.size) r0∧E=((E':Nat):Int)∧NZ s wi n (clampN at' s.size) (!(decide (clampN at' s.size=r0))) L S E' C (clampN at' s.size) (decide (clampN at' s.size=r0)) true [] false
theorem ntB_byte {s:ByteArray} {p:Nat} (h:ntB s p=true):byt s p=35:=by
 unfold ntB at h
 rw[decide_eq_true_eq] at h
 exact h.1
theorem nt_row {s:ByteArray} {p t:Nat} (h:ntB s p=true) (hp:p<s.size) (ht:RowE s p t):p+1≤t:=by
 have h1:=ht.1
 have h35:=ntB_byte h
 refine Decidable.byContradiction fun hc=>?_
 have:t=p:=by omega
 rcases ht.2.2.2 with e|e
 ·omega
 ·rw[this,h35] at e;exact absurd e (by decide)
theorem RowB.step {s:ByteArray} {p rb:Nat} (h:RowB s p rb) (hb:byt s p≠10):RowB s (p+1) rb:=
 ⟨Nat.le_succ_of_le h.1,fun j h1 h2=>by
  by_cases hj:j=p
  ·rw[hj];exact hb
  ·exact h.2.1 j (by omega) h2,h.2.2⟩
theorem RowB.lf {s:ByteArray} {p:Nat} (hb:byt s p=10):RowB s (p+1) (p+1):=⟨Nat.le_refl _,fun j h1 h2=>by omega,.inr (by rw[Nat.add_sub_cancel];exact hb)⟩
end Go.Proofs.YtncngeamdechmaaGreatDoor
namespace Go.Proofs.YtncngeamdechmaaGreatDoor.U
open Go.Lib
def hexv (c:Nat):Option Nat:=
 if 48≤c∧c≤57 then some (c-48) else if 97≤c∧c≤102 then some (c-87) else if 65≤c∧c≤70 then some (c-55) else none
theorem hexv_lt {c d:Nat} (h:hexv c=some d):d<16:=by
 unfold hexv at h
 split at h
 ·cases h;omega
 ·split at h
  ·cases h;omega
  ·split at h
   ·cases h;omega
   ·cases h
def hexs:Nat→List UInt8→Option Nat
 | acc,[]=>some acc
 | acc,c :: r=>match hexv c.toNat with
  | none=>none
  | some d=>hexs (acc*16+d) r
theorem hexs_nil (acc:Nat):hexs acc []=some acc:=rfl
theorem hexs_none {c:UInt8} (r:List UInt8) (acc:Nat) (h:hexv c.toNat=none):hexs acc (c :: r)=none:=by rw[hexs,h]
theorem hexs_some {c:UInt8} {d:Nat} (r:List UInt8) (acc:Nat) (h:hexv c.toNat=some d):hexs acc (c :: r)=hexs (acc*16+d) r:=by rw[hexs,h]
theorem hexs_range:∀ (l:List UInt8) (acc v:Nat),hexs acc l=some v→acc*16 ^ l.length≤v∧v<(acc+1)*16 ^ l.length
 | [],acc,v,h=>by
  rw[hexs_nil] at h
  cases h
  simp
 | c :: r,acc,v,h=>by
  cases hc:hexv c.toNat with
  | none=>rw[hexs_none r acc hc] at h;cases h
  | some d=>
   rw[hexs_some r acc hc] at h
   have hd:=hexv_lt hc
   have ih:=hexs_range r _ v h
   rw[List.length_cons,Nat.pow_succ]
   have e1:acc*(16 ^ r.length*16)=(acc*16)*16 ^ r.length:=by rw[Nat.mul_comm (16 ^ r.length),Nat.mul_assoc]
   have e2:(acc+1)*(16 ^ r.length*16)=(acc*16+16)*16 ^ r.length:=by rw[Nat.mul_comm (16 ^ r.length),←Nat.mul_assoc,Nat.add_mul,Nat.one_mul]
   have m1:(acc*16)*16 ^ r.length≤(acc*16+d)*16 ^ r.length:=Nat.mul_le_mul_right _ (by omega)
   have m2:(acc*16+d+1)*16 ^ r.length≤(acc*16+16)*16 ^ r.length:=Nat.mul_le_mul_right _ (by omega)
   rw[e1,e2]
   omega
theorem look_mem:∀ (l:List (Nat × Nat)) (c v:Nat),l.lookup c=some v→(c,v)∈l
 | [],c,v,h=>by cases h
 | (a,b) :: l,c,v,h=>by
  rw[List.lookup_cons] at h
  by_cases hc:c=a
  ·subst hc
   simp at h
   subst h
   simp
  ·have:(c==a)=false:=by simp[hc]
   rw[this] at h
   exact List.mem_cons_of_mem _ (look_mem l c v h)
def nmT:List (Nat × Nat):=[(48,0),(97,7),(98,8),(116,9),(110,10),(118,11),(102,12),(114,13),(101,27),(34,34),(92,92),(9,9),(32,32),(47,47),(78,133),(95,160),(76,8232),(80,8233)]
def nm (c:Nat):Option Nat:=nmT.lookup c
def num (n:Nat) (l:List UInt8):Option Nat:=
 if n≤l.length then match hexs 0 (l.take n) with
  | none=>none
  | some v=>if scalar (v:Int)=true then some v else none
 else none
def digs (c:Nat):Nat:=if c=120 then 2 else if c=117 then 4 else if c=85 then 8 else 0
def fol:List UInt8→Option (Nat × Nat)
 | []=>none
 | c :: l=>if digs c.toNat=0 then (nm c.toNat).map (fun v=>(v,1)) else (num (digs c.toNat) l).map (fun v=>(v,digs c.toNat+1))
def esc:List UInt8→Option (Nat × Nat)
 | []=>none
 | c :: l=>if c.toNat=92 then (fol l).map (fun p=>(p.1,p.2+1)) else none
theorem fol_cons (c:UInt8) (l:List UInt8):fol (c :: l)=if digs c.toNat=0 then (nm c.toNat).map (fun v=>(v,1)) else (num (digs c.toNat) l).map (fun v=>(v,digs c.toNat+1)):=rfl
theorem esc_cons (c:UInt8) (l:List UInt8):esc (c :: l)=if c.toNat=92 then (fol l).map (fun p=>(p.1,p.2+1)) else none:=rfl
theorem nm_lt {c v:Nat} (h:nm c=some v):v≤8233:=by
 have hm:=look_mem _ _ _ h
 exact (show ∀ p∈nmT,p.2≤8233 by decide) _ hm
theorem num_scalar {n:Nat} {l:List UInt8} {v:Nat} (h:num n l=some v):scalar (v:Int)=true∧n≤l.length:=by
 unfold num at h
 split at h
 ·rename_i hn
  split at h
  ·cases h
  ·split at h
   ·rename_i hs
    cases h
    exact ⟨hs,hn⟩
   ·cases h
 ·cases h
theorem fol_len {l:List UInt8} {v k:Nat} (h:fol l=some (v,k)):1≤k∧k≤9∧k≤l.length∧v≤1114111:=by
 cases l with
 | nil=>cases h
 | cons c l=>
  rw[fol_cons] at h
  by_cases hd:digs c.toNat=0
  ·rw[if_pos hd] at h
   cases hn:nm c.toNat with
   | none=>rw[hn] at h;cases h
   | some u=>
    rw[hn] at h
    have:=nm_lt hn
    simp at h
    rw[List.length_cons]
    omega
  ·rw[if_neg hd] at h
   have hd8:digs c.toNat≤8:=by unfold digs;split <;> (try split) <;> (try split) <;> omega
   cases hn:num (digs c.toNat) l with
   | none=>rw[hn] at h;cases h
   | some u=>
    rw[hn] at h
    have h1:=num_scalar hn
    simp at h
    have hs:=h1.1
    unfold scalar at hs
    rw[decide_eq_true_eq] at hs
    rw[List.length_cons]
    omega
theorem esc_len {l:List UInt8} {v k:Nat} (h:esc l=some (v,k)):2≤k∧k≤10∧k≤l.length∧v≤1114111:=by
 cases l with
 | nil=>cases h
 | cons c l=>
  rw[esc_cons] at h
  split at h
  ·cases hf:fol l with
   | none=>rw[hf] at h;cases h
   | some p=>
    obtain ⟨a,b⟩:=p
    rw[hf] at h
    simp at h
    have:=fol_len hf
    rw[List.length_cons]
    omega
  ·cases h
end Go.Proofs.YtncngeamdechmaaGreatDoor.U
namespace Go.Proofs.YtncngeamdechmaaGreatDoor
open Go.RowKit
def qGo:Nat→Bool→List (List UInt8 × Bool)→List UInt8
 | _,_,[]=>[]
 | n,e,(r,x) :: t=>if r=[]∧x=false∧t≠[] then qGo (n+1) e t else (if e=true then U.feeds n else U.sep n)++r++qGo 0 x t
def qT:List (List UInt8 × Bool)→List UInt8
 | []=>[]
 | (r,x) :: t=>r++qGo 0 x t
theorem qGo_blank (n:Nat) (e:Bool) {t:List (List UInt8 × Bool)} (h:t≠[]):qGo n e (([],false) :: t)=qGo (n+1) e t:=by
 rw[qGo,if_pos ⟨rfl,rfl,h⟩]
theorem qGo_row (n:Nat) (e:Bool) {r:List UInt8} (x:Bool) (t:List (List UInt8 × Bool)) (h:¬ (r=[]∧x=false∧t≠[])):qGo n e ((r,x) :: t)=(if e=true then U.feeds n else U.sep n)++r++qGo 0 x t:=by
 rw[qGo,if_neg h]
def bq (s:ByteArray) (p:Nat):UInt8:=s.data.toList.getD p 0
inductive QZ (s:ByteArray) (q:Nat) (n:Int) (T:List UInt8) (E:Nat) (O:Bool) (C:Int):Nat→Bool→List (List UInt8 × Bool)→List UInt8→List UInt8→Prop
 | over {p R t w}:s.size≤p→T=[]→E=s.size→O=false→C=5→QZ s q n T E O C p false R t w
 | done {p R t w}:p<s.size→byt s p=q→¬ (q=39∧p+1<s.size∧byt s (p+1)=39)→T=qT (R++[(t++w,false)])→E=p+1→O=R.isEmpty→C=0→QZ s q n T E O C p false R t w
 | twice {p R t w}:q=39→p<s.size→byt s p=39→p+1<s.size→byt s (p+1)=39→QZ s q n T E O C (p+2) false R (t++w++[39]) []→QZ s q n T E O C p false R t w
 | goes {p R t w}:q=34→p<s.size→byt s p=92→p+1<s.size→byt s (p+1)=10→QZ s q n T E O C (p+2) true (R++[(t++w,true)]) [] []→QZ s q n T E O C p false R t w
 | esc {p R t w c k}:q=34→p<s.size→byt s p=92→¬ (p+1<s.size∧byt s (p+1)=10)→U.esc (s.data.toList.drop p)=some (c,k)→QZ s q n T E O C (p+k) false R (t++w++Lib.encodeRune (c:Int)) []→QZ s q n T E O C p false R t w
 | bad {p R t w}:q=34→p<s.size→byt s p=92→¬ (p+1<s.size∧byt s (p+1)=10)→U.esc (s.data.toList.drop p)=none→T=[]→E=p→O=false→C=5→QZ s q n T E O C p false R t w
 | lf {p R t w}:p<s.size→byt s p=10→QZ s q n T E O C (p+1) true (R++[(t,false)]) [] []→QZ s q n T E O C p false R t w
 | white {p R t w}:p<s.size→U.white (byt s p:Int)=true→QZ s q n T E O C (p+1) false R t (w++[bq s p])→QZ s q n T E O C p false R t w
 | lit {p R t w}:p<s.size→byt s p≠q→byt s p≠10→U.white (byt s p:Int)=false→¬ (q=34∧byt s p=92)→QZ s q n T E O C (p+1) false R (t++w++[bq s p]) []→QZ s q n T E O C p false R t w
 | mark {a b f R t w}:RowE s a b→FirN s a b f→(kindN s a b f=3∨kindN s a b f=4)→T=[]→E=a→O=false→C=5→QZ s q n T E O C a true R t w
 | near {a b f i R t w}:RowE s a b→FirN s a b f→InN s a b i→kindN s a b f≠3→kindN s a b f≠4→kindN s a b f≠1→(i:Int)≤n→T=[]→E=f→O=false→C=5→QZ s q n T E O C a true R t w
 | row {a b f i R t w}:RowE s a b→FirN s a b f→InN s a b i→kindN s a b f≠3→kindN s a b f≠4→(kindN s a b f=1∨n<(i:Int))→QZ s q n T E O C f false R [] []→QZ s q n T E O C a true R t w
def QuoZ (s:ByteArray) (at' n:Int) (T:List UInt8) (E:Int) (O:Bool) (C:Int):Prop:=
 if 0≤at'∧at'.toNat<s.size∧(byt s at'.toNat=39∨byt s at'.toNat=34) then ∃ E':Nat,E=(E':Int)∧QZ s (byt s at'.toNat) n T E' O C (at'.toNat+1) false [] [] [] else T=[]∧E=at'∧O=false∧C=5
end Go.Proofs.YtncngeamdechmaaGreatDoor
