/-
  What this claim takes of the earlier layers' texts: Shelf SText SCode SRune DRefA SId SSigns SRef DRefM.
-/
import Derived.Test.YtapcmbbhhclepaaGreatDoorM3
import Derived.Shelf.Strings.Builder1
import Derived.Shelf.Strings.Builder2
import Derived.Shelf.Small.Wraps
import Derived.Shelf.Strings.BuilderF
import Derived.Shelf.Strings.BuilderK
import Derived.Shelf.Strings.Builder2Cap
import Derived.Shelf.Strconv.Itoa0
import Derived.Shelf.Strconv.Itoa1
import Derived.Shelf.LaysM
import Derived.Shelf.Strconv.Itoa2
import Derived.Shelf.Strconv.Itoa3
import Derived.Shelf.Strconv.Itoa4
import Derived.Shelf.Strconv.Clone
import Derived.Shelf.Strings.BuilderCap
import Derived.Shelf.Slices.Turned
import Derived.Test.YtapcmbbhhclepaaGreatDoorProg
import Derived.Lib.OthersKept
import Derived.Deep.DeepCutAuto
import Derived.Deep.CutBlock
import Derived.Laws.Runes
import Derived.WalkMore
import Derived.BigQuiet
import Derived.Lib.Bytealg
import Derived.Lib.AppendZeros
import Derived.OrdersIn
import Derived.OwnWalkIn
import Derived.Lib.ConvBytes
set_option linter.unusedVariables false
set_option linter.unusedSimpArgs false
set_option maxRecDepth 100000
namespace Go.Proofs
open Go.Shelf
open Go.RowKit in
def Tryz.lays167_ren:Go.Shelf.Ren:=⟨fun | 167=>89 | 240=>116 | 276=>136 | n=>n,fun | 70=>80 | 5=>5 | 75=>96 | 0=>0 | 72=>82 | 37=>22 | 4=>4 | 164=>143 | 80=>86 | 9=>9 | 20=>20 | n=>n,fun | n=>n⟩
theorem Tryz.lays167:Go.Proofs.Lays.n167 Tryz.prog Tryz.lays167_ren:={
  mixed:=by kernel_rfl
  f167:=Tryz.func89.trans (congrArg some (by kernel_rfl))
  f240:=Tryz.func116.trans (congrArg some (by kernel_rfl))
  f276:=Tryz.func136.trans (congrArg some (by kernel_rfl))
  t0:=Tryz.underlying0
  a0:=Tryz.isAgg0
  z0:=Tryz.sizeOf0
  v0:=Tryz.zeroValue0
  t4:=Tryz.underlying4
  a4:=Tryz.isAgg4
  z4:=Tryz.sizeOf4
  v4:=Tryz.zeroValue4
  t5:=Tryz.underlying5
  a5:=Tryz.isAgg5
  z5:=Tryz.sizeOf5
  v5:=Tryz.zeroValue5
  t9:=Tryz.underlying9
  a9:=Tryz.isAgg9
  z9:=Tryz.sizeOf9
  v9:=Tryz.zeroValue9
  t20:=Tryz.underlying20
  a20:=Tryz.isAgg20
  z20:=Tryz.sizeOf20
  v20:=Tryz.zeroValue20
  t37:=Tryz.underlying22
  a37:=Tryz.isAgg22
  z37:=Tryz.sizeOf22
  v37:=Tryz.zeroValue22
  t70:=Tryz.underlying80
  a70:=Tryz.isAgg80
  z70:=Tryz.sizeOf80
  v70:=Tryz.zeroValue80
  t72:=Tryz.underlying82
  a72:=Tryz.isAgg82
  z72:=Tryz.sizeOf82
  v72:=Tryz.zeroValue82
  t75:=Tryz.underlying96
  a75:=Tryz.isAgg96
  z75:=Tryz.sizeOf96
  v75:=Tryz.zeroValue96
  t164:=Tryz.underlying143
  a164:=Tryz.isAgg143
  z164:=Tryz.sizeOf143
  v164:=Tryz.zeroValue143 }
theorem Tryz.Builder_Extra_167:Builder.Extra Tryz.prog Tryz.lays167_ren:={
  sizeBuilder:=by kernel_rfl
  liesBuilder:=by kernel_rfl
  t5:=Tryz.underlying5
  a5:=Tryz.isAgg5
  z5:=Tryz.sizeOf5
  v5:=Tryz.zeroValue5
  infoByte:=by kernel_rfl
  cellsByte:=by kernel_rfl
  sizeByte:=by kernel_rfl
  neB5:=by decide }
open Go.RowKit in
def Tryz.lays166_ren:Go.Shelf.Ren:=⟨fun | 166=>109 | 240=>116 | 276=>136 | n=>n,fun | 70=>80 | 9=>9 | 3=>3 | 75=>96 | 0=>0 | 72=>82 | 37=>22 | 4=>4 | 164=>143 | 80=>86 | 5=>5 | 20=>20 | n=>n,fun | n=>n⟩
theorem Tryz.lays166:Go.Proofs.Lays.n166 Tryz.prog Tryz.lays166_ren:={
  mixed:=by kernel_rfl
  f166:=Tryz.func109.trans (congrArg some (by kernel_rfl))
  f240:=Tryz.func116.trans (congrArg some (by kernel_rfl))
  f276:=Tryz.func136.trans (congrArg some (by kernel_rfl))
  t0:=Tryz.underlying0
  a0:=Tryz.isAgg0
  z0:=Tryz.sizeOf0
  v0:=Tryz.zeroValue0
  t3:=Tryz.underlying3
  a3:=Tryz.isAgg3
  z3:=Tryz.sizeOf3
  v3:=Tryz.zeroValue3
  t4:=Tryz.underlying4
  a4:=Tryz.isAgg4
  z4:=Tryz.sizeOf4
  v4:=Tryz.zeroValue4
  t9:=Tryz.underlying9
  a9:=Tryz.isAgg9
  z9:=Tryz.sizeOf9
  v9:=Tryz.zeroValue9
  t20:=Tryz.underlying20
  a20:=Tryz.isAgg20
  z20:=Tryz.sizeOf20
  v20:=Tryz.zeroValue20
  t37:=Tryz.underlying22
  a37:=Tryz.isAgg22
  z37:=Tryz.sizeOf22
  v37:=Tryz.zeroValue22
  t70:=Tryz.underlying80
  a70:=Tryz.isAgg80
  z70:=Tryz.sizeOf80
  v70:=Tryz.zeroValue80
  t72:=Tryz.underlying82
  a72:=Tryz.isAgg82
  z72:=Tryz.sizeOf82
  v72:=Tryz.zeroValue82
  t75:=Tryz.underlying96
  a75:=Tryz.isAgg96
  z75:=Tryz.sizeOf96
  v75:=Tryz.zeroValue96
  t164:=Tryz.underlying143
  a164:=Tryz.isAgg143
  z164:=Tryz.sizeOf143
  v164:=Tryz.zeroValue143 }
theorem Tryz.Builder_Extra_166:Builder.Extra Tryz.prog Tryz.lays166_ren:={
  sizeBuilder:=by kernel_rfl
  liesBuilder:=by kernel_rfl
  t5:=Tryz.underlying5
  a5:=Tryz.isAgg5
  z5:=Tryz.sizeOf5
  v5:=Tryz.zeroValue5
  infoByte:=by kernel_rfl
  cellsByte:=by kernel_rfl
  sizeByte:=by kernel_rfl
  neB5:=by decide }
open Go.RowKit in
def Tryz.lays169_ren:Go.Shelf.Ren:=⟨fun | 169=>83 | n=>n,fun | 70=>80 | 9=>9 | 0=>0 | 72=>82 | 37=>22 | 127=>120 | 3=>3 | 5=>5 | n=>n,fun | n=>n⟩
theorem Tryz.lays169:Go.Proofs.Lays.n169 Tryz.prog Tryz.lays169_ren:={
  mixed:=by kernel_rfl
  f169:=Tryz.func83.trans (congrArg some (by kernel_rfl))
  t0:=Tryz.underlying0
  a0:=Tryz.isAgg0
  z0:=Tryz.sizeOf0
  v0:=Tryz.zeroValue0
  t3:=Tryz.underlying3
  a3:=Tryz.isAgg3
  z3:=Tryz.sizeOf3
  v3:=Tryz.zeroValue3
  t9:=Tryz.underlying9
  a9:=Tryz.isAgg9
  z9:=Tryz.sizeOf9
  v9:=Tryz.zeroValue9
  t37:=Tryz.underlying22
  a37:=Tryz.isAgg22
  z37:=Tryz.sizeOf22
  v37:=Tryz.zeroValue22
  t70:=Tryz.underlying80
  a70:=Tryz.isAgg80
  z70:=Tryz.sizeOf80
  v70:=Tryz.zeroValue80
  t72:=Tryz.underlying82
  a72:=Tryz.isAgg82
  z72:=Tryz.sizeOf82
  v72:=Tryz.zeroValue82
  t127:=Tryz.underlying120
  a127:=Tryz.isAgg120
  z127:=Tryz.sizeOf120
  v127:=Tryz.zeroValue120 }
theorem Tryz.Builder_Extra_169:Builder.Extra Tryz.prog Tryz.lays169_ren:={
  sizeBuilder:=by kernel_rfl
  liesBuilder:=by kernel_rfl
  t5:=Tryz.underlying5
  a5:=Tryz.isAgg5
  z5:=Tryz.sizeOf5
  v5:=Tryz.zeroValue5
  infoByte:=by kernel_rfl
  cellsByte:=by kernel_rfl
  sizeByte:=by kernel_rfl
  neB5:=by decide }
open Go.RowKit in
open Go.RowKit in
open Go.RowKit in
open Go.RowKit in
def Tryz.lays165_ren:Go.Shelf.Ren:=⟨fun | 165=>86 | 240=>116 | 241=>117 | 276=>136 | 277=>137 | n=>n,fun | 70=>80 | 3=>3 | 0=>0 | 4=>4 | 9=>9 | 20=>20 | 72=>82 | 37=>22 | 164=>143 | 5=>5 | n=>n,fun | n=>n⟩
theorem Tryz.lays165:Go.Proofs.Lays.n165 Tryz.prog Tryz.lays165_ren:={
  mixed:=by kernel_rfl
  f165:=Tryz.func86.trans (congrArg some (by kernel_rfl))
  f240:=Tryz.func116.trans (congrArg some (by kernel_rfl))
  f241:=Tryz.func117.trans (congrArg some (by kernel_rfl))
  f276:=Tryz.func136.trans (congrArg some (by kernel_rfl))
  f277:=Tryz.func137.trans (congrArg some (by kernel_rfl))
  t0:=Tryz.underlying0
  a0:=Tryz.isAgg0
  z0:=Tryz.sizeOf0
  v0:=Tryz.zeroValue0
  t3:=Tryz.underlying3
  a3:=Tryz.isAgg3
  z3:=Tryz.sizeOf3
  v3:=Tryz.zeroValue3
  t4:=Tryz.underlying4
  a4:=Tryz.isAgg4
  z4:=Tryz.sizeOf4
  v4:=Tryz.zeroValue4
  t9:=Tryz.underlying9
  a9:=Tryz.isAgg9
  z9:=Tryz.sizeOf9
  v9:=Tryz.zeroValue9
  t20:=Tryz.underlying20
  a20:=Tryz.isAgg20
  z20:=Tryz.sizeOf20
  v20:=Tryz.zeroValue20
  t37:=Tryz.underlying22
  a37:=Tryz.isAgg22
  z37:=Tryz.sizeOf22
  v37:=Tryz.zeroValue22
  t70:=Tryz.underlying80
  a70:=Tryz.isAgg80
  z70:=Tryz.sizeOf80
  v70:=Tryz.zeroValue80
  t72:=Tryz.underlying82
  a72:=Tryz.isAgg82
  z72:=Tryz.sizeOf82
  v72:=Tryz.zeroValue82
  t164:=Tryz.underlying143
  a164:=Tryz.isAgg143
  z164:=Tryz.sizeOf143
  v164:=Tryz.zeroValue143 }
theorem Tryz.Builder_Extra_165:Builder.Extra Tryz.prog Tryz.lays165_ren:={
  sizeBuilder:=by kernel_rfl
  liesBuilder:=by kernel_rfl
  t5:=Tryz.underlying5
  a5:=Tryz.isAgg5
  z5:=Tryz.sizeOf5
  v5:=Tryz.zeroValue5
  infoByte:=by kernel_rfl
  cellsByte:=by kernel_rfl
  sizeByte:=by kernel_rfl
  neB5:=by decide }
open Go.RowKit in
theorem Tryz.Builder_Grow_fresh (B b n:Nat) (w:World) (hB:B≤b) (hbk:w.heap[b]? = some (.cells #[.pointer none,.slice none 0 0] 82 (0,0))) (hBw:B≤w.heap.size) (hn:n≤281474976710656) :
    Calls Tryz.prog 86 #[.pointer (some ⟨b,0,none⟩),.int .i64 n] w fun e w'=>e=.returned (.tuple #[])∧(Lib.BuilderAt 82 5 B b (.pointer (some ⟨b,0,none⟩)) [] w'∧Below B w w'):=Any.Builder_Grow_fresh Tryz.lays165 Tryz.Builder_Extra_165 B b n w hB hbk hBw hn
def Tryz.lays214_ren:Go.Shelf.Ren:=⟨fun | 214=>132 | n=>n,fun | 4=>4 | 9=>9 | n=>n,fun | n=>n⟩
open Go.RowKit in
def Tryz.lays121_ren:Go.Shelf.Ren:=⟨fun | 121=>110 | 214=>132 | n=>n,fun | 4=>4 | 9=>9 | n=>n,fun | n=>n⟩
theorem Tryz.lays121:Go.Proofs.Lays.n121 Tryz.prog Tryz.lays121_ren:={
  mixed:=by kernel_rfl
  f121:=Tryz.func110.trans (congrArg some (by kernel_rfl))
  f214:=Tryz.func132.trans (congrArg some (by kernel_rfl))
  t4:=Tryz.underlying4
  a4:=Tryz.isAgg4
  z4:=Tryz.sizeOf4
  v4:=Tryz.zeroValue4
  t9:=Tryz.underlying9
  a9:=Tryz.isAgg9
  z9:=Tryz.sizeOf9
  v9:=Tryz.zeroValue9 }
open Go.RowKit in
theorem Tryz.strconv_FormatBool (b:Bool) (w:World) :
    Calls Tryz.prog 110 #[.bool b] w fun e w'=>e=.returned (.string ⟨(Lib.formatBool b).toArray⟩)∧w'=w:=Any.strconv_FormatBool Tryz.lays121 b w
open Go.RowKit in
open Go.RowKit in
open Go.RowKit in
open Go.RowKit in
open Go.RowKit in
open Go.RowKit in
open Go.RowKit in
theorem Tryz.Builder_WriteByte_k (B b:Nat) (bs:List Value) (c:Int) (w:World) (h:Lib.IsBuilderF 82 5 B b bs w) (hlen:bs.length+1≤140737488355328) (hBw:B≤w.heap.size) :
    Calls Tryz.prog 89 #[.pointer (some ⟨b,0,none⟩),.int .u8 c] w fun e w'=>e=.returned .nilIface∧(Lib.BuilderAtF 82 5 B b (.pointer (some ⟨b,0,none⟩)) (bs ++ [.int .u8 c]) w'∧Below B w w'∧Lib.OthersKept 5 (some b) w w'):=Any.Builder_WriteByte_k Tryz.lays167 Tryz.Builder_Extra_167 B b bs c w h hlen hBw
open Go.RowKit in
theorem Tryz.Builder_WriteString_k (B b:Nat) (bs:List Value) (s:ByteArray) (w:World) (h:Lib.IsBuilderF 82 5 B b bs w) (hlen:bs.length+s.size≤140737488355328) (hBw:B≤w.heap.size) :
    Calls Tryz.prog 109 #[.pointer (some ⟨b,0,none⟩),.string s] w fun e w'=>e=.returned (.tuple #[.int .i64 s.size,.nilIface])∧(Lib.BuilderAtF 82 5 B b (.pointer (some ⟨b,0,none⟩)) (bs ++ Lib.strCells s) w'∧Below B w w'∧Lib.OthersKept 5 (some b) w w'):=Any.Builder_WriteString_k Tryz.lays166 Tryz.Builder_Extra_166 B b bs s w h hlen hBw
open Go.RowKit in
open Go.RowKit in
open Go.RowKit in
theorem Tryz.Builder_String_any_k (B b:Nat) (l:List UInt8) (w:World) (h:Lib.IsBuilderF 82 5 B b (Lib.byteCells l) w) (hBw:B≤w.heap.size) :
    Calls Tryz.prog 83 #[.pointer (some ⟨b,0,none⟩)] w fun e w'=>e=.returned (.string ⟨l.toArray⟩)∧(Lib.IsBuilderF 82 5 B b (Lib.byteCells l) w'∧Below B w w'∧Lib.OthersKept 5 (some b) w w'):=Any.Builder_String_any_k Tryz.lays169 Tryz.Builder_Extra_169 B b l w h hBw
open Go.RowKit in
open Go.RowKit in
open Go.Lib in
open Go.Lib in
open Go.Lib in
open Go.Lib in
open Go.RowKit Go.Sort Go.Lib in
def Tryz.laysM246_ren:Go.Shelf.Ren:=⟨fun | 246=>133 | 283=>142 | 284=>143 | 285=>144 | 286=>145 | 129=>153 | 317=>152 | 318=>154 | 319=>155 | 320=>156 | 337=>159 | 338=>160 | n=>n,fun | 2=>2 | 3=>3 | 9=>9 | 4=>4 | 171=>152 | 0=>0 | 53=>110 | 37=>22 | 5=>5 | 173=>155 | 212=>160 | 51=>93 | 20=>20 | 213=>161 | 46=>88 | 232=>166 | 233=>126 | n=>n,fun | 17=>2 | 18=>3 | 19=>4 | n=>n⟩
theorem Tryz.laysM246:Go.Proofs.LaysM.n246 Tryz.prog Tryz.laysM246_ren:={
  mixed:=by kernel_rfl
  f129:=Tryz.func153.trans (congrArg some (by kernel_rfl))
  f246:=Tryz.func133.trans (congrArg some (by kernel_rfl))
  f283:=Tryz.func142.trans (congrArg some (by kernel_rfl))
  f284:=Tryz.func143.trans (congrArg some (by kernel_rfl))
  f285:=Tryz.func144.trans (congrArg some (by kernel_rfl))
  f286:=Tryz.func145.trans (congrArg some (by kernel_rfl))
  f317:=Tryz.func152.trans (congrArg some (by kernel_rfl))
  f318:=Tryz.func154.trans (congrArg some (by kernel_rfl))
  f319:=Tryz.func155.trans (congrArg some (by kernel_rfl))
  f320:=Tryz.func156.trans (congrArg some (by kernel_rfl))
  f337:=Tryz.func159.trans (congrArg some (by kernel_rfl))
  f338:=Tryz.func160.trans (congrArg some (by kernel_rfl))
  t0:=Tryz.underlying0
  a0:=Tryz.isAgg0
  z0:=Tryz.sizeOf0
  v0:=Tryz.zeroValue0
  t2:=Tryz.underlying2
  a2:=Tryz.isAgg2
  z2:=Tryz.sizeOf2
  v2:=Tryz.zeroValue2
  t3:=Tryz.underlying3
  a3:=Tryz.isAgg3
  z3:=Tryz.sizeOf3
  v3:=Tryz.zeroValue3
  t4:=Tryz.underlying4
  a4:=Tryz.isAgg4
  z4:=Tryz.sizeOf4
  v4:=Tryz.zeroValue4
  t5:=Tryz.underlying5
  a5:=Tryz.isAgg5
  z5:=Tryz.sizeOf5
  v5:=Tryz.zeroValue5
  t9:=Tryz.underlying9
  a9:=Tryz.isAgg9
  z9:=Tryz.sizeOf9
  v9:=Tryz.zeroValue9
  t20:=Tryz.underlying20
  a20:=Tryz.isAgg20
  z20:=Tryz.sizeOf20
  v20:=Tryz.zeroValue20
  t37:=Tryz.underlying22
  a37:=Tryz.isAgg22
  z37:=Tryz.sizeOf22
  v37:=Tryz.zeroValue22
  t46:=Tryz.underlying88
  a46:=Tryz.isAgg88
  z46:=Tryz.sizeOf88
  v46:=Tryz.zeroValue88
  t51:=Tryz.underlying93
  a51:=Tryz.isAgg93
  z51:=Tryz.sizeOf93
  v51:=Tryz.zeroValue93
  t53:=Tryz.underlying110
  a53:=Tryz.isAgg110
  z53:=Tryz.sizeOf110
  v53:=Tryz.zeroValue110
  t171:=Tryz.underlying152
  a171:=Tryz.isAgg152
  z171:=Tryz.sizeOf152
  v171:=Tryz.zeroValue152
  t173:=Tryz.underlying155
  a173:=Tryz.isAgg155
  z173:=Tryz.sizeOf155
  v173:=Tryz.zeroValue155
  t212:=Tryz.underlying160
  a212:=Tryz.isAgg160
  z212:=Tryz.sizeOf160
  v212:=Tryz.zeroValue160
  t213:=Tryz.underlying161
  a213:=Tryz.isAgg161
  z213:=Tryz.sizeOf161
  t232:=Tryz.underlying166
  a232:=Tryz.isAgg166
  z232:=Tryz.sizeOf166
  v232:=Tryz.zeroValue166
  t233:=Tryz.underlying126
  a233:=Tryz.isAgg126
  z233:=Tryz.sizeOf126
  v233:=Tryz.zeroValue126
  g17:=by kernel_rfl
  g18:=by kernel_rfl
  g19:=by kernel_rfl
  i0:=by kernel_rfl
  i2:=by kernel_rfl
  i3:=by kernel_rfl
  i4:=by kernel_rfl
  i5:=by kernel_rfl
  i9:=by kernel_rfl
  i20:=by kernel_rfl
  i37:=by kernel_rfl
  i46:=by kernel_rfl
  i51:=by kernel_rfl
  i53:=by kernel_rfl
  i171:=by kernel_rfl
  i173:=by kernel_rfl
  i212:=by kernel_rfl
  i232:=by kernel_rfl
  i233:=by kernel_rfl
  m17:=by kernel_rfl
  m18:=by kernel_rfl
  m19:=by kernel_rfl }
open Go.RowKit Go.Sort Go.Lib in
theorem Tryz.internal_strconv_FormatInt_10 (n : Int) (h0 : -9223372036854775808 ≤ n) (h1 : n ≤ 9223372036854775807) (w : World) (htab : Lib.TabIs Tryz.prog w "internal/strconv.uint64pow10" .u64 Lib.pow10Tab) :
    Calls Tryz.prog 133 #[.int .i64 n,.int .i64 10] w fun e w'=>e=.returned (.string ⟨(Lib.itoa n).toArray⟩)∧∃ k os,w'=grow (w.drewN k) os:=Any.internal_strconv_FormatInt_10 Tryz.laysM246 n h0 h1 w htab
open Go.RowKit Go.Sort Go.Lib in
open Go.RowKit Go.Sort Go.Lib in
open Go.RowKit Go.Sort Go.Lib in
def Tryz.laysM316_ren:Go.Shelf.Ren:=⟨fun | 316=>103 | n=>n,fun | 9=>9 | 3=>3 | 4=>4 | 37=>22 | 0=>0 | 127=>120 | 5=>5 | n=>n,fun | n=>n⟩
theorem Tryz.laysM316:Go.Proofs.LaysM.n316 Tryz.prog Tryz.laysM316_ren:={
  mixed:=by kernel_rfl
  f316:=Tryz.func103.trans (congrArg some (by kernel_rfl))
  t0:=Tryz.underlying0
  a0:=Tryz.isAgg0
  z0:=Tryz.sizeOf0
  v0:=Tryz.zeroValue0
  t3:=Tryz.underlying3
  a3:=Tryz.isAgg3
  z3:=Tryz.sizeOf3
  v3:=Tryz.zeroValue3
  t4:=Tryz.underlying4
  a4:=Tryz.isAgg4
  z4:=Tryz.sizeOf4
  v4:=Tryz.zeroValue4
  t9:=Tryz.underlying9
  a9:=Tryz.isAgg9
  z9:=Tryz.sizeOf9
  v9:=Tryz.zeroValue9
  t37:=Tryz.underlying22
  a37:=Tryz.isAgg22
  z37:=Tryz.sizeOf22
  v37:=Tryz.zeroValue22
  t127:=Tryz.underlying120
  a127:=Tryz.isAgg120
  z127:=Tryz.sizeOf120
  v127:=Tryz.zeroValue120
  t5:=Tryz.underlying5
  a5:=Tryz.isAgg5
  z5:=Tryz.sizeOf5
  v5:=Tryz.zeroValue5
  i0:=by kernel_rfl
  i3:=by kernel_rfl
  i4:=by kernel_rfl
  i5:=by kernel_rfl
  i9:=by kernel_rfl
  i37:=by kernel_rfl
  i127:=by kernel_rfl }
open Go.RowKit in
theorem Tryz.stringslite_Clone (s:ByteArray) (w:World) (hlim:s.size≤281474976710656) :
    Calls Tryz.prog 103 #[.string s] w fun e w'=>e=.returned (.string s)∧Below w.heap.size w w':=Any.stringslite_Clone Tryz.laysM316 s w hlim
open Go.RowKit in
open Go.RowKit in
def Tryz.lays109_ren:Go.Shelf.Ren:=⟨fun | 109=>72 | n=>n,fun | 31=>24 | 9=>9 | 3=>3 | 0=>0 | 4=>4 | n=>n,fun | n=>n⟩
theorem Tryz.lays109:Go.Proofs.Lays.n109 Tryz.prog Tryz.lays109_ren:={
  mixed:=by kernel_rfl
  f109:=Tryz.func72.trans (congrArg some (by kernel_rfl))
  t0:=Tryz.underlying0
  a0:=Tryz.isAgg0
  z0:=Tryz.sizeOf0
  v0:=Tryz.zeroValue0
  t3:=Tryz.underlying3
  a3:=Tryz.isAgg3
  z3:=Tryz.sizeOf3
  v3:=Tryz.zeroValue3
  t4:=Tryz.underlying4
  a4:=Tryz.isAgg4
  z4:=Tryz.sizeOf4
  v4:=Tryz.zeroValue4
  t9:=Tryz.underlying9
  a9:=Tryz.isAgg9
  z9:=Tryz.sizeOf9
  v9:=Tryz.zeroValue9
  t31:=Tryz.underlying24
  a31:=Tryz.isAgg24
  z31:=Tryz.sizeOf24
  v31:=Tryz.zeroValue24 }
open Go.Lib in
theorem Tryz.slices_Index_string (b off n c:Nat) (zs:List ByteArray) (x:ByteArray) (w:World) (hz:n≤zs.length) (hbig:n≤9223372036854775807) (hc:∀ j,j < zs.length→w.cell? ⟨b,off+j,none⟩=some (.string (zs.getD j ByteArray.empty))) :
    Calls Tryz.prog 72 #[.slice (some ⟨b,off,none⟩) n c,.string x] w fun e w'=>e=.returned (.int .i64 (Lib.idxOfS (zs.take n) x))∧w'=w:=Any.slices_Index_string Tryz.lays109 b off n c zs x w hz hbig hc
open Go.Lib in
theorem Tryz.slices_Index_string_empty (a:Option Addr) (c:Nat) (x:ByteArray) (w:World) :
    Calls Tryz.prog 72 #[.slice a 0 c,.string x] w fun e w'=>e=.returned (.int .i64 (Lib.idxOfS [] x))∧w'=w:=Any.slices_Index_string_empty Tryz.lays109 a c x w
def Tryz.lays110_ren:Go.Shelf.Ren:=⟨fun | 110=>37 | 109=>72 | n=>n,fun | 31=>24 | 9=>9 | 4=>4 | 3=>3 | 0=>0 | n=>n,fun | n=>n⟩
theorem Tryz.lays110:Go.Proofs.Lays.n110 Tryz.prog Tryz.lays110_ren:={
  mixed:=by kernel_rfl
  f109:=Tryz.func72.trans (congrArg some (by kernel_rfl))
  f110:=Tryz.func37.trans (congrArg some (by kernel_rfl))
  t0:=Tryz.underlying0
  a0:=Tryz.isAgg0
  z0:=Tryz.sizeOf0
  v0:=Tryz.zeroValue0
  t3:=Tryz.underlying3
  a3:=Tryz.isAgg3
  z3:=Tryz.sizeOf3
  v3:=Tryz.zeroValue3
  t4:=Tryz.underlying4
  a4:=Tryz.isAgg4
  z4:=Tryz.sizeOf4
  v4:=Tryz.zeroValue4
  t9:=Tryz.underlying9
  a9:=Tryz.isAgg9
  z9:=Tryz.sizeOf9
  v9:=Tryz.zeroValue9
  t31:=Tryz.underlying24
  a31:=Tryz.isAgg24
  z31:=Tryz.sizeOf24
  v31:=Tryz.zeroValue24 }
open Go.Lib in
theorem Tryz.slices_Contains_string (b off n c:Nat) (zs:List ByteArray) (x:ByteArray) (w:World) (hz:n≤zs.length) (hbig:n≤9223372036854775807) (hc:∀ j,j < zs.length→w.cell? ⟨b,off+j,none⟩=some (.string (zs.getD j ByteArray.empty))) :
    Calls Tryz.prog 37 #[.slice (some ⟨b,off,none⟩) n c,.string x] w fun e w'=>e=.returned (.bool (Lib.containsS (zs.take n) x))∧w'=w:=Any.slices_Contains_string Tryz.lays110 b off n c zs x w hz hbig hc
open Go.Lib in
theorem Tryz.slices_Contains_string_empty (a:Option Addr) (c:Nat) (x:ByteArray) (w:World) :
    Calls Tryz.prog 37 #[.slice a 0 c,.string x] w fun e w'=>e=.returned (.bool false)∧w'=w:=Any.slices_Contains_string_empty Tryz.lays110 a c x w
end Go.Proofs
namespace Go.Proofs.YtapcmbbhhclepaaGreatDoor.Dig
open Go.RowKit Go.Shelf
attribute [local go_sem] Oper.semAt_some
abbrev Bf (B b:Nat) (l:List UInt8) (W:World):Prop:=Lib.IsBuilderF 82 5 B b (Lib.byteCells l) W
theorem bf_grown {B b:Nat} {l:List UInt8} {W W':World} {row:Option Nat} (h:Bf B b l W) (hg:W.grownBy W' row) (hr:∀ r,row=some r→∃ o:Obj,W.heap[r]? = some o∧o.isCells=false):Bf B b l W':=by
  have key:∀ p,Lib.BuilderAtF 82 5 B b p (Lib.byteCells l) W→Lib.BuilderAtF 82 5 B b p (Lib.byteCells l) W':=by
    rintro p ⟨hB,v,hb,hown,hne⟩;refine ⟨hB,v,(hg.block b (Array.getElem?_eq_some_iff.1 hb).1 (fun e=>?_)).trans hb,hown.kept hg ?_,hne⟩
    · obtain ⟨o,ho,hc⟩:=hr b e.symm
      rw [hb] at ho;cases ho
      cases hc
    · cases hv:v.ownBlock with
      | none=>exact .inl rfl
      | some g =>
        refine .inr fun e=>?_
        obtain ⟨o,ho,hc⟩:=hr g e.symm;obtain ⟨c,fz,h1⟩:=Lib.ownsRowF_kind hown g hv;rw [h1] at ho;cases ho
        cases hc
  exact h.imp (key _) (key _)
theorem grownBy_alloc (w:World) (o:Obj):w.grownBy (w.alloc o) none:=⟨rfl,rfl,rfl,by simp,fun k hk _=>Lib.alloc_old w o k hk⟩
theorem bf_alloc {B b:Nat} {l:List UInt8} {W:World} (h:Bf B b l W) (o:Obj):Bf B b l (W.alloc o):=bf_grown h (grownBy_alloc W o) (fun r e=>by cases e)
theorem bf_lt {B b:Nat} {l:List UInt8} {W:World} (h:Bf B b l W):b < W.heap.size:=by
  rcases h with ⟨_,v,hb,_⟩ | ⟨_,v,hb,_⟩
  · exact (Array.getElem?_eq_some_iff.1 hb).1
  · exact (Array.getElem?_eq_some_iff.1 hb).1
theorem bf_block {B b:Nat} {l:List UInt8} {W:World} (h:Bf B b l W):∃ p v,W.heap[b]? = some (.cells #[p,v] 82 (0,0)):=by
  rcases h with ⟨_,v,hb,_⟩ | ⟨_,v,hb,_⟩
  · exact ⟨_,_,hb⟩
  · exact ⟨_,_,hb⟩
theorem kept_from {B b:Nat} {l:List UInt8} {W W':World} (h:Bf B b l W) (hk:Lib.OthersKept 5 (some b) W W') (hs:W.heap.size≤W'.heap.size) (D:Nat):KeepsFrom D W W':=by
  refine ⟨hs,fun k o _ hko ho=>?_⟩;refine (hk k o hko ?_ ?_).trans rfl
  · intro e
    cases e
    obtain ⟨p,v,hb⟩:=bf_block h;rw [hb] at hko;cases hko
    cases ho
  · rintro c fz rfl
    cases ho
theorem byteCells_snoc (l:List UInt8) (c:UInt8):Lib.byteCells l ++ [.int .u8 (c.toNat:Int)]=Lib.byteCells (l ++ [c]):=by simp [Lib.byteCells]
def chL (q:List Int) (j:Nat):List Int:=(q.drop (3 * j)).take 3
theorem upto_text (q:List Int):∀ k,k≤nch3 q.length→(upto (nch3 q.length) k).flatMap (fun x=>Sl.text (chL q x.val))=Sl.text (q.take (3 * k))
  | 0,_=>rfl
  | k+1,h=>by
    have h3:3 * k≤q.length:=by unfold nch3 at h;omega
    rw [upto_succ (show k < nch3 q.length by omega),List.flatMap_append,upto_text q k (by omega),List.flatMap_singleton,← Sl.text_append (by rw [List.length_take];omega)]
    congr 1
    unfold chL;rw [show 3 * (k+1)=3 * k+3 by omega,List.take_add]
theorem chL_length (q:List Int) (j:Nat):(chL q j).length=min 3 (q.length - 3 * j):=by simp [chL]
theorem flat_length (q:List Int) {N:Nat} (pre:List (Fin N)):(pre.flatMap (fun x=>Sl.text (chL q x.val))).length≤4 * pre.length:=by
  induction pre with
  | nil=>simp
  | cons x p ih =>
    rw [List.flatMap_cons,List.length_append,Sl.text_length,chL_length,List.length_cons];omega
theorem signs_at (p:Nat) (h:p < ({ data:=#[65,66,67,68,69,70,71,72,73,74,75,76,77,78,79,80,81,82,83,84,85,86,87,88,89,90,97,98,99,100,101,102,103,104,105,106,107,108,109,110,111,112,113,114,115,116,117,118,119,120,121,122,48,49,50,51,52,53,54,55,56,57,45,95] }:ByteArray).size):({ data:=#[65,66,67,68,69,70,71,72,73,74,75,76,77,78,79,80,81,82,83,84,85,86,87,88,89,90,97,98,99,100,101,102,103,104,105,106,107,108,109,110,111,112,113,114,115,116,117,118,119,120,121,122,48,49,50,51,52,53,54,55,56,57,45,95] }:ByteArray)[p]'h=Sl.signs[p]?.getD 0:=by
  have hp:p < 64:=h;have h1:({ data:=#[65,66,67,68,69,70,71,72,73,74,75,76,77,78,79,80,81,82,83,84,85,86,87,88,89,90,97,98,99,100,101,102,103,104,105,106,107,108,109,110,111,112,113,114,115,116,117,118,119,120,121,122,48,49,50,51,52,53,54,55,56,57,45,95] }:ByteArray)[p]'h=Sl.signs[p]'(by exact hp):=rfl;rw [h1,List.getElem?_eq_getElem (by exact hp)];rfl
theorem y8_of {l:List Int} (h:Dg.B8 l):Sl.Y8 l:=by
  intro n hn;obtain ⟨i,hi,rfl⟩:=List.getElem_of_mem hn;have:=h i
  rw [List.getElem?_eq_getElem hi] at this;exact this
theorem tog8_lt (g:List Int) (h8:Dg.B8 g) (h3:g.length≤3):0≤Sl.tog 8 g 0∧Sl.tog 8 g 0 < 16777216:=by
  match g,h3 with
  | [],_=>simp [Sl.tog]
  | [a],_ =>
    have:=h8 0
    simp [Sl.tog] at this ⊢;omega
  | [a,b],_ =>
    have:=h8 0
    have:=h8 1
    simp [Sl.tog] at *;omega
  | [a,b,c],_ =>
    have:=h8 0
    have:=h8 1
    have:=h8 2
    simp [Sl.tog] at *;omega
set_option maxRecDepth 100000 in
set_option maxHeartbeats 2000000 in
theorem sealText_any (bs:List Int) (a:Option Addr) (len cap:Nat) (w:World) (hB:IsB w a len cap bs) (hl:len≤1000000) :
    Calls Tryz.prog 58 #[.slice a len cap] w fun e w'=>e=.returned (.string ⟨(Sl.text bs).toArray⟩)∧Below w.heap.size w w':=by
  have HB:=hide hB;have hlc:=hB.2.1;clear hB;refine (callsIn_wide (n:=3)).1 (callsIn_of_wp_marks Tryz.func58 rfl trivial ?_ rfl);refine wpIn_wide.2 ?_;simp only [Tryz.ntmps58,List.size_toArray,List.length_cons,List.length_nil,Nat.reduceAdd,Nat.reduceSub,Array.replicate_succ,Array.replicate_zero,List.push_toArray,List.append_toArray,List.nil_append,List.cons_append]
  go_wp2_with fail
  have hgr:((len:Int) * 4+3 - 1) / 3=(((len * 4+2) / 3:Nat):Int):=by omega
  rw [hgr];have b0:Below w.heap.size w (w.alloc (.cells #[.pointer none,.slice none 0 0] 82)):=(Below.refl _ _).alloc (Nat.le_refl _) _;refine (Tryz.Builder_Grow_fresh w.heap.size w.heap.size ((len * 4+2) / 3) _ (Nat.le_refl _) (heap_alloc_new w _) b0.size (by omega)).mono ?_;rintro e w1 ⟨rfl,hbu,b1⟩;have HBF:Hid (Bf w.heap.size w.heap.size [] w1):=.inr (Lib.BuilderAtF.of hbu);have HB1:=hide (b0.trans b1);clear hbu b1 b0 hgr
  go_wp2_with (go_at_call 87;refine (callsIn_wide.1 (chunk_any3 3 _ _ _ _)).mono ?_;rintro e w' ⟨rfl,rfl⟩)
  have b5:Below w1.heap.size w1 ((w1.alloc (.cells #[.slice a len cap] 22)).alloc (.cells #[.int .i64 3] 3)):=((Below.refl _ _).alloc (Nat.le_refl _) _).alloc (by simp) _;have hs5:((w1.alloc (.cells #[.slice a len cap] 22)).alloc (.cells #[.int .i64 3] 3)).heap.size=w1.heap.size+2:=by simp
  have hk1:=(blk_new w1 22 #[.slice a len cap]).below' ((Below.refl _ _).alloc (Nat.le_refl _) (.cells #[.int .i64 3] 3));have hk2:=blk_new (w1.alloc (.cells #[.slice a len cap] 22)) 3 #[.int .i64 3];rw [World.size_alloc] at hk2;have HF5:=hide (bf_alloc (bf_alloc HBF.out (.cells #[.slice a len cap] 22)) (.cells #[.int .i64 3] 3));have HB5:=hide (HB1.out.trans (b5.mono HB1.out.size));have hN1:=bf_lt HBF.out;generalize (w1.alloc (.cells #[.slice a len cap] 22)).alloc (.cells #[.int .i64 3] 3)=w5 at hs5 hk1 hk2 HF5 HB5 ⊢;clear b5 HBF HB1;obtain ⟨Bs,hBs⟩:∃ Bs,Bs=w1.heap.size:=⟨_,rfl⟩;rw [← hBs] at hs5 hk1 hk2 hN1 ⊢;clear hBs;obtain ⟨N,hN⟩:∃ N,N=w.heap.size:=⟨_,rfl⟩;rw [← hN] at HF5 HB5 hN1 ⊢;have HN:=hide hN;clear hN
  obtain ⟨cb,co,hcc⟩:∃ cb co,0 < len→a=some ⟨cb,co,none⟩∧Rd w cb co bs:=by
    rcases Nat.eq_zero_or_pos len with h | h
    · exact ⟨0,0,fun h'=>by omega⟩
    · obtain ⟨_,h2,_,_,⟨_,h3⟩ | ⟨x,hx,hR⟩⟩:=HB.out
      · omega
      · obtain ⟨cb,co,rfl,hR2⟩:=hR h
        exact ⟨cb,co,fun _=>⟨hx,hR2⟩⟩
  have HCC:=hide hcc;clear hcc;have HK1:=hide hk1;have HK2:=hide hk2;have hbl:=HB.out.1;refine (wpIn_wide (n:=3)).1 ?_
  refine' wpIn_rangeFunc_ownG rfl (by omega) (gf:=118) (lb:=#[.pointer (some ⟨Bs,0,none⟩),.pointer (some ⟨Bs+1,0,none⟩)]) rfl trivial (enters_of Tryz.func118 (by kernel_rfl) rfl)
    (chunk_stops3 2 (by omega) Bs (Bs+1) cb co a len cap hlc (by omega) w5 (fun h=>(HCC.out h).1) (hk1.cell 0) (hk2.cell 0))
    (fun h k=>⟨k.1.trans h.1,k.2.trans h.2⟩) (fun W l o o' hl ho hc hw=>⟨World.putObj_heap_other (by omega),World.putObj_heap_other (by omega)⟩) (Below.refl _ _) (fun _=>rfl)
    (fun pre W=>Bf N N (pre.flatMap (fun x=>Sl.text (chL bs x.val))) W∧Below N w5 W∧Blk W Bs 22 #[.slice a len cap]∧Blk W (Bs+1) 3 #[.int .i64 3])
    (fun c pre W=>False)
    (fun s W W' row hs hg' hr=>⟨bf_grown hs.1 hg' (fun r e=>(hr r e).2),hs.2.1.trans ⟨hg'.os,hg'.tape,hg'.output,hg'.size,fun k hk=>hg'.block k (by have:=hs.2.1.size;omega) (fun e=>by have:=(hr k e.symm).1;omega)⟩,hs.2.2.1.grown hg' (fun r e=>(hr r e).2),hs.2.2.2.grown hg' (fun r e=>(hr r e).2)⟩)
    (fun c s W W' row hs hg' hr=>hs)
    ⟨HF5.out,Below.refl _ _,hk1,hk2⟩ _ ?assign ?body ?done ?stop
  case assign =>
    intro l x W K hK
    gi_wp2
    exact hK
  case stop =>
    rintro D c pre W hD _ h;exact h.elim
  case body =>
    rintro l pre x W ⟨hF,hbW,hq1,hq2⟩ hlen;have hx3:3 * x.val < len:=by have:=x.isLt;unfold nch3 at this;omega
    obtain ⟨ha',hRd⟩:=HCC.out (by omega);obtain ⟨j,hj⟩:∃ j,j=x.val:=⟨_,rfl⟩;rw [← hj] at hx3;obtain ⟨m,hm⟩:∃ m,m=min 3 (len - 3 * j):=⟨_,rfl⟩;have hcv:chV3 cb co len x.val=.slice (some ⟨cb,co+3 * j,none⟩) m m:=by rw [← hj,hm];rfl
    have hcl:(chL bs j).length=m:=by rw [chL_length,hm,hbl]
    have hbw:Below N w W:=HB5.out.trans hbW
    have hIc:IsB W (some ⟨cb,co+3 * j,none⟩) m m (chL bs j):=by
      refine ⟨hcl,Nat.le_refl _,by omega,fun i=>take_bytes (fun i=>by rw [List.getElem?_drop];exact HB.out.2.2.2.1 _) 3 i,.inr ⟨_,rfl,fun _=>⟨_,_,rfl,fun i hi=>?_⟩⟩⟩;rw [hcl] at hi;have h1:=(hRd.below (HN.out ▸ hbw)) (3 * j+i) (by omega);unfold chL;rw [List.getElem?_take,if_pos (by omega),List.getElem?_drop,Nat.add_assoc];exact h1
    have HF:=hide hF;have HbW:=hide hbW;have HQ1:=hide hq1;have HQ2:=hide hq2;have HI:=hide hIc;have HJ:=hide hj;have HM:=hide hm;have HCl:=hide hcl;have HP:=hide hlen;have hm3:m≤3:=by omega
    have hm0:0 < m:=by omega
    simp only [hcv];clear hcv hF hbW hq1 hq2 hIc hj hm hcl hlen ha' hRd hbw
    gi_wp2_with fail
    refine ⟨trivial,?_⟩;refine (CallsIn.inRound l (callsIn_wide.2 (together8 (chL bs j) (some ⟨cb,co+3 * j,none⟩) m m W HI.out hm3))).mono ?_;rintro e W ⟨rfl,rfl⟩;obtain ⟨T,hT⟩:∃ T,T=Sl.tog 8 (chL bs j) 0:=⟨_,rfl⟩;rw [← hT];have HT:=hide hT;clear hT
    gi_wp2_with fail
    have h24:0≤T∧T < 16777216:=by
      rw [HT.out];exact tog8_lt _ HI.out.2.2.2.1 (by rw [HCl.out];exact hm3)
    gi_loopw [22] (fun i wr=>∃ k:Nat,k≤m+1∧i=.int .i64 k∧Hid (Bf N N (pre.flatMap (fun x=>Sl.text (chL bs x.val)) ++ (Sl.pieces T 6 k).map Sl.sgn) wr)∧Hid (Below N w5 wr)∧Hid (Blk wr Bs 22 #[.slice a len cap])∧Hid (Blk wr (Bs+1) 3 #[.int .i64 3])∧Hid (KeepsFrom w5.heap.size W wr)) (fun i _=>m+1 - (intOf i).toNat)
    case atStart=>exact ⟨0,by omega,rfl,by show Bf N N (_ ++ []) W;rw [List.append_nil];exact HF.out,HbW.out,HQ1.out,HQ2.out,KeepsFrom.refl _ _⟩
    case round =>
      obtain ⟨k,hk,rfl,HFr,HBr,HR1,HR2,HKr⟩:=hrel
      by_cases hlt:k < m+1
      · gi_wp2_with fail
        refine ⟨trivial,?_⟩;refine (CallsIn.inRound l (callsIn_wide.2 (piece6 T k wr h24.1 h24.2 (by omega)))).mono ?_;rintro e w8 ⟨rfl,nd,rfl⟩;obtain ⟨p,hp⟩:∃ p,p=Sl.piece T k 6:=⟨_,rfl⟩;have hp0:0≤p:=by rw [hp];unfold Sl.piece;omega
        have hp1:p < 64:=by rw [hp];unfold Sl.piece;simp;omega
        rw [← hp];have HPp:=hide hp;clear hp
        gi_wp2_with fail
        simp only [signs_at];have hfl:=flat_length bs pre;have hsz:=HBr.out.size;have hN5:=HB5.out.size;have hFd:Bf N N (pre.flatMap (fun x=>Sl.text (chL bs x.val)) ++ (Sl.pieces T 6 k).map Sl.sgn) (wr.drewN nd):=bf_grown HFr.out (row:=none) ⟨rfl,rfl,rfl,Nat.le_refl _,fun _ _ _=>rfl⟩ (fun r e=>by cases e);refine ⟨trivial,?_⟩;refine (CallsIn.inRound l (callsIn_wide.2 (Tryz.Builder_WriteByte_k N N _ _ _ hFd ?_ ?_))).mono ?_
        · rw [Lib.byteCells_length,List.length_append,List.length_map,show (Sl.pieces T 6 k).length=k by simp [Sl.pieces]]
          have:=HP.out
          have hn3:nch3 len≤1000000:=by unfold nch3;omega
          omega
        · have:(wr.drewN nd).heap.size=wr.heap.size:=rfl
          have:=HN.out
          omega
        · rintro e w9 ⟨rfl,hF9,b9,k9⟩
          have e9:Bf N N (pre.flatMap (fun x=>Sl.text (chL bs x.val)) ++ (Sl.pieces T 6 (k+1)).map Sl.sgn) w9:=by
            rw [Sl.pieces_succ,List.map_append,← List.append_assoc];have:=hF9
            rw [byteCells_snoc] at this;rw [← HPp.out];exact .inr this
          have hB9:Below N w5 w9:=(below_drewN HBr.out nd).trans b9;have hR19:Blk w9 Bs 22 #[.slice a len cap]:=k9 Bs _ HR1.out (by intro e;cases e;omega) (by intro c fz e;cases e);have hR29:Blk w9 (Bs+1) 3 #[.int .i64 3]:=k9 (Bs+1) _ HR2.out (by intro e;cases e;omega) (by intro c fz e;cases e);have hK9:KeepsFrom w5.heap.size W w9:=HKr.out.trans (show KeepsFrom w5.heap.size wr w9 from ⟨(kept_from hFd k9 b9.size w5.heap.size).1,(kept_from hFd k9 b9.size w5.heap.size).2⟩);have H1:=hide e9;have H2:=hide hB9;have H3:=hide hR19;have H4:=hide hR29;have H5:=hide hK9;clear hF9 b9 k9 e9 hB9 hR19 hR29 hK9
          gi_wp2_with fail
          go_roundw
          case rel=>exact ⟨k+1,by omega,by go_num,H1,H2,H3,H4,H5⟩
          case measure=>simp [intOf];omega
      · gi_wp2_with fail
        have hkm:k=m+1:=by omega
        refine ⟨HKr.out,⟨HR1.out.trans HQ1.out.symm,HR2.out.trans HQ2.out.symm⟩,?_,HBr.out,HR1.out,HR2.out⟩;have:=HFr.out
        rw [hkm] at this;rw [List.flatMap_append,List.flatMap_singleton,← HJ.out]
        have e6:Sl.text (chL bs j)=(Sl.pieces T 6 (m+1)).map Sl.sgn:=by
          unfold Sl.text;rw [Sl.nums_group _ (y8_of HI.out.2.2.2.1) (by rw [HCl.out];exact hm0) (by rw [HCl.out];exact hm3),HCl.out,HT.out]
        rw [e6];exact this
  case done =>
    rintro D xs W hD hxs ⟨hF,hbW,hq1,hq2⟩ hK;rw [hxs] at hF;have ht:=upto_text bs (nch3 len) (by rw [hbl];exact Nat.le_refl _);rw [hbl] at ht;rw [ht,List.take_of_length_le (by unfold nch3;omega)] at hF;have hN5:=HB5.out.size;have hsz:=hbW.size;have HNo:=HN.out
    go_wp2_with fail
    refine (Tryz.Builder_String_any_k w.heap.size w.heap.size (Sl.text bs) W (HNo ▸ hF) (by omega)).mono ?_;rintro e w9 ⟨rfl,hF9,b9,k9⟩;have hD9:w9.heap[D]? = some (.deferred (some [])):=(kept_from (HNo ▸ hF) k9 b9.size 0).same D _ (Nat.zero_le _) hK rfl;have HB9:Hid (Below w.heap.size w w9):=(HNo ▸ HB5.out.trans hbW:Below w.heap.size w W).trans b9
    go_wp2_with fail
    refine ⟨by simp,.inl ⟨_,_,rfl,run_takeDeferred hD9,?_⟩⟩;refine ⟨_,results_tmp rfl _ _ _,rfl,HB9.out.trans ?_⟩;exact ⟨rfl,rfl,rfl,(grownBy_putObj' w9 D (.deferred none)).size,fun k hk=>(grownBy_putObj' w9 D (.deferred none)).block k (by have:=HB9.out.size;omega) (fun e=>by cases e;omega)⟩
end Go.Proofs.YtapcmbbhhclepaaGreatDoor.Dig
namespace Go.Proofs.YtapcmbbhhclepaaGreatDoor.Dig
open Go.RowKit
def mk (m:Int) (k:List Int) (i:Nat):List Int:=Sl.mask m (k.take i) ++ k.drop i
end Go.Proofs.YtapcmbbhhclepaaGreatDoor.Dig
namespace Go.Proofs.YtapcmbbhhclepaaGreatDoor.Dig
open Go.RowKit Go.Shelf
def signsB:ByteArray:={ data:=#[65,66,67,68,69,70,71,72,73,74,75,76,77,78,79,80,81,82,83,84,85,86,87,88,89,90,97,98,99,100,101,102,103,104,105,106,107,108,109,110,111,112,113,114,115,116,117,118,119,120,121,122,48,49,50,51,52,53,54,55,56,57,45,95] }
end Go.Proofs.YtapcmbbhhclepaaGreatDoor.Dig
namespace Go.Proofs.YtapcmbbhhclepaaGreatDoor.Dig
open Go.RowKit
theorem refTurn_same (x n:Int) (w:World) (h0:0≤n) (h1:n≤32) :
    Calls Tryz.prog 129 #[.int .u32 x,.int .u64 n] w fun e w'=>e=.returned (.int .u32 (Dg.rotr x n))∧w'=w:=by
  go_enter Tryz.func129,Tryz.ntmps129
  go_wp2
  go_ret
  exact ⟨rfl,rfl⟩
theorem infoWord:(Tryz.prog.info? 93).map (fun i=>(i.zero,i.size,i.bytes))=some (some (.int .u32 0),1,4):=by kernel_rfl
set_option maxRecDepth 100000 in
theorem keys_any (w:World):Calls Tryz.prog 128 #[] w fun e w'=>e=.returned (.slice (some ⟨w.heap.size,0,none⟩) 64 64)∧w'=w.alloc (.cells (wds Dg.K) 93):=by
  go_enter Tryz.func128,Tryz.ntmps128
  go_wp2
  go_ret
  exact ⟨rfl,rfl⟩
theorem own_block {w:World} {base:Nat} {e:TypeId} {sz:Nat} {v:Value} {n:Nat} {xs:List Value} (h:w.ownsRow base e sz v n xs):∀ k,v.ownBlock=some k→base≤k:=fun k hk=>(h.lt k hk).1
theorem own_below {w w':World} {base:Nat} {e:TypeId} {sz:Nat} {v:Value} {n:Nat} {xs:List Value} (h:w.ownsRow base e sz v n xs) (b:Below w.heap.size w w'):w'.ownsRow base e sz v n xs:=by
  obtain ⟨h1,h2⟩:=h;refine ⟨h1,?_⟩;rcases h2 with h2 | ⟨g,cap,cur,hv,hg,hh,r⟩
  · exact .inl h2
  · exact .inr ⟨g,cap,cur,hv,hg,(b.block g (Array.getElem?_eq_some_iff.1 hh).1).trans hh,r⟩
theorem append_one {w:World} (T E:TypeId) (z:Value) (bytes:Nat) (ht:Tryz.prog.underlying T=some (.slice E)) (hinfo:(Tryz.prog.info? E).map (fun i=>(i.zero,i.size,i.bytes))=some (some z,1,bytes)) (hzs:z.cells.size=1)
    (base:Nat) (v:Value) (n:Nat) (xs:List Value) (hown:w.ownsRow base E 1 v n xs) {lo:Nat} {m c:Nat} {news:List Value} (hn:news.length=m) (hc:∀ j u,news[j]? = some u→w.cell? ⟨lo,j,none⟩=some u) (hone:∀ u ∈ news,u.oneCell'=true) (hnm:(n+m) * bytes≤100000000) (hnm2:n+m≤100000000) (hbase:base≤w.heap.size) :
    ∃ a' c' w',(Builtin.append_ #[T,T] T #[v,.slice (some ⟨lo,0,none⟩) m c]).run Tryz.prog w=.ok (.slice a' (n+m) c') w'∧w'.ownsRow base E 1 (.slice a' (n+m) c') (n+m) (xs ++ news)∧w.grownBy w' v.ownBlock:=by
  obtain ⟨i0,hi,hz0,hz1,hz2⟩:=info_parts hinfo
  obtain ⟨v',w',q1,q2,q3,_⟩:=run_append_own w base T T E i0 z 1 bytes ht hi hz0 hz1 hz2 hzs (by decide) v n _ hown ⟨lo,0,none⟩ m c news (by omega) (fun j u hu=>by
      have e1:(⟨lo,0,none⟩:Addr).add j=⟨lo,j,none⟩:=by unfold Addr.add;split <;> simp_all
      exact Eq.trans (congrArg _ e1) (hc j u hu)) hone (by simp [maxLen];omega) (by omega) hbase
  obtain ⟨a',c',rfl⟩:=own_shape q2;exact ⟨a',c',w',q1,q2,q3⟩
theorem one_cell (w:World) (x:Value) (t:TypeId):∀ j u,[x][j]? = some u→(w.alloc (.cells #[x] t)).cell? ⟨w.heap.size,j,none⟩=some u:=by
  intro j u hu;rw [(blk_new w t #[x]).cell j]
  simpa using hu
set_option maxRecDepth 100000 in
set_option maxHeartbeats 1000000 in
theorem refTail_any (n:Int) (w:World) (h0:0≤n) (h1:n < 18446744073709551616) :
    Calls Tryz.prog 101 #[.int .u64 n] w fun e w'=>∃ a m c,Hid (m=(Dg.tail n).length)∧e=.returned (.slice a m c)∧IsB w' a m c (Dg.tail n)∧Below w.heap.size w w':=by
  obtain ⟨q,hq⟩:∃ q,Dg.noughts n=q:=⟨_,rfl⟩;have hq63:q≤63:=by rw [← hq];exact Dg.noughts_le n
  have hqe:(q:Int)=(55 - n) % 64:=by rw [← hq];unfold Dg.noughts;omega
  have HQ:=hide hq;have HQE:=hide hqe;clear hq hqe;go_enter Tryz.func101,Tryz.ntmps101
  go_wp2_with fail
  go_loopw [3] (fun v wr=>∃ (k:Nat) (a:Option Addr) (c:Nat),Hid (k≤q)∧v=.slice a (1+k) c∧Hid (wr.ownsRow w.heap.size 5 1 (.slice a (1+k) c) (1+k) ((128 :: List.replicate k 0).map b8))∧Hid (Below w.heap.size w wr)) (fun v _=>match v with | .slice _ m _=>100 - m | _=>0)
  case atStart =>
    refine ⟨0,_,_,Nat.zero_le _,rfl,?_,(Below.refl _ _).alloc (Nat.le_refl _) _⟩;exact ⟨by simp,.inr ⟨w.heap.size,1,_,rfl,Nat.le_refl _,blk_new w 5 _,Nat.le_refl _,by simp [maxLen],rfl,rfl⟩⟩
  case round =>
    obtain ⟨k,a,c,Hk,rfl,HO,HB⟩:=hrel;have hk63:k≤63:=Nat.le_trans Hk.out hq63
    by_cases hlt:k < q
    · have hne:¬ (n % 64+(1+(k:Int))) % 64=56:=by have:=HQE.out;omega
      obtain ⟨a2,c2,w2,hrun,hown2,hgr⟩:=append_one (w:=wr.alloc (.cells #[b8 0] 5)) 22 5 (.int .u8 0) 1 Tryz.underlying22 infoByte rfl w.heap.size _ (1+k) _ (HO.out.alloc _) (lo:=wr.heap.size) (m:=1) (c:=1) (news:=[b8 0]) rfl (one_cell wr (b8 0) 5) (by simp [Value.oneCell']) (by omega) (by omega) (by have:=HB.out.size;simp;omega)
      go_wp2_with (at_builtin;refine wpList_append_run rfl _ _ 22 rfl _ _ rfl rfl hrun ?_)
      go_roundw
      case rel =>
        refine ⟨k+1,a2,c2,hlt,by rw [← Nat.add_assoc],?_,(HB.out.alloc HB.out.size _).grown hgr (by have:=HB.out.size;simp;omega) (own_block HO.out)⟩;unfold Hid;rw [← Nat.add_assoc]
        have e:(128 :: List.replicate (k+1) (0:Int)).map b8=(128 :: List.replicate k (0:Int)).map b8 ++ [b8 0]:=by
          rw [List.replicate_succ',List.map_cons,List.map_append];rfl
        rw [e];exact hown2
      case measure=>simp;omega
    · have hkq:k=q:=by have:=Hk.out;omega
      have hne:(n % 64+(1+(k:Int))) % 64=56:=by have:=HQE.out;omega
      have HKQ:=hide hkq;clear hkq
      go_upto_region 5 with fail
      clear hne;have e8:=IntKind.wrap_u64 (n * 8);obtain ⟨x,hx⟩:∃ x,x=n * 8 % 18446744073709551616:=⟨_,rfl⟩;rw [e8,← hx];have x0:0≤x:=by omega
      have HX:=hide hx
      have HO2:Hid (wr.ownsRow w.heap.size 5 1 (.slice a (1+k) c) (1+k+0) ((128 :: List.replicate k (0:Int) ++ []).map b8)):=by
        unfold Hid;rw [List.append_nil];exact HO.out
      clear hx e8 HO hlt;generalize (n % 64+(1+(k:Int))) % 64=z1;generalize n % 64+(1+(k:Int))=z2
      go_wp2_with fail
      go_loopw [3,5] (fun v i wq=>∃ (m j:Nat) (iv:Int) (pre:List Int) (a:Option Addr) (c:Nat),Hid (m+j=8)∧v=.slice a (1+k+j) c∧i=.int .i64 iv∧Hid (iv=(m:Int) - 1)∧Hid (pre ++ Dg.be x m=Dg.be x 8)∧Hid (wq.ownsRow w.heap.size 5 1 (.slice a (1+k+j) c) (1+k+j) ((128 :: List.replicate k (0:Int) ++ pre).map b8))∧Hid (Below w.heap.size w wq)) (fun _ i _=>(intOf i+1).toNat)
      case atStart=>exact ⟨8,0,_,[],a,c,rfl,rfl,rfl,rfl,rfl,HO2,HB⟩
      case round =>
        rename_i wr0 _
        clear HO2 HB;obtain ⟨m,j,iv,pre,a,c,Hm,rfl,rfl,Hi,Hp,HO,HB⟩:=hrel;have h7:iv≤7:=by have:=Hi.out;have:=Hm.out;omega
        by_cases h0i:0≤iv
        · have hj8:j≤8:=by have:=Hm.out;omega
          obtain ⟨a2,c2,w2,hrun,hown2,hgr⟩:=append_one (w:=wr.alloc (.cells #[b8 (x / 2 ^ (8 * iv).toNat % 256)] 5)) 22 5 (.int .u8 0) 1 Tryz.underlying22 infoByte rfl w.heap.size _ (1+k+j) _ (HO.out.alloc _) (lo:=wr.heap.size) (m:=1) (c:=1) (news:=[b8 (x / 2 ^ (8 * iv).toNat % 256)]) rfl (one_cell wr _ 5) (by simp [Value.oneCell']) (by omega) (by omega) (by have:=HB.out.size;simp;omega)
          go_wp2_with (at_builtin;refine wpList_append_run rfl _ _ 22 rfl _ _ rfl rfl hrun ?_)
          go_roundw
          case rel =>
            obtain ⟨m',rfl⟩:∃ m',m=m'+1:=⟨m - 1,by have:=Hi.out;omega⟩;have hiv:iv=(m':Int):=by have:=Hi.out;omega
            refine ⟨m',j+1,_,pre ++ [x / 2 ^ (8 * m') % 256],a2,c2,by have:=Hm.out;show m'+(j+1)=8;omega,by rw [← Nat.add_assoc],rfl,by show iv - 1=(m':Int) - 1;omega,?_,?_,(HB.out.alloc HB.out.size _).grown hgr (by have:=HB.out.size;simp;omega) (own_block HO.out)⟩
            · show pre ++ [x / 2 ^ (8 * m') % 256] ++ Dg.be x m'=Dg.be x 8
              rw [← Hp.out];simp [Dg.be]
            · have e8:(8 * iv).toNat=8 * m':=by omega
              rw [e8] at hown2;unfold Hid;rw [← Nat.add_assoc,← List.append_assoc,List.map_append];exact hown2
          case measure=>simp [intOf];omega
        · have hm0:m=0:=by have:=Hi.out;omega
          have hj8:j=8:=by have:=Hm.out;omega
          have HJ:=hide hj8;have HM0:=hide hm0;clear hj8 hm0
          go_wp2_with fail
          go_ret
          have hp:=Hp.out;rw [HM0.out] at hp;simp only [Dg.be,List.append_nil] at hp
          have ht:128 :: List.replicate k (0:Int) ++ pre=Dg.tail n:=by
            unfold Dg.tail;rw [HQ.out,HKQ.out,← HX.out,hp];simp [Dg.be]
          have hown:=HO.out;rw [ht] at hown;refine ⟨a,1+k+j,?_,c,rfl,(own_isB' hown (Dg.b8_of_mem (Dg.tail_mem _))).1,HB.out⟩;show 1+k+j=_
          rw [Dg.tail_length,HQ.out,HKQ.out,HJ.out];omega
end Go.Proofs.YtapcmbbhhclepaaGreatDoor.Dig
namespace Go.Proofs.YtapcmbbhhclepaaGreatDoor.Dig
open Go.RowKit
theorem bytes_isB (w:World) (s:ByteArray) (hs:s.size≤1000000):IsB (Lib.bytesWorld w 5 s) (some ⟨w.heap.size,0,none⟩) s.size (grownCap w s.size 0 5) (Sl.ints s.data.toList):=by
  refine ⟨by simp [Sl.ints,← Lib.size_eq],grownCap_ge _ _ _ _,Nat.le_trans (grownCap_le_maxLen w s.size 0 5 (by simp [maxLen];omega)) (by simp [maxLen]),Dg.b8_of_mem fun x hx=>?_,.inr ⟨_,rfl,fun _=>⟨_,0,rfl,fun i hi=>?_⟩⟩⟩
  · unfold Sl.ints at hx
    obtain ⟨c,_,rfl⟩:=List.mem_map.1 hx;have:=c.toNat_lt
    omega
  · have hi':i < s.size:=by simpa [Sl.ints,← Lib.size_eq] using hi
    have hil:i < s.data.toList.length:=by rw [← Lib.size_eq];exact hi'
    rw [Nat.zero_add,Lib.bytesWorld_cell w 5 s i hi'];simp [Sl.ints,List.getD,List.getElem?_eq_getElem hil]
theorem below_bytes (w:World) (s:ByteArray):Below w.heap.size w (Lib.bytesWorld w 5 s) :=
  ⟨rfl,rfl,rfl,by rw [Lib.bytesWorld_size];omega,fun k hk=>Lib.bytesWorld_at_old w 5 s k hk⟩
theorem str_of (l:List UInt8):(⟨l.toArray⟩:ByteArray).data.toList=l:=by simp
theorem str_size (l:List UInt8):(⟨l.toArray⟩:ByteArray).size=l.length:=by rw [Lib.size_eq,str_of]
theorem str_app (a b:List UInt8):(⟨a.toArray⟩:ByteArray) ++ ⟨b.toArray⟩=⟨(a ++ b).toArray⟩:=by
  apply ByteArray.ext
  rw [ByteArray.data_append];simp
set_option maxHeartbeats 1000000 in
theorem ident_any (s:ByteArray) (w:World) (hs:s.size≤1000000) (hC:Cubes w) :
    Calls Tryz.prog 49 #[.string s] w fun e w'=>e=.returned (.string ⟨(Sl.ident s.data.toList).toArray⟩)∧Below w.heap.size w w':=by
  have HC:=hide hC;have hcv:=Lib.run_convert_string_bytes (P:=Tryz.prog) w 9 22 5 s Tryz.underlying9 Tryz.underlying22 Tryz.underlying5;have HI:=hide (bytes_isB w s hs);have b0:=below_bytes w s;have HB0:=hide b0;have HC0:=hide (HC.out.below' b0);clear hC b0;generalize Lib.bytesWorld w 5 s=w1 at hcv HI HB0 HC0;generalize grownCap w s.size 0 5=c1 at hcv HI;go_enter Tryz.func49,Tryz.ntmps49
  go_wp2_with fail
  refine (digestI _ _ _ _ _ HI.out HC0.out (by omega)).mono ?_;rintro e w2 ⟨g2,rfl,hI2,_,b2⟩;have HI2:=hide hI2;have HB2:=hide (bthen HB0.out b2);clear hI2 b2 hcv
  go_wp2_with fail
  refine (sealText_any _ _ _ _ _ HI2.out (by omega)).mono ?_;rintro e w3 ⟨rfl,b3⟩;have HB3:=hide (bthen HB2.out b3);clear b3;have hl:(Sl.text (Dg.sha (Sl.ints s.data.toList))).length≤43:=by rw [Sl.text_length,Dg.sha_length];omega
  have hz:=str_size (Sl.text (Dg.sha (Sl.ints s.data.toList)));have happ:=str_app [36] (Sl.text (Dg.sha (Sl.ints s.data.toList)));have HApp:=hide happ;clear happ;generalize hT:(⟨(Sl.text (Dg.sha (Sl.ints s.data.toList))).toArray⟩:ByteArray)=T at hz HApp ⊢
  go_wp2_with fail
  go_ret
  refine ⟨?_,HB3.out⟩;have:=HApp.out
  show Ending.returned (.string (({ data:=#[36] }:ByteArray) ++ T))=_
  rw [show (({ data:=#[36] }:ByteArray) ++ T)=_ from this];rfl
end Go.Proofs.YtapcmbbhhclepaaGreatDoor.Dig
namespace Go.Proofs.YtapcmbbhhclepaaGreatDoor.Dig
open Go.RowKit
theorem signs_one':∀ p:Fin 64,(signsB.extract p.val (p.val+1)).data.toList=[Sl.sgn (p.val:Int)]:=by decide +kernel
theorem signs_one {p:Int} (h0:0≤p) (h1:p < 64):signsB.extract p.toNat (p+1).toNat=⟨[Sl.sgn p].toArray⟩:=by
  have h:=signs_one' ⟨p.toNat,by omega⟩;simp only at h;rw [show (p+1).toNat=p.toNat+1 by omega];have e:((p.toNat:Nat):Int)=p:=by omega
  rw [e] at h;generalize signsB.extract p.toNat (p.toNat+1)=X at h ⊢;cases X
  simp at h;simp;rw [← h]
end Go.Proofs.YtapcmbbhhclepaaGreatDoor.Dig
namespace Go.Proofs.YtapcmbbhhclepaaGreatDoor.Dig
open Go.RowKit
def na (g:List Int):Nat→Int
  | 0=>0
  | k+1=>256 * na g k+g[k]?.getD 0
theorem na_le (g:List Int) (h:Dg.B8 g):∀ k,0≤na g k∧na g k < 256 ^ k
  | 0=>by simp [na]
  | k+1=>by
    have h1:=na_le g h k;have h2:=h k;simp only [na,Int.pow_succ];omega
theorem na_three (g:List Int) (h3:g.length≤3):na g 3=Sl.tog 8 g 0:=by
  match g,h3 with
  | [],_=>simp [na,Sl.tog]
  | [a],_=>simp [na,Sl.tog];omega
  | [a,b],_=>simp [na,Sl.tog];omega
  | [a,b,c],_=>simp [na,Sl.tog];omega
set_option maxRecDepth 100000 in
set_option maxHeartbeats 2000000 in
theorem refText_any (bs:List Int) (a:Option Addr) (len cap:Nat) (w:World) (hB:IsB w a len cap bs) (hl:len≤1000000) :
    Calls Tryz.prog 67 #[.slice a len cap] w fun e w'=>e=.returned (.string ⟨(Sl.text bs).toArray⟩)∧w'=w:=by
  have HB:=hide hB;have hlc:=hB.2.1;have hcx:=hB.2.2.1;clear hB;go_enter Tryz.func67,Tryz.ntmps67
  go_wp2_with fail
  go_loop [3,4] (fun s i=>∃ (q e:Nat) (S:ByteArray),Hid (e=3 * q)∧e≤len+2∧i=.int .i64 e∧s=.string S∧Hid (S=⟨(Sl.text (bs.take e)).toArray⟩)∧S.size≤2 * e) (fun _ i=>len+3 - (intOf i).toNat)
  case atStart=>exact ⟨0,0,ByteArray.empty,rfl,by omega,rfl,rfl,rfl,by decide⟩
  case round =>
    obtain ⟨q,e,S,HQ,he,rfl,rfl,HS,hsz⟩:=hrel
    by_cases hlt:e < len
    · obtain ⟨m,hm⟩:∃ m,m=min (len - e) 3:=⟨_,rfl⟩
      have hmn:min ((len:Int) - (e:Int)) 3=(m:Int):=by omega
      have hm3:m≤3:=by omega
      have hem:e+m≤len:=by omega
      have hm0:0 < m:=by omega
      obtain ⟨g,hg⟩:∃ g,g=(bs.drop e).take 3:=⟨_,rfl⟩;have hgl:g.length=m:=by rw [hg,List.length_take,List.length_drop,HB.out.1,hm];omega
      have hg8:Dg.B8 g:=by rw [hg];exact fun i=>take_bytes (fun i=>by rw [List.getElem?_drop];exact HB.out.2.2.2.1 _) 3 i
      have HG:=hide hg;have HGl:=hide hgl;have HG8:=hide hg8;have HM:=hide hm;clear hg hgl hg8 hm
      go_upto_region 7 with fail
      try simp only [hmn]
      clear hmn
      go_wp2_with fail
      go_loop [5,7] (fun n k=>∃ (j:Nat) (x:Int),j≤3∧k=.int .i64 j∧n=.int .i64 x∧Hid (x=na g j)∧0≤x∧x < 16777216) (fun _ k=>3 - (intOf k).toNat)
      case atStart=>exact ⟨0,0,by omega,rfl,rfl,rfl,by omega,by omega⟩
      case round =>
        obtain ⟨j,x,hj,rfl,rfl,HX,hx0,hx1⟩:=hrel
        by_cases hj3:j < 3
        · have hna:=na_le g HG8.out (j+1)
          have hnx:=na_le g HG8.out j;rw [← HX.out] at hnx
          have hxb:x < 65536:=by
            have:j=0∨j=1∨j=2:=by omega
            rcases this with rfl | rfl | rfl <;> simp at hnx <;> omega
          have hnb:na g (j+1) < 16777216:=by
            have:j=0∨j=1∨j=2:=by omega
            rcases this with rfl | rfl | rfl <;> simp at hna ⊢ <;> omega
          have HNa:=hide hna;clear hnx hna
          by_cases hjm:j < m
          · obtain ⟨h1,h2,h3,h4,h5⟩:=HB.out
            rcases h5 with ⟨_,h5⟩ | ⟨xa,rfl,h6⟩
            · omega
            · obtain ⟨b,o,rfl,hR⟩:=h6 (by omega)
              have hc:=hR (e+j) (by omega);have h8:=h4 (e+j);obtain ⟨v,hv⟩:∃ v,v=bs[e+j]?.getD 0:=⟨_,rfl⟩;rw [← hv] at hc h8;have hgv:g[j]?.getD 0=v:=by rw [HG.out,List.getElem?_take,if_pos (by omega),List.getElem?_drop,hv]
              have HGv:=hide hgv;have hidx:(e:Int)+(j:Int)=((e+j:Nat):Int):=by omega
              obtain ⟨ej,hej⟩:∃ ej,ej=e+j:=⟨_,rfl⟩;rw [← hej] at hc hidx;have hejl:ej < len:=by omega
              clear hv h1 h4 h6 hR hgv hej
              go_wp2_with fail
              go_round
              case rel =>
                refine ⟨j+1,256 * x+v,by omega,by go_num,rfl,?_,by omega,?_⟩
                · show 256 * x+v=na g (j+1)
                  rw [na,← HX.out,HGv.out]
                · have:256 * x+v=na g (j+1):=by rw [na,← HX.out,HGv.out]
                  rw [this];exact hnb
              case measure=>simp [intOf];omega
          · have hg0:g[j]?.getD 0=0:=by rw [List.getElem?_eq_none (by rw [HGl.out];omega)];rfl
            have HG0:=hide hg0;clear hg0
            go_wp2_with fail
            go_round
            case rel =>
              have:256 * x=na g (j+1):=by rw [na,← HX.out,HG0.out];omega
              exact ⟨j+1,256 * x,by omega,by go_num,rfl,this,by omega,by rw [this];exact hnb⟩
            case measure=>simp [intOf];omega
        · have hj3e:j=3:=by omega
          have hxT:x=Sl.tog 8 g 0:=by rw [HX.out,hj3e];exact na_three g (by rw [HGl.out];exact hm3)
          have HXT:=hide hxT;clear hxT hj3e
          go_wp2_with fail
          go_loop [3,8] (fun s k=>∃ (j:Nat) (S':ByteArray),j≤m+1∧k=.int .i64 j∧s=.string S'∧Hid (S'=⟨(Sl.text (bs.take e) ++ (Sl.pieces x 6 j).map Sl.sgn).toArray⟩)∧S'.size≤2 * e+j) (fun _ k=>5 - (intOf k).toNat)
          case atStart=>exact ⟨0,S,by omega,rfl,rfl,by show S=_;rw [HS.out];simp [Sl.pieces],by omega⟩
          case round =>
            obtain ⟨j2,S',hj2,rfl,rfl,HS',hsz'⟩:=hrel
            by_cases hjl:j2≤m
            · have hp:0≤Sl.piece x j2 6∧Sl.piece x j2 6 < 64:=by unfold Sl.piece;simp;omega
              obtain ⟨p,hpe⟩:∃ p,p=Sl.piece x j2 6:=⟨_,rfl⟩;rw [← hpe] at hp;have HPe:=hide hpe
              have hgo:S' ++ signsB.extract p.toNat (p+1).toNat=⟨(Sl.text (bs.take e) ++ (Sl.pieces x 6 (j2+1)).map Sl.sgn).toArray⟩:=by
                rw [signs_one hp.1 hp.2,HS'.out,str_app,Sl.pieces_succ,List.map_append,← List.append_assoc,hpe];rfl
              have HGo:=hide hgo
              have hgs:(S' ++ signsB.extract p.toNat (p+1).toNat).size≤2 * e+(j2+1):=by
                rw [ByteArray.size_append,ByteArray.size_extract];show S'.size+(min (p+1).toNat 64 - p.toNat)≤_
                omega
              have hjc:j2=0∨j2=1∨j2=2∨j2=3:=by omega
              clear hgo;have hpx:p=x / 2 ^ (24 - 6 * (j2+1)) % 64:=by rw [hpe];rfl
              clear hpe;rcases hjc with rfl | rfl | rfl | rfl
              · have hd:x / 262144 % 64=p:=by rw [hpx];simp
                clear hpx
                go_wp2_with fail
                go_round
                case rel=>exact ⟨1,S' ++ signsB.extract p.toNat (p+1).toNat,by omega,rfl,rfl,HGo,hgs⟩
                case measure=>simp [intOf]
              · have hd:x / 4096 % 64=p:=by rw [hpx];simp
                clear hpx
                go_wp2_with fail
                go_round
                case rel=>exact ⟨2,S' ++ signsB.extract p.toNat (p+1).toNat,by omega,rfl,rfl,HGo,hgs⟩
                case measure=>simp [intOf]
              · have hd:x / 64 % 64=p:=by rw [hpx];simp
                clear hpx
                go_wp2_with fail
                go_round
                case rel=>exact ⟨3,S' ++ signsB.extract p.toNat (p+1).toNat,by omega,rfl,rfl,HGo,hgs⟩
                case measure=>simp [intOf]
              · have hd:x % 64=p:=by rw [hpx];simp
                clear hpx
                go_wp2_with fail
                go_round
                case rel=>exact ⟨4,S' ++ signsB.extract p.toNat (p+1).toNat,by omega,rfl,rfl,HGo,hgs⟩
                case measure=>simp [intOf]
            · have hj2e:j2=m+1:=by omega
              have HJ2:=hide hj2e;clear hj2e
              go_wp2_with fail
              go_round
              case rel =>
                refine ⟨q+1,e+3,S',by have:=HQ.out;show e+3=3 * (q+1);omega,by omega,by go_num,rfl,?_,by omega⟩;show S'=_
                rw [HS'.out,HJ2.out];have et:bs.take (e+3)=bs.take e ++ g:=by rw [HG.out,List.take_add]
                have ebl:=HB.out.1;rw [et,Sl.text_append (by rw [List.length_take,ebl,HQ.out];have:=HQ.out;omega)]
                have eg:Sl.text g=(Sl.pieces x 6 (m+1)).map Sl.sgn:=by
                  unfold Sl.text;rw [Sl.nums_group g (y8_of HG8.out) (by rw [HGl.out];exact hm0) (by rw [HGl.out];exact hm3),HGl.out,HXT.out]
                rw [eg]
              case measure=>simp [intOf];omega
    · go_wp2_with fail
      go_ret
      refine ⟨?_,rfl⟩;have:=HS.out
      rw [List.take_of_length_le (by rw [HB.out.1];omega)] at this;rw [← this];rfl
end Go.Proofs.YtapcmbbhhclepaaGreatDoor.Dig
namespace Go.Proofs.YtapcmbbhhclepaaGreatDoor.Dig
open Go.RowKit
namespace Dg
theorem sch_keep (l:List Int) (n j:Nat) (hj:j < 16+n):∀ m,(sch l (n+m))[j]? = (sch l n)[j]?
  | 0=>rfl
  | m+1=>by
    rw [← Nat.add_assoc,sch,List.getElem?_set,if_neg (by omega)];exact sch_keep l n j hj m
theorem sch_at (l:List Int) (n m:Nat) (hl:16+n < l.length) (hm:n+1≤m) :
    (sch l m)[16+n]?.getD 0=(s1 ((sch l m)[14+n]?.getD 0)+(sch l m)[9+n]?.getD 0+s0 ((sch l m)[1+n]?.getD 0)+(sch l m)[n]?.getD 0) % 4294967296:=by
  obtain ⟨d,rfl⟩:∃ d,m=n+1+d:=⟨m - (n+1),by omega⟩
  have k1:∀ j,j < 16+n→(sch l (n+1+d))[j]? = (sch l n)[j]? := fun j hj=>by
    have:=sch_keep l n j hj (1+d)
    rw [← Nat.add_assoc] at this;exact this
  rw [sch_keep l (n+1) (16+n) (by omega) d,k1 _ (by omega),k1 _ (by omega),k1 _ (by omega),k1 _ (by omega),sch,List.getElem?_set,if_pos rfl,if_pos (by rw [sch_length];exact hl)];rfl
theorem spread_at (bs:List Int) (t:Nat) (h1:16≤t) (h2:t < 64) :
    (spread bs)[t]?.getD 0=(s1 ((spread bs)[t - 2]?.getD 0)+(spread bs)[t - 7]?.getD 0+s0 ((spread bs)[t - 15]?.getD 0)+(spread bs)[t - 16]?.getD 0) % 4294967296:=by
  obtain ⟨n,rfl⟩:∃ n,t=16+n:=⟨t - 16,by omega⟩;rw [show 16+n - 2=14+n by omega,show 16+n - 7=9+n by omega,show 16+n - 15=1+n by omega,show 16+n - 16=n by omega];exact sch_at (acc bs 64) n 48 (by rw [acc_length];omega) (by omega)
theorem acc_keep (bs:List Int) (k j:Nat) (hj:4 * j+4≤k):∀ m,(acc bs (k+m))[j]? = (acc bs k)[j]?
  | 0=>rfl
  | m+1=>by
    rw [← Nat.add_assoc,acc,List.getElem?_set,if_neg (by omega)];exact acc_keep bs k j hj m
theorem acc_ahead (bs:List Int) (j:Nat) (hj:j < 64):∀ k,k≤4 * j→(acc bs k)[j]? = some 0
  | 0,_=>by
    show (List.replicate 64 (0:Int))[j]? = some 0
    rw [List.getElem?_replicate,if_pos hj]
  | k+1,h=>by
    rw [acc,List.getElem?_set,if_neg (by omega)];exact acc_ahead bs j hj k (by omega)
theorem acc_step (bs:List Int) (k j:Nat) (hk:k / 4=j) (hj:j < 64):(acc bs (k+1))[j]?.getD 0=bits .or .u32 ((acc bs k)[j]?.getD 0 * 256 % 4294967296) (bs[k]?.getD 0):=by
  rw [acc,hk,List.getElem?_set,if_pos rfl,if_pos (by rw [acc_length];exact hj)];rfl
def wd (bs:List Int) (i:Nat):Int:=bits .or .u32 (bits .or .u32 (bits .or .u32 (bs[4 * i]?.getD 0 * 16777216) (bs[4 * i+1]?.getD 0 * 65536)) (bs[4 * i+2]?.getD 0 * 256)) (bs[4 * i+3]?.getD 0)
theorem join32 {x y:Int} (hy0:0≤y) (hy:y < 256) (hx0:0≤x) (hx:x < 16777216):bits .or .u32 (x * 256 % 4294967296) y=x * 256+y:=by
  rw [bits_or_comm,u32_or8 _ _ hy0 hy (by omega) (by omega) (by omega)];omega
theorem wd_acc (bs:List Int) (h8:B8 bs) (i:Nat) (hi:i < 16):(acc bs 64)[i]?.getD 0=wd bs i:=by
  have k64:=acc_keep bs (4 * i+4) i (Nat.le_refl _) (64 - (4 * i+4));rw [show 4 * i+4+(64 - (4 * i+4))=64 by omega] at k64;rw [k64];have y0:=h8 (4 * i);have y1:=h8 (4 * i+1);have y2:=h8 (4 * i+2);have y3:=h8 (4 * i+3)
  have e0:(acc bs (4 * i+1))[i]?.getD 0=bs[4 * i]?.getD 0:=by
    rw [acc_step bs (4 * i) i (by omega) (by omega),acc_ahead bs i (by omega) (4 * i) (Nat.le_refl _)];rw [Option.getD_some,join32 y0.1 (by omega) (by omega) (by omega)];omega
  have e1:(acc bs (4 * i+2))[i]?.getD 0=bs[4 * i]?.getD 0 * 256+bs[4 * i+1]?.getD 0:=by
    rw [acc_step bs (4 * i+1) i (by omega) (by omega),e0,join32 y1.1 (by omega) y0.1 (by omega)]
  have e2:(acc bs (4 * i+3))[i]?.getD 0=(bs[4 * i]?.getD 0 * 256+bs[4 * i+1]?.getD 0) * 256+bs[4 * i+2]?.getD 0:=by
    rw [acc_step bs (4 * i+2) i (by omega) (by omega),e1,join32 y2.1 (by omega) (by omega) (by omega)]
  rw [acc_step bs (4 * i+3) i (by omega) (by omega),e2,join32 y3.1 (by omega) (by omega) (by omega)]
  have f1:bits .or .u32 (bs[4 * i]?.getD 0 * 16777216) (bs[4 * i+1]?.getD 0 * 65536)=bs[4 * i+1]?.getD 0 * 65536+bs[4 * i]?.getD 0 * 16777216:=by
    rw [bits_or_comm];exact u32_or24 _ _ (by omega) (by omega) (by omega) (by omega) (by omega)
  have f2:bits .or .u32 (bs[4 * i+1]?.getD 0 * 65536+bs[4 * i]?.getD 0 * 16777216) (bs[4 * i+2]?.getD 0 * 256)=bs[4 * i+2]?.getD 0 * 256+(bs[4 * i+1]?.getD 0 * 65536+bs[4 * i]?.getD 0 * 16777216):=by
    rw [bits_or_comm];exact u32_or16 _ _ (by omega) (by omega) (by omega) (by omega) (by omega)
  have f3:bits .or .u32 (bs[4 * i+2]?.getD 0 * 256+(bs[4 * i+1]?.getD 0 * 65536+bs[4 * i]?.getD 0 * 16777216)) (bs[4 * i+3]?.getD 0)=bs[4 * i+3]?.getD 0+(bs[4 * i+2]?.getD 0 * 256+(bs[4 * i+1]?.getD 0 * 65536+bs[4 * i]?.getD 0 * 16777216)):=by
    rw [bits_or_comm];exact u32_or8 _ _ (by omega) (by omega) (by omega) (by omega) (by omega)
  unfold wd;rw [f1,f2,f3];omega
theorem spread_front (bs:List Int) (h8:B8 bs) (i:Nat) (hi:i < 16):(spread bs)[i]?.getD 0=wd bs i:=by
  rw [← wd_acc bs h8 i hi];unfold spread;have:=sch_keep (acc bs 64) 0 i (by omega) 48
  rw [Nat.zero_add] at this;rw [this];rfl
theorem spread_succ (bs:List Int) (t:Nat) (h:t < 64):(spread bs).take (t+1)=(spread bs).take t ++ [(spread bs)[t]?.getD 0]:=by
  rw [List.take_succ_eq_append_getElem (by rw [spread_length];exact h),List.getElem?_eq_getElem (by rw [spread_length];exact h)];rfl
end Dg
end Go.Proofs.YtapcmbbhhclepaaGreatDoor.Dig
