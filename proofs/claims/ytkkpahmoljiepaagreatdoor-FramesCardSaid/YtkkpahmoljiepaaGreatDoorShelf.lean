import Derived.Shelf.Strings.OnBuilder
import Derived.Shelf.Small.Wraps
import Derived.Shelf.Strconv.Itoa0
import Derived.Shelf.Strconv.AtoiAll
import Derived.Shelf.Pu.ParseUintPublic10
import Derived.Shelf.Strings.Shaped
import Derived.Shelf.Strings.LastIndex
import Derived.Shelf.Strings.SplitShaped
import Derived.Shelf.Unicode.DecodeSlow
import Derived.Shelf.Slices.Turned
import Derived.Test.YtkkpahmoljiepaaGreatDoorProg
set_option linter.unusedSimpArgs false
set_option linter.unusedVariables false
namespace Go.Proofs
open Go.Shelf Tryz
theorem ShLay{P:Prop}(h:P:=by constructor<;>first|kernel_rfl|(intro _;kernel_rfl)|decide|(constructor<;>first|kernel_rfl|(intro _;kernel_rfl)|decide)):P:=h
theorem bO{α:Type}{o:Option α}{a b:α}(h:o=some a)(e:a=b:=by kernel_rfl):o=some b:=h.trans (congrArg some e)
def Tryz.lays156_ren:Go.Shelf.Ren:=⟨fun|156=>253|165=>277|166=>278|169=>279|240=>291|241=>292|276=>301|277=>302|n=>n,fun|31=>49|9=>9|3=>3|4=>4|0=>0|20=>20|72=>366|76=>362|70=>364|37=>58|75=>361|127=>256|164=>384|5=>5|80=>269|n=>n,fun|n=>n⟩
theorem Tryz.lays156:Go.Proofs.Lays.n156 prog Tryz.lays156_ren:=ShLay
theorem Tryz.Builder_Extra_156:Builder.Extra prog Tryz.lays156_ren:=ShLay
def Tryz.anv:Go.Shelf.Ren:=⟨fun|103=>98|210=>166|206=>226|n=>n,fun|9=>9|4=>4|24=>68|3=>3|n=>n,fun|n=>n⟩
theorem Tryz.anw:Go.Proofs.Lays.n103 prog Tryz.anv:=ShLay
open Go.RowKit in
theorem Tryz.strings_CutPrefix(s p:ByteArray)(w:World) :
  Calls prog 98 #[.string s,.string p] w fun e w'=>e=.returned (.tuple #[.string ⟨(Lib.trimPrefix s.data.toList p.data.toList).toArray⟩,.bool (Lib.hasPrefix s.data.toList p.data.toList)])/\w'=w:=Any.strings_CutPrefix Tryz.anw s p w
def Tryz.anx:Go.Shelf.Ren:=⟨fun|104=>96|211=>164|207=>222|n=>n,fun|9=>9|4=>4|24=>68|3=>3|n=>n,fun|n=>n⟩
theorem Tryz.anz:Go.Proofs.Lays.n104 prog Tryz.anx:=ShLay
open Go.RowKit in
theorem Tryz.strings_CutSuffix(s p:ByteArray)(w:World)(hs:s.size<=9223372036854775807) :
  Calls prog 96 #[.string s,.string p] w fun e w'=>e=.returned (.tuple #[.string ⟨(Lib.trimSuffix s.data.toList p.data.toList).toArray⟩,.bool (Lib.hasSuffix s.data.toList p.data.toList)])/\w'=w:=Any.strings_CutSuffix Tryz.anz s p w hs
def Tryz.anA:Go.Shelf.Ren:=⟨fun|122=>106|215=>175|n=>n,fun|3=>3|4=>4|n=>n,fun|n=>n⟩
theorem Tryz.anB:Go.Proofs.Lays.n122 prog Tryz.anA:=ShLay
open Go.RowKit in
theorem Tryz.cmp_Compare_int(x y:Int)(w:World) :
  Calls prog 106 #[.int .i64 x,.int .i64 y] w fun e w'=>e=.returned (.int .i64 (Lib.compareInt x y))/\w'=w:=Any.cmp_Compare_int Tryz.anB x y w
def Tryz.anC:Go.Shelf.Ren:=⟨fun|172=>274|244=>289|245=>290|247=>296|279=>297|280=>298|281=>299|282=>300|287=>303|316=>100|171=>305|205=>304|321=>306|322=>307|243=>308|246=>309|283=>310|284=>311|285=>312|286=>313|129=>315|317=>314|318=>316|319=>317|320=>318|337=>319|338=>320|n=>n,fun|9=>9|3=>3|75=>361|76=>362|4=>4|5=>5|167=>378|37=>58|0=>0|85=>379|2=>2|168=>381|53=>253|175=>370|46=>280|210=>388|127=>256|145=>393|143=>391|21=>21|171=>395|173=>398|212=>401|51=>315|20=>20|213=>402|232=>405|233=>406|80=>269|n=>n,fun|15=>3|16=>4|17=>5|18=>6|19=>7|n=>n⟩
theorem Tryz.lays172:Go.Proofs.Lays.n172 prog Tryz.anC:=ShLay
open Go.RowKit in
theorem Tryz.strconv_Atoi(s:ByteArray)(n:Int)(hl:s.size<=18)(h:Lib.atoi s.data.toList=some n)(w:World) :
  Calls prog 274 #[.string s] w fun e w'=>e=.returned (.tuple #[.int .i64 n,.nilIface])/\∃t,w'=Lib.bytesWorld w 5 t:=Any.strconv_Atoi Tryz.lays172 s n hl h w
def Tryz.anD:Go.Shelf.Ren:=⟨fun|316=>100|n=>n,fun|9=>9|3=>3|4=>4|37=>58|0=>0|127=>256|5=>5|n=>n,fun|n=>n⟩
theorem Tryz.laysM316:Go.Proofs.LaysM.n316 prog Tryz.anD:=ShLay
open Go.RowKit in
theorem Tryz.stringslite_Clone(s:ByteArray)(w:World)(Qv:s.size<=281474976710656) :
  Calls prog 100 #[.string s] w fun e w'=>e=.returned (.string s)/\Below w.heap.size w w':=Any.stringslite_Clone Tryz.laysM316 s w Qv
def Tryz.anE:Go.Shelf.Ren:=⟨fun|14=>293|16=>303|17=>290|19=>306|20=>307|21=>297|22=>298|23=>299|24=>300|25=>100|27=>305|26=>304|28=>308|29=>309|30=>310|31=>311|32=>312|33=>313|35=>315|34=>314|36=>316|37=>317|38=>318|39=>319|40=>320|n=>n,fun|9=>9|3=>3|22=>253|24=>361|25=>370|4=>4|34=>378|5=>5|36=>280|37=>58|0=>0|39=>381|21=>21|44=>388|47=>256|50=>393|48=>391|2=>2|52=>395|55=>398|59=>401|60=>315|20=>20|61=>402|65=>405|66=>406|67=>269|n=>n,fun|0=>3|1=>4|2=>5|3=>6|4=>7|n=>n⟩
theorem Tryz.laysPu14:Go.Proofs.LaysPu.n14 prog Tryz.anE:=ShLay
open Go.RowKit in
theorem Tryz.strconv_ParseUint_10_at64_ok(s:ByteArray)(hmax:s.size<=9223372036854775806)(u:Nat)(h:Lib.parseUintB 64 s.data.toList=.ok u)(w:World) :
  Calls prog 293 #[.string s,.int .i64 10,.int .i64 64] w fun e w'=>e=.returned (.tuple #[.int .u64 u,.nilIface])/\(w'=w\/w'=Lib.bytesWorld w 5 s):=Any.strconv_ParseUint_10_at64_ok Tryz.laysPu14 s hmax u h w
def Tryz.anF:Go.Shelf.Ren:=⟨fun|145=>242|220=>268|219=>266|217=>284|225=>285|224=>286|267=>287|266=>294|314=>295|n=>n,fun|9=>9|4=>4|59=>330|3=>3|5=>5|46=>280|146=>376|51=>315|n=>n,fun|1=>0|n=>n⟩
theorem Tryz.lays145:Go.Proofs.Lays.n145 prog Tryz.anF:=ShLay
open Go.RowKit Go.Lib in
theorem Tryz.strings_Cut(s sep:ByteArray)(m:Int)(w:World)(hs:s.size<4294967281)(hm:w.cell? ⟨0,0,none⟩=some (.int .i64 m)) :
  Calls prog 242 #[.string s,.string sep] w fun e w'=>e=.returned (.tuple #[.string ⟨(Lib.cut s.data.toList sep.data.toList).1.toArray⟩,.string ⟨(Lib.cut s.data.toList sep.data.toList).2.1.toArray⟩,.bool (Lib.cut s.data.toList sep.data.toList).2.2])/\∃n,w'=w.drewN n:=Any.strings_Cut Tryz.lays145 s sep m w hs hm
def Tryz.anG:Go.Shelf.Ren:=⟨fun|149=>250|222=>276|n=>n,fun|9=>9|5=>5|3=>3|4=>4|n=>n,fun|n=>n⟩
theorem Tryz.lays149:Go.Proofs.Lays.n149 prog Tryz.anG:=ShLay
open Go.RowKit Go.Lib in
theorem Tryz.strings_LastIndexByte(s:ByteArray)(c:Int)(hs:s.size<4611686018427387904)(w:World) :
  Calls prog 250 #[.string s,.int .u8 c] w fun e w'=>e=.returned (.int .i64 (Lib.lastIndexByte s c))/\w'=w:=Any.strings_LastIndexByte Tryz.lays149 s c hs w
def Tryz.lays99_ren:Go.Shelf.Ren:=⟨fun|99=>190|206=>226|n=>n,fun|9=>9|4=>4|3=>3|n=>n,fun|n=>n⟩
theorem Tryz.lays99:Go.Proofs.Lays.n99 prog Tryz.lays99_ren:=ShLay
open Go.RowKit Go.Lib in
theorem Tryz.strings_HasPrefix(s p:ByteArray)(w:World) :
  Calls prog 190 #[.string s,.string p] w fun e w'=>e=.returned (.bool (Lib.hasPrefix s.data.toList p.data.toList))/\w'=w:=Any.strings_HasPrefix Tryz.lays99 s p w
def Tryz.lays100_ren:Go.Shelf.Ren:=⟨fun|100=>181|207=>222|n=>n,fun|9=>9|4=>4|3=>3|n=>n,fun|n=>n⟩
theorem Tryz.lays100:Go.Proofs.Lays.n100 prog Tryz.lays100_ren:=ShLay
open Go.RowKit Go.Lib in
theorem Tryz.strings_HasSuffix(s p:ByteArray)(w:World)(hs:s.size<=9223372036854775807) :
  Calls prog 181 #[.string s,.string p] w fun e w'=>e=.returned (.bool (Lib.hasSuffix s.data.toList p.data.toList))/\w'=w:=Any.strings_HasSuffix Tryz.lays100 s p w hs
def Tryz.lays146_ren:Go.Shelf.Ren:=⟨fun|146=>97|221=>165|268=>223|138=>224|143=>225|195=>263|197=>264|218=>265|219=>266|260=>283|217=>284|225=>285|224=>286|267=>287|266=>294|314=>295|n=>n,fun|9=>9|31=>49|3=>3|4=>4|0=>0|105=>357|21=>21|5=>5|46=>280|119=>372|139=>375|138=>374|146=>376|51=>315|n=>n,fun|1=>0|3=>1|4=>2|n=>n⟩
theorem Tryz.lays146:Go.Proofs.Lays.n146 prog Tryz.lays146_ren:=ShLay
open Go.RowKit Go.Lib in
theorem Tryz.strings_Split(s sep:ByteArray)(m:Int)(w:World)(hs:s.size<4294967281)(hm:w.cell? ⟨0,0,none⟩=some (.int .i64 m))(h1:1<=sep.size) :
  Calls prog 97 #[.string s,.string sep] w fun e w' =>
   e=.returned (.slice (some ⟨w.heap.size,0,none⟩) (Lib.countB s sep+1) (Lib.countB s sep+1))/\w'=w.alloc (.cells ((Lib.splitB sep 0 (Lib.countB s sep) s).map Value.string).toArray 9):=Any.strings_Split Tryz.lays146 (by kernel_rfl) s sep m w hs hm h1
def Tryz.lays147_ren:Go.Shelf.Ren:=⟨fun|147=>167|221=>165|268=>223|138=>224|143=>225|195=>263|197=>264|218=>265|219=>266|260=>283|217=>284|225=>285|224=>286|267=>287|266=>294|314=>295|n=>n,fun|9=>9|3=>3|31=>49|4=>4|0=>0|105=>357|21=>21|5=>5|46=>280|119=>372|139=>375|138=>374|146=>376|51=>315|n=>n,fun|1=>0|3=>1|4=>2|n=>n⟩
theorem Tryz.lays147:Go.Proofs.Lays.n147 prog Tryz.lays147_ren:=ShLay
open Go.RowKit Go.Lib in
theorem Tryz.strings_SplitN(s sep:ByteArray)(n:Nat)(m:Int)(w:World)(hs:s.size<4294967281)(hm:w.cell? ⟨0,0,none⟩=some (.int .i64 m))(h1:1<=sep.size)(hn:1<=n)(anH:n<=9223372036854775807) :
  Calls prog 167 #[.string s,.string sep,.int .i64 n] w fun e w' =>
   e=.returned (.slice (some ⟨w.heap.size,0,none⟩) (Lib.splitB sep 0 (min n (s.size+1) - 1) s).length (min n (s.size+1)))/\w'=w.alloc (.cells (Lib.cellsOf (Lib.splitB sep 0 (min n (s.size+1) - 1) s) (min n (s.size+1))) 9):=Any.strings_SplitN Tryz.lays147 (by kernel_rfl) s sep n m w hs hm h1 hn anH
def Tryz.lays110_ren:Go.Shelf.Ren:=⟨fun|110=>197|109=>251|n=>n,fun|31=>49|9=>9|4=>4|3=>3|0=>0|n=>n,fun|n=>n⟩
theorem Tryz.lays110:Go.Proofs.Lays.n110 prog Tryz.lays110_ren:=ShLay
open Go.Lib in
theorem Tryz.slices_Contains_string(b off n c:Nat)(zs:List ByteArray)(x:ByteArray)(w:World)(hz:n<=zs.length)(hbig:n<=9223372036854775807)(hc:∀j,j<zs.length->w.cell? ⟨b,off+j,none⟩=some (.string (zs.getD j ByteArray.empty))) :
  Calls prog 197 #[.slice (some ⟨b,off,none⟩) n c,.string x] w fun e w'=>e=.returned (.bool (Lib.containsS (zs.take n) x))/\w'=w:=Any.slices_Contains_string Tryz.lays110 b off n c zs x w hz hbig hc
open Go.Lib in
theorem Tryz.slices_Contains_string_empty(a:Option Addr)(c:Nat)(x:ByteArray)(w:World) :
  Calls prog 197 #[.slice a 0 c,.string x] w fun e w'=>e=.returned (.bool false)/\w'=w:=Any.slices_Contains_string_empty Tryz.lays110 a c x w
end Go.Proofs
