import Derived.Shelf.Strings.OnBuilder
import Derived.Shelf.Small.Wraps
import Derived.Shelf.Strconv.Itoa0
import Derived.Shelf.Strconv.AtoiAll
import Derived.Shelf.Pu.ParseUintPublic10
import Derived.Shelf.Strings.Shaped
import Derived.Shelf.Strings.LastIndex
import Derived.Shelf.Strings.SplitShaped
import Derived.Shelf.Unicode.DecodeSlow
import Derived.Shelf.Slices.Turned
import Derived.Test.YtkkpahmoljiepabGreatDoorProg
set_option linter.all false
namespace Go.Proofs
open Go.Shelf Tryz
theorem ShLay{P:Prop}(h:P:=by constructor<;>first|kernel_rfl|(intro _;kernel_rfl)|decide|(constructor<;>first|kernel_rfl|(intro _;kernel_rfl)|decide)):P:=h
theorem cg{α:Type}{o:Option α}{a b:α}(h:o=some a)(e:a=b:=by kernel_rfl):o=some b:=h.trans (congrArg some e)
def Tryz.lays156_ren:Go.Shelf.Ren:=⟨fun|156=>211|165=>241|166=>242|169=>243|240=>266|241=>267|276=>273|277=>274|n=>n,fun|31=>23|9=>9|3=>3|4=>4|0=>0|20=>20|72=>345|76=>348|70=>343|37=>53|75=>347|127=>241|164=>366|5=>5|80=>254|n=>n,fun|n=>n⟩
theorem Tryz.lays156:Go.Proofs.Lays.n156 prog Tryz.lays156_ren:=ShLay
theorem Tryz.Builder_Extra_156:Builder.Extra prog Tryz.lays156_ren:=ShLay
def Tryz.axH:Go.Shelf.Ren:=⟨fun|103=>74|210=>140|206=>196|n=>n,fun|9=>9|4=>4|24=>164|3=>3|n=>n,fun|n=>n⟩
theorem Tryz.axI:Go.Proofs.Lays.n103 prog Tryz.axH:=ShLay
open Go.RowKit in
theorem Tryz.strings_CutPrefix(s p:ByteArray)(w:World) :
  Calls prog 74 #[.string s,.string p] w λe w'=>e=.returned (.tuple #[.string ⟨(Lib.trimPrefix s.data.toList p.data.toList).toArray⟩,.bool (Lib.hasPrefix s.data.toList p.data.toList)])/\w'=w:=Any.strings_CutPrefix Tryz.axI s p w
def Tryz.axJ:Go.Shelf.Ren:=⟨fun|104=>72|211=>138|207=>192|n=>n,fun|9=>9|4=>4|24=>164|3=>3|n=>n,fun|n=>n⟩
theorem Tryz.axK:Go.Proofs.Lays.n104 prog Tryz.axJ:=ShLay
open Go.RowKit in
theorem Tryz.strings_CutSuffix(s p:ByteArray)(w:World)(hs:s.size<=9223372036854775807) :
  Calls prog 72 #[.string s,.string p] w λe w'=>e=.returned (.tuple #[.string ⟨(Lib.trimSuffix s.data.toList p.data.toList).toArray⟩,.bool (Lib.hasSuffix s.data.toList p.data.toList)])/\w'=w:=Any.strings_CutSuffix Tryz.axK s p w hs
def Tryz.axL:Go.Shelf.Ren:=⟨fun|122=>82|215=>149|n=>n,fun|3=>3|4=>4|n=>n,fun|n=>n⟩
theorem Tryz.axM:Go.Proofs.Lays.n122 prog Tryz.axL:=ShLay
open Go.RowKit in
theorem Tryz.cmp_Compare_int(x y:Int)(w:World) :
  Calls prog 82 #[.int .i64 x,.int .i64 y] w λe w'=>e=.returned (.int .i64 (Lib.compareInt x y))/\w'=w:=Any.cmp_Compare_int Tryz.axM x y w
def Tryz.axN:Go.Shelf.Ren:=⟨fun|172=>257|244=>269|245=>270|247=>276|279=>277|280=>278|281=>279|282=>280|287=>275|316=>76|171=>284|205=>283|321=>281|322=>282|243=>285|246=>286|283=>287|284=>288|285=>289|286=>290|129=>292|317=>291|318=>293|319=>294|320=>295|337=>296|338=>297|n=>n,fun|9=>9|3=>3|75=>347|76=>348|4=>4|5=>5|167=>369|37=>53|0=>0|85=>370|2=>2|168=>372|53=>238|175=>357|46=>255|210=>377|127=>241|145=>381|143=>379|21=>21|171=>383|173=>386|212=>389|51=>316|20=>20|213=>390|232=>393|233=>394|80=>254|n=>n,fun|15=>3|16=>4|17=>5|18=>6|19=>7|n=>n⟩
theorem Tryz.lays172:Go.Proofs.Lays.n172 prog Tryz.axN:=ShLay
open Go.RowKit in
theorem Tryz.strconv_Atoi(s:ByteArray)(n:Int)(hl:s.size<=18)(h:Lib.atoi s.data.toList=some n)(w:World) :
  Calls prog 257 #[.string s] w λe w'=>e=.returned (.tuple #[.int .i64 n,.nilIface])/\∃t,w'=Lib.bytesWorld w 5 t:=Any.strconv_Atoi Tryz.lays172 s n hl h w
def Tryz.axO:Go.Shelf.Ren:=⟨fun|316=>76|n=>n,fun|9=>9|3=>3|4=>4|37=>53|0=>0|127=>241|5=>5|n=>n,fun|n=>n⟩
theorem Tryz.laysM316:Go.Proofs.LaysM.n316 prog Tryz.axO:=ShLay
open Go.RowKit in
theorem Tryz.stringslite_Clone(s:ByteArray)(w:World)(XM:s.size<=281474976710656) :
  Calls prog 76 #[.string s] w λe w'=>e=.returned (.string s)/\Below w.heap.size w w':=Any.stringslite_Clone Tryz.laysM316 s w XM
def Tryz.axP:Go.Shelf.Ren:=⟨fun|14=>268|16=>275|17=>270|19=>281|20=>282|21=>277|22=>278|23=>279|24=>280|25=>76|27=>284|26=>283|28=>285|29=>286|30=>287|31=>288|32=>289|33=>290|35=>292|34=>291|36=>293|37=>294|38=>295|39=>296|40=>297|n=>n,fun|9=>9|3=>3|22=>238|24=>347|25=>357|4=>4|34=>369|5=>5|36=>255|37=>53|0=>0|39=>372|21=>21|44=>377|47=>241|50=>381|48=>379|2=>2|52=>383|55=>386|59=>389|60=>316|20=>20|61=>390|65=>393|66=>394|67=>254|n=>n,fun|0=>3|1=>4|2=>5|3=>6|4=>7|n=>n⟩
theorem Tryz.laysPu14:Go.Proofs.LaysPu.n14 prog Tryz.axP:=ShLay
open Go.RowKit in
theorem Tryz.strconv_ParseUint_10_at64_ok(s:ByteArray)(hmax:s.size<=9223372036854775806)(u:Nat)(h:Lib.parseUintB 64 s.data.toList=.ok u)(w:World) :
  Calls prog 268 #[.string s,.int .i64 10,.int .i64 64] w λe w'=>e=.returned (.tuple #[.int .u64 u,.nilIface])/\(w'=w\/w'=Lib.bytesWorld w 5 s):=Any.strconv_ParseUint_10_at64_ok Tryz.laysPu14 s hmax u h w
def Tryz.axQ:Go.Shelf.Ren:=⟨fun|145=>213|220=>244|219=>239|217=>261|225=>262|224=>263|267=>264|266=>271|314=>272|n=>n,fun|9=>9|4=>4|59=>312|3=>3|5=>5|46=>255|146=>364|51=>316|n=>n,fun|1=>0|n=>n⟩
theorem Tryz.lays145:Go.Proofs.Lays.n145 prog Tryz.axQ:=ShLay
open Go.RowKit Go.Lib in
theorem Tryz.strings_Cut(s sep:ByteArray)(m:Int)(w:World)(hs:s.size<4294967281)(hm:w.cell? ⟨0,0,none⟩=some (.int .i64 m)) :
  Calls prog 213 #[.string s,.string sep] w λe w'=>e=.returned (.tuple #[.string ⟨(Lib.cut s.data.toList sep.data.toList).1.toArray⟩,.string ⟨(Lib.cut s.data.toList sep.data.toList).2.1.toArray⟩,.bool (Lib.cut s.data.toList sep.data.toList).2.2])/\∃n,w'=w.drewN n:=Any.strings_Cut Tryz.lays145 s sep m w hs hm
def Tryz.axR:Go.Shelf.Ren:=⟨fun|149=>234|222=>259|n=>n,fun|9=>9|5=>5|3=>3|4=>4|n=>n,fun|n=>n⟩
theorem Tryz.lays149:Go.Proofs.Lays.n149 prog Tryz.axR:=ShLay
open Go.RowKit Go.Lib in
theorem Tryz.strings_LastIndexByte(s:ByteArray)(c:Int)(hs:s.size<4611686018427387904)(w:World) :
  Calls prog 234 #[.string s,.int .u8 c] w λe w'=>e=.returned (.int .i64 (Lib.lastIndexByte s c))/\w'=w:=Any.strings_LastIndexByte Tryz.lays149 s c hs w
def Tryz.lays99_ren:Go.Shelf.Ren:=⟨fun|99=>185|206=>196|n=>n,fun|9=>9|4=>4|3=>3|n=>n,fun|n=>n⟩
theorem Tryz.lays99:Go.Proofs.Lays.n99 prog Tryz.lays99_ren:=ShLay
open Go.RowKit Go.Lib in
theorem Tryz.strings_HasPrefix(s p:ByteArray)(w:World) :
  Calls prog 185 #[.string s,.string p] w λe w'=>e=.returned (.bool (Lib.hasPrefix s.data.toList p.data.toList))/\w'=w:=Any.strings_HasPrefix Tryz.lays99 s p w
def Tryz.lays100_ren:Go.Shelf.Ren:=⟨fun|100=>155|207=>192|n=>n,fun|9=>9|4=>4|3=>3|n=>n,fun|n=>n⟩
theorem Tryz.lays100:Go.Proofs.Lays.n100 prog Tryz.lays100_ren:=ShLay
open Go.RowKit Go.Lib in
theorem Tryz.strings_HasSuffix(s p:ByteArray)(w:World)(hs:s.size<=9223372036854775807) :
  Calls prog 155 #[.string s,.string p] w λe w'=>e=.returned (.bool (Lib.hasSuffix s.data.toList p.data.toList))/\w'=w:=Any.strings_HasSuffix Tryz.lays100 s p w hs
def Tryz.lays146_ren:Go.Shelf.Ren:=⟨fun|146=>73|221=>139|268=>193|138=>194|143=>195|195=>236|197=>237|218=>238|219=>239|260=>260|217=>261|225=>262|224=>263|267=>264|266=>271|314=>272|n=>n,fun|9=>9|31=>23|3=>3|4=>4|0=>0|105=>341|21=>21|5=>5|46=>255|119=>360|139=>363|138=>362|146=>364|51=>316|n=>n,fun|1=>0|3=>1|4=>2|n=>n⟩
theorem Tryz.lays146:Go.Proofs.Lays.n146 prog Tryz.lays146_ren:=ShLay
open Go.RowKit Go.Lib in
theorem Tryz.strings_Split(s sep:ByteArray)(m:Int)(w:World)(hs:s.size<4294967281)(hm:w.cell? ⟨0,0,none⟩=some (.int .i64 m))(h1:1<=sep.size) :
  Calls prog 73 #[.string s,.string sep] w λe w'=>
   e=.returned (.slice (some ⟨w.heap.size,0,none⟩) (Lib.countB s sep+1) (Lib.countB s sep+1))/\w'=w.alloc (.cells ((Lib.splitB sep 0 (Lib.countB s sep) s).map Value.string).toArray 9):=Any.strings_Split Tryz.lays146 (by kernel_rfl) s sep m w hs hm h1
def Tryz.lays147_ren:Go.Shelf.Ren:=⟨fun|147=>141|221=>139|268=>193|138=>194|143=>195|195=>236|197=>237|218=>238|219=>239|260=>260|217=>261|225=>262|224=>263|267=>264|266=>271|314=>272|n=>n,fun|9=>9|3=>3|31=>23|4=>4|0=>0|105=>341|21=>21|5=>5|46=>255|119=>360|139=>363|138=>362|146=>364|51=>316|n=>n,fun|1=>0|3=>1|4=>2|n=>n⟩
theorem Tryz.lays147:Go.Proofs.Lays.n147 prog Tryz.lays147_ren:=ShLay
open Go.RowKit Go.Lib in
theorem Tryz.strings_SplitN(s sep:ByteArray)(n:Nat)(m:Int)(w:World)(hs:s.size<4294967281)(hm:w.cell? ⟨0,0,none⟩=some (.int .i64 m))(h1:1<=sep.size)(hn:1<=n)(axS:n<=9223372036854775807) :
  Calls prog 141 #[.string s,.string sep,.int .i64 n] w λe w'=>
   e=.returned (.slice (some ⟨w.heap.size,0,none⟩) (Lib.splitB sep 0 (min n (s.size+1) - 1) s).length (min n (s.size+1)))/\w'=w.alloc (.cells (Lib.cellsOf (Lib.splitB sep 0 (min n (s.size+1) - 1) s) (min n (s.size+1))) 9):=Any.strings_SplitN Tryz.lays147 (by kernel_rfl) s sep n m w hs hm h1 hn axS
def Tryz.lays110_ren:Go.Shelf.Ren:=⟨fun|110=>191|109=>235|n=>n,fun|31=>23|9=>9|4=>4|3=>3|0=>0|n=>n,fun|n=>n⟩
theorem Tryz.lays110:Go.Proofs.Lays.n110 prog Tryz.lays110_ren:=ShLay
open Go.Lib in
theorem Tryz.slices_Contains_string(b off n c:Nat)(zs:List ByteArray)(x:ByteArray)(w:World)(hz:n<=zs.length)(hbig:n<=9223372036854775807)(hc:∀j,j<zs.length->w.cell? ⟨b,off+j,none⟩=some (.string (zs.getD j ByteArray.empty))) :
  Calls prog 191 #[.slice (some ⟨b,off,none⟩) n c,.string x] w λe w'=>e=.returned (.bool (Lib.containsS (zs.take n) x))/\w'=w:=Any.slices_Contains_string Tryz.lays110 b off n c zs x w hz hbig hc
open Go.Lib in
theorem Tryz.slices_Contains_string_empty(a:Option Addr)(c:Nat)(x:ByteArray)(w:World) :
  Calls prog 191 #[.slice a 0 c,.string x] w λe w'=>e=.returned (.bool false)/\w'=w:=Any.slices_Contains_string_empty Tryz.lays110 a c x w
end Go.Proofs
