import Derived.Test.YtlliliddljkbfaaGreatDoorC4
import Derived.Test.YtlliliddljkbfaaGreatDoorC5
import Derived.Test.YtlliliddljkbfaaGreatDoorC6
import Derived.Shelf.Small.Wraps
import Derived.Shelf.Strconv.Itoa0
import Derived.Shelf.Strconv.Itoa1
import Derived.Shelf.LaysM
import Derived.Shelf.Strconv.Itoa2
import Derived.Shelf.Strconv.Itoa3
import Derived.Shelf.Strings.Search1
import Derived.Shelf.Strings.Search2
import Derived.Shelf.Strings.Search3
import Derived.Shelf.Strings.Shaped
import Derived.Shelf.Strings.Prefix
import Derived.Shelf.Strings.Fields
import Derived.Shelf.Strings.SplitShaped
import Derived.Shelf.Unicode.Latin
import Derived.Shelf.Unicode.Is16White
import Derived.Shelf.Unicode.IsSpaceAny
import Derived.Shelf.Unicode.Is16WhiteD
import Derived.Shelf.Unicode.IsSpaceAnyD
import Derived.Shelf.Strings.FieldsAny
import Derived.Shelf.Strings.FieldsFuncAny
import Derived.Shelf.Unicode.Is16Any
import Derived.Shelf.Unicode.Is32Any
import Derived.Shelf.Unicode.ExclAny
import Derived.Shelf.Slices.Turned
import Derived.Test.YtlliliddljkbfaaGreatDoorProg
import Derived.Deep.DeepCutAuto
import Derived.Deep.Light
import Derived.Deep.RegionHeld3
namespace Go.Proofs
set_option maxHeartbeats 64000000
set_option maxRecDepth 100000
open Go.Shelf
def Tryz.lays215_ren:Go.Shelf.Ren:=⟨fun|215=>308|n=>n,fun|3=>3|4=>4|n=>n,fun|n=>n⟩
open Go.RowKit in
def Tryz.lays122_ren:Go.Shelf.Ren:=⟨fun|122=>292|215=>308|n=>n,fun|3=>3|4=>4|n=>n,fun|n=>n⟩
open Go.RowKit in
def Tryz.lays129_ren:Go.Shelf.Ren:=⟨fun|129=>310|n=>n,fun|53=>83|3=>3|4=>4|46=>322|5=>5|9=>9|n=>n,fun|n=>n⟩
def Tryz.lays317_ren:Go.Shelf.Ren:=⟨fun|317=>309|n=>n,fun|3=>3|46=>322|n=>n,fun|n=>n⟩
open Go.Lib in
def Tryz.lays318_ren:Go.Shelf.Ren:=⟨fun|318=>311|n=>n,fun|3=>3|4=>4|n=>n,fun|n=>n⟩
open Go.Lib in
def Tryz.lays283_ren:Go.Shelf.Ren:=⟨fun|283=>301|n=>n,fun|3=>3|9=>9|4=>4|n=>n,fun|n=>n⟩
open Go.Lib in
def Tryz.laysM284_ren:Go.Shelf.Ren:=⟨fun|284=>302|129=>310|317=>309|318=>311|n=>n,fun|53=>83|3=>3|212=>350|0=>0|4=>4|46=>322|5=>5|9=>9|n=>n,fun|17=>1|n=>n⟩
open Go.Lib in
def Tryz.lays285_ren:Go.Shelf.Ren:=⟨fun|285=>303|n=>n,fun|37=>182|53=>83|3=>3|4=>4|51=>334|9=>9|5=>5|0=>0|n=>n,fun|n=>n⟩
open Go.RowKit Go.Sort Go.Lib in
def Tryz.laysM246_ren:Go.Shelf.Ren:=⟨fun|246=>286|283=>301|284=>302|285=>303|286=>304|129=>310|317=>309|318=>311|319=>312|320=>313|337=>315|338=>316|n=>n,fun|2=>2|3=>3|9=>9|4=>4|171=>337|0=>0|53=>83|37=>182|5=>5|173=>340|212=>350|51=>334|20=>20|213=>351|46=>322|232=>359|233=>360|n=>n,fun|17=>1|18=>2|19=>3|n=>n⟩
open Go.RowKit Go.Sort Go.Lib in
def Tryz.lays246_ren:Go.Shelf.Ren:=⟨fun|246=>286|283=>301|284=>302|285=>303|286=>304|129=>310|317=>309|318=>311|319=>312|320=>313|337=>315|338=>316|n=>n,fun|2=>2|3=>3|9=>9|4=>4|171=>337|0=>0|53=>83|37=>182|5=>5|173=>340|212=>350|51=>334|20=>20|213=>351|46=>322|232=>359|233=>360|n=>n,fun|17=>1|18=>2|19=>3|n=>n⟩
open Go.RowKit Go.Sort Go.Lib in
def Tryz.laysM243_ren:Go.Shelf.Ren:=⟨fun|243=>245|246=>286|283=>301|284=>302|285=>303|286=>304|129=>310|317=>309|318=>311|319=>312|320=>313|337=>315|338=>316|n=>n,fun|3=>3|9=>9|2=>2|4=>4|171=>337|0=>0|53=>83|37=>182|5=>5|173=>340|212=>350|51=>334|20=>20|213=>351|46=>322|232=>359|233=>360|n=>n,fun|17=>1|18=>2|19=>3|n=>n⟩
open Go.RowKit Go.Sort Go.Lib in
def Tryz.lays243_ren:Go.Shelf.Ren:=⟨fun|243=>245|246=>286|283=>301|284=>302|285=>303|286=>304|129=>310|317=>309|318=>311|319=>312|320=>313|337=>315|338=>316|n=>n,fun|3=>3|9=>9|2=>2|4=>4|171=>337|0=>0|53=>83|37=>182|5=>5|173=>340|212=>350|51=>334|20=>20|213=>351|46=>322|232=>359|233=>360|n=>n,fun|17=>1|18=>2|19=>3|n=>n⟩
open Go.RowKit Go.Sort Go.Lib in
def Tryz.laysM171_ren:Go.Shelf.Ren:=⟨fun|171=>184|243=>245|246=>286|283=>301|284=>302|285=>303|286=>304|129=>310|317=>309|318=>311|319=>312|320=>313|337=>315|338=>316|n=>n,fun|3=>3|9=>9|2=>2|4=>4|171=>337|0=>0|53=>83|37=>182|5=>5|173=>340|212=>350|51=>334|20=>20|213=>351|46=>322|232=>359|233=>360|n=>n,fun|17=>1|18=>2|19=>3|n=>n⟩
theorem Tryz.laysM171:Go.Proofs.LaysM.n171 prog Tryz.laysM171_ren:={
 mixed:=by kernel_rfl
 f129:=Tryz.func310.trans (congrArg some (by kernel_rfl))
 f171:=Tryz.func184.trans (congrArg some (by kernel_rfl))
 f243:=Tryz.func245.trans (congrArg some (by kernel_rfl))
 f246:=Tryz.func286.trans (congrArg some (by kernel_rfl))
 f283:=Tryz.func301.trans (congrArg some (by kernel_rfl))
 f284:=Tryz.func302.trans (congrArg some (by kernel_rfl))
 f285:=Tryz.func303.trans (congrArg some (by kernel_rfl))
 f286:=Tryz.func304.trans (congrArg some (by kernel_rfl))
 f317:=Tryz.func309.trans (congrArg some (by kernel_rfl))
 f318:=Tryz.func311.trans (congrArg some (by kernel_rfl))
 f319:=Tryz.func312.trans (congrArg some (by kernel_rfl))
 f320:=Tryz.func313.trans (congrArg some (by kernel_rfl))
 f337:=Tryz.func315.trans (congrArg some (by kernel_rfl))
 f338:=Tryz.func316.trans (congrArg some (by kernel_rfl))
 t0:=Tryz.underlying0
 a0:=Tryz.isAgg0
 z0:=Tryz.sizeOf0
 v0:=Tryz.zeroValue0
 t2:=Tryz.underlying2
 a2:=Tryz.isAgg2
 z2:=Tryz.sizeOf2
 v2:=Tryz.zeroValue2
 t3:=Tryz.underlying3
 a3:=Tryz.isAgg3
 z3:=Tryz.sizeOf3
 v3:=Tryz.zeroValue3
 t4:=Tryz.underlying4
 a4:=Tryz.isAgg4
 z4:=Tryz.sizeOf4
 v4:=Tryz.zeroValue4
 t5:=Tryz.underlying5
 a5:=Tryz.isAgg5
 z5:=Tryz.sizeOf5
 v5:=Tryz.zeroValue5
 t9:=Tryz.underlying9
 a9:=Tryz.isAgg9
 z9:=Tryz.sizeOf9
 v9:=Tryz.zeroValue9
 t20:=Tryz.underlying20
 a20:=Tryz.isAgg20
 z20:=Tryz.sizeOf20
 v20:=Tryz.zeroValue20
 t37:=Tryz.underlying182
 a37:=Tryz.isAgg182
 z37:=Tryz.sizeOf182
 v37:=Tryz.zeroValue182
 t46:=Tryz.underlying322
 a46:=Tryz.isAgg322
 z46:=Tryz.sizeOf322
 v46:=Tryz.zeroValue322
 t51:=Tryz.underlying334
 a51:=Tryz.isAgg334
 z51:=Tryz.sizeOf334
 v51:=Tryz.zeroValue334
 t53:=Tryz.underlying83
 a53:=Tryz.isAgg83
 z53:=Tryz.sizeOf83
 v53:=Tryz.zeroValue83
 t171:=Tryz.underlying337
 a171:=Tryz.isAgg337
 z171:=Tryz.sizeOf337
 v171:=Tryz.zeroValue337
 t173:=Tryz.underlying340
 a173:=Tryz.isAgg340
 z173:=Tryz.sizeOf340
 v173:=Tryz.zeroValue340
 t212:=Tryz.underlying350
 a212:=Tryz.isAgg350
 z212:=Tryz.sizeOf350
 v212:=Tryz.zeroValue350
 t213:=Tryz.underlying351
 a213:=Tryz.isAgg351
 z213:=Tryz.sizeOf351
 t232:=Tryz.underlying359
 a232:=Tryz.isAgg359
 z232:=Tryz.sizeOf359
 v232:=Tryz.zeroValue359
 t233:=Tryz.underlying360
 a233:=Tryz.isAgg360
 z233:=Tryz.sizeOf360
 v233:=Tryz.zeroValue360
 g17:=by kernel_rfl
 g18:=by kernel_rfl
 g19:=by kernel_rfl
 i0:=by kernel_rfl
 i2:=by kernel_rfl
 i3:=by kernel_rfl
 i4:=by kernel_rfl
 i5:=by kernel_rfl
 i9:=by kernel_rfl
 i20:=by kernel_rfl
 i37:=by kernel_rfl
 i46:=by kernel_rfl
 i51:=by kernel_rfl
 i53:=by kernel_rfl
 i171:=by kernel_rfl
 i173:=by kernel_rfl
 i212:=by kernel_rfl
 i232:=by kernel_rfl
 i233:=by kernel_rfl
 m17:=by kernel_rfl
 m18:=by kernel_rfl
 m19:=by kernel_rfl }
open Go.RowKit Go.Sort Go.Lib in
theorem Tryz.strconv_Itoa (n : Int) (h0 : -9223372036854775808 ≤ n) (h1 : n ≤ 9223372036854775807) (w : World) (htab : Lib.TabIs prog w "internal/strconv.uint64pow10" .u64 Lib.pow10Tab) :
  Calls prog 184 #[.int .i64 n] w fun e w'=>e=.returned (.string ⟨(Lib.itoa n).toArray⟩)/\∃k os,w'=grow (w.drewN k) os:=Any.strconv_Itoa Tryz.laysM171 n h0 h1 w htab
def Tryz.lays171_ren:Go.Shelf.Ren:=⟨fun|171=>184|243=>245|246=>286|283=>301|284=>302|285=>303|286=>304|129=>310|317=>309|318=>311|319=>312|320=>313|337=>315|338=>316|n=>n,fun|3=>3|9=>9|2=>2|4=>4|171=>337|0=>0|53=>83|37=>182|5=>5|173=>340|212=>350|51=>334|20=>20|213=>351|46=>322|232=>359|233=>360|n=>n,fun|17=>1|18=>2|19=>3|n=>n⟩
open Go.RowKit Go.Sort Go.Lib in
def Tryz.lays217_ren:Go.Shelf.Ren:=⟨fun|217=>273|266=>299|n=>n,fun|9=>9|5=>5|3=>3|n=>n,fun|n=>n⟩
open Go.RowKit Go.Lib in
def Tryz.lays224_ren:Go.Shelf.Ren:=⟨fun|224=>275|n=>n,fun|3=>3|n=>n,fun|n=>n⟩
open Go.RowKit Go.Lib in
def Tryz.lays314_ren:Go.Shelf.Ren:=⟨fun|314=>300|n=>n,fun|9=>9|51=>334|3=>3|4=>4|5=>5|46=>322|n=>n,fun|n=>n⟩
open Go.RowKit Go.Lib in
def Tryz.lays267_ren:Go.Shelf.Ren:=⟨fun|267=>276|314=>300|n=>n,fun|9=>9|3=>3|146=>335|51=>334|4=>4|5=>5|46=>322|n=>n,fun|n=>n⟩
open Go.RowKit Go.Lib in
def Tryz.lays219_ren:Go.Shelf.Ren:=⟨fun|219=>227|217=>273|225=>274|224=>275|267=>276|266=>299|314=>300|n=>n,fun|9=>9|3=>3|4=>4|5=>5|46=>322|146=>335|51=>334|n=>n,fun|1=>0|n=>n⟩
open Go.RowKit Go.Lib in
open Go.RowKit Go.Lib in
def Tryz.lays143_ren:Go.Shelf.Ren:=⟨fun|143=>160|219=>227|217=>273|225=>274|224=>275|267=>276|266=>299|314=>300|n=>n,fun|9=>9|3=>3|4=>4|5=>5|46=>322|146=>335|51=>334|n=>n,fun|1=>0|n=>n⟩
theorem Tryz.lays143:Go.Proofs.Lays.n143 prog Tryz.lays143_ren:={
 mixed:=by kernel_rfl
 f143:=Tryz.func160.trans (congrArg some (by kernel_rfl))
 f217:=Tryz.func273.trans (congrArg some (by kernel_rfl))
 f219:=Tryz.func227.trans (congrArg some (by kernel_rfl))
 f224:=Tryz.func275.trans (congrArg some (by kernel_rfl))
 f225:=Tryz.func274.trans (congrArg some (by kernel_rfl))
 f266:=Tryz.func299.trans (congrArg some (by kernel_rfl))
 f267:=Tryz.func276.trans (congrArg some (by kernel_rfl))
 f314:=Tryz.func300.trans (congrArg some (by kernel_rfl))
 t3:=Tryz.underlying3
 a3:=Tryz.isAgg3
 z3:=Tryz.sizeOf3
 v3:=Tryz.zeroValue3
 t4:=Tryz.underlying4
 a4:=Tryz.isAgg4
 z4:=Tryz.sizeOf4
 v4:=Tryz.zeroValue4
 t5:=Tryz.underlying5
 a5:=Tryz.isAgg5
 z5:=Tryz.sizeOf5
 v5:=Tryz.zeroValue5
 t9:=Tryz.underlying9
 a9:=Tryz.isAgg9
 z9:=Tryz.sizeOf9
 v9:=Tryz.zeroValue9
 t46:=Tryz.underlying322
 a46:=Tryz.isAgg322
 z46:=Tryz.sizeOf322
 v46:=Tryz.zeroValue322
 t51:=Tryz.underlying334
 a51:=Tryz.isAgg334
 z51:=Tryz.sizeOf334
 v51:=Tryz.zeroValue334
 t146:=Tryz.underlying335
 a146:=Tryz.isAgg335
 z146:=Tryz.sizeOf335
 v146:=Tryz.zeroValue335
 g1:=by kernel_rfl }
open Go.RowKit Go.Lib in
open Go.RowKit Go.Lib in
theorem Tryz.strings_Index(s sub:ByteArray)(m:Int)(w:World)(hs:s.size<4294967281)(hm:w.cell? ⟨0,0,none⟩=some (.int .i64 m)):
  Calls prog 160 #[.string s,.string sub] w fun e w'=>e=.returned (.int .i64 (Lib.index s.data.toList sub.data.toList))/\w'=w:=Any.strings_Index Tryz.lays143 s sub m w hs hm
def Tryz.lays144_ren:Go.Shelf.Ren:=⟨fun|144=>358|143=>160|219=>227|217=>273|225=>274|224=>275|267=>276|266=>299|314=>300|n=>n,fun|9=>9|4=>4|3=>3|5=>5|46=>322|146=>335|51=>334|n=>n,fun|1=>0|n=>n⟩
open Go.RowKit Go.Lib in
open Go.RowKit Go.Lib in
def Tryz.laysM219_ren:Go.Shelf.Ren:=⟨fun|219=>227|217=>273|225=>274|224=>275|267=>276|266=>299|314=>300|n=>n,fun|9=>9|3=>3|4=>4|5=>5|46=>322|146=>335|51=>334|n=>n,fun|1=>0|n=>n⟩
open Go.RowKit Go.Lib in
def Tryz.laysM143_ren:Go.Shelf.Ren:=⟨fun|143=>160|219=>227|217=>273|225=>274|224=>275|267=>276|266=>299|314=>300|n=>n,fun|9=>9|3=>3|4=>4|5=>5|46=>322|146=>335|51=>334|n=>n,fun|1=>0|n=>n⟩
open Go.RowKit Go.Lib in
def Tryz.laysM144_ren:Go.Shelf.Ren:=⟨fun|144=>358|143=>160|219=>227|217=>273|225=>274|224=>275|267=>276|266=>299|314=>300|n=>n,fun|9=>9|4=>4|3=>3|5=>5|46=>322|146=>335|51=>334|n=>n,fun|1=>0|n=>n⟩
open Go.RowKit Go.Lib in
def Tryz.lays206_ren:Go.Shelf.Ren:=⟨fun|206=>218|n=>n,fun|9=>9|4=>4|3=>3|n=>n,fun|n=>n⟩
open Go.RowKit Go.Lib in
def Tryz.lays99_ren:Go.Shelf.Ren:=⟨fun|99=>148|206=>218|n=>n,fun|9=>9|4=>4|3=>3|n=>n,fun|n=>n⟩
theorem Tryz.lays99:Go.Proofs.Lays.n99 prog Tryz.lays99_ren:={
 mixed:=by kernel_rfl
 f99:=Tryz.func148.trans (congrArg some (by kernel_rfl))
 f206:=Tryz.func218.trans (congrArg some (by kernel_rfl))
 t3:=Tryz.underlying3
 a3:=Tryz.isAgg3
 z3:=Tryz.sizeOf3
 v3:=Tryz.zeroValue3
 t4:=Tryz.underlying4
 a4:=Tryz.isAgg4
 z4:=Tryz.sizeOf4
 v4:=Tryz.zeroValue4
 t9:=Tryz.underlying9
 a9:=Tryz.isAgg9
 z9:=Tryz.sizeOf9
 v9:=Tryz.zeroValue9 }
open Go.RowKit Go.Lib in
theorem Tryz.strings_HasPrefix(s p:ByteArray)(w:World):
  Calls prog 148 #[.string s,.string p] w fun e w'=>e=.returned (.bool (Lib.hasPrefix s.data.toList p.data.toList))/\w'=w:=Any.strings_HasPrefix Tryz.lays99 s p w
def Tryz.lays207_ren:Go.Shelf.Ren:=⟨fun|207=>361|n=>n,fun|9=>9|4=>4|3=>3|n=>n,fun|n=>n⟩
open Go.RowKit Go.Lib in
def Tryz.lays100_ren:Go.Shelf.Ren:=⟨fun|100=>357|207=>361|n=>n,fun|9=>9|4=>4|3=>3|n=>n,fun|n=>n⟩
open Go.RowKit Go.Lib in
def Tryz.lays157_ren:Go.Shelf.Ren:=⟨fun|157=>356|229=>359|199=>360|261=>362|311=>363|312=>364|n=>n,fun|9=>9|31=>22|3=>3|5=>5|4=>4|119=>376|0=>0|40=>378|152=>379|21=>21|154=>381|51=>334|141=>383|196=>387|193=>384|198=>390|49=>388|194=>385|201=>393|226=>395|46=>322|227=>396|n=>n,fun|0=>4|6=>5|n=>n⟩
open Go.RowKit Go.Lib in
def Tryz.laysM157_ren:Go.Shelf.Ren:=⟨fun|157=>356|229=>359|199=>360|261=>362|311=>363|312=>364|n=>n,fun|9=>9|31=>22|3=>3|5=>5|4=>4|119=>376|0=>0|40=>378|152=>379|21=>21|154=>381|51=>334|141=>383|196=>387|193=>384|198=>390|49=>388|194=>385|201=>393|226=>395|46=>322|227=>396|n=>n,fun|0=>4|6=>5|n=>n⟩
open Go.RowKit Go.Lib in
def Tryz.lays199_ren:Go.Shelf.Ren:=⟨fun|199=>360|261=>362|311=>363|312=>364|n=>n,fun|21=>21|4=>4|51=>334|141=>383|0=>0|196=>387|193=>384|3=>3|198=>390|49=>388|194=>385|201=>393|226=>395|46=>322|227=>396|n=>n,fun|6=>5|n=>n⟩
open Go.RowKit Go.Lib in
def Tryz.lays311_ren:Go.Shelf.Ren:=⟨fun|311=>363|n=>n,fun|193=>384|49=>388|4=>4|3=>3|0=>0|226=>395|198=>390|46=>322|n=>n,fun|n=>n⟩
open Go.RowKit Go.Lib in
def Tryz.lays261_ren:Go.Shelf.Ren:=⟨fun|261=>362|311=>363|312=>364|n=>n,fun|141=>383|21=>21|4=>4|0=>0|196=>387|193=>384|3=>3|51=>334|198=>390|49=>388|194=>385|201=>393|226=>395|46=>322|227=>396|n=>n,fun|n=>n⟩
open Go.RowKit Go.Lib in
open Go.RowKit Go.Lib in
open Go.RowKit Go.Lib in
open Go.RowKit Go.Lib in
open Go.RowKit Go.Lib in
open Go.RowKit Go.Lib in
open Go.RowKit Go.Lib in
def Tryz.lays229_ren:Go.Shelf.Ren:=⟨fun|229=>359|n=>n,fun|9=>9|40=>378|31=>22|152=>379|3=>3|0=>0|4=>4|21=>21|154=>381|n=>n,fun|n=>n⟩
open Go.RowKit Go.Lib in
open Go.RowKit Go.Lib in
open Go.RowKit Go.Lib in
def Tryz.lays312_ren:Go.Shelf.Ren:=⟨fun|312=>364|n=>n,fun|194=>385|51=>334|4=>4|3=>3|0=>0|227=>396|201=>393|46=>322|n=>n,fun|n=>n⟩
open Go.RowKit Go.Lib in
open Go.RowKit Go.Lib in
def Tryz.lays108_ren:Go.Shelf.Ren:=⟨fun|108=>238|n=>n,fun|28=>254|3=>3|0=>0|4=>4|n=>n,fun|n=>n⟩
open Go.Lib in
open Go.Lib in
def Tryz.lays107_ren:Go.Shelf.Ren:=⟨fun|107=>172|108=>238|n=>n,fun|28=>254|3=>3|4=>4|0=>0|n=>n,fun|n=>n⟩
theorem Tryz.lays107:Go.Proofs.Lays.n107 prog Tryz.lays107_ren:={
 mixed:=by kernel_rfl
 f107:=Tryz.func172.trans (congrArg some (by kernel_rfl))
 f108:=Tryz.func238.trans (congrArg some (by kernel_rfl))
 t0:=Tryz.underlying0
 a0:=Tryz.isAgg0
 z0:=Tryz.sizeOf0
 v0:=Tryz.zeroValue0
 t3:=Tryz.underlying3
 a3:=Tryz.isAgg3
 z3:=Tryz.sizeOf3
 v3:=Tryz.zeroValue3
 t4:=Tryz.underlying4
 a4:=Tryz.isAgg4
 z4:=Tryz.sizeOf4
 v4:=Tryz.zeroValue4
 t28:=Tryz.underlying254
 a28:=Tryz.isAgg254
 z28:=Tryz.sizeOf254
 v28:=Tryz.zeroValue254 }
open Go.Lib in
theorem Tryz.slices_Contains_int(b off n c:Nat)(zs:List Int)(x:Int)(w:World)(hz:n<=zs.length)(hbig:n<=9223372036854775807)(hc:∀j,j<zs.length->w.cell? ⟨b,off+j,none⟩=some (.int .i64 (zs.getD j 0))):
  Calls prog 172 #[.slice (some ⟨b,off,none⟩) n c,.int .i64 x] w fun e w'=>e=.returned (.bool ((zs.take n).contains x))/\w'=w:=Any.slices_Contains_int Tryz.lays107 b off n c zs x w hz hbig hc
open Go.Lib in
def Tryz.lays109_ren:Go.Shelf.Ren:=⟨fun|109=>239|n=>n,fun|31=>22|9=>9|3=>3|0=>0|4=>4|n=>n,fun|n=>n⟩
open Go.Lib in
open Go.Lib in
def Tryz.lays110_ren:Go.Shelf.Ren:=⟨fun|110=>174|109=>239|n=>n,fun|31=>22|9=>9|4=>4|3=>3|0=>0|n=>n,fun|n=>n⟩
theorem Tryz.lays110:Go.Proofs.Lays.n110 prog Tryz.lays110_ren:={
 mixed:=by kernel_rfl
 f109:=Tryz.func239.trans (congrArg some (by kernel_rfl))
 f110:=Tryz.func174.trans (congrArg some (by kernel_rfl))
 t0:=Tryz.underlying0
 a0:=Tryz.isAgg0
 z0:=Tryz.sizeOf0
 v0:=Tryz.zeroValue0
 t3:=Tryz.underlying3
 a3:=Tryz.isAgg3
 z3:=Tryz.sizeOf3
 v3:=Tryz.zeroValue3
 t4:=Tryz.underlying4
 a4:=Tryz.isAgg4
 z4:=Tryz.sizeOf4
 v4:=Tryz.zeroValue4
 t9:=Tryz.underlying9
 a9:=Tryz.isAgg9
 z9:=Tryz.sizeOf9
 v9:=Tryz.zeroValue9
 t31:=Tryz.underlying22
 a31:=Tryz.isAgg22
 z31:=Tryz.sizeOf22
 v31:=Tryz.zeroValue22 }
open Go.Lib in
theorem Tryz.slices_Contains_string(b off n c:Nat)(zs:List ByteArray)(x:ByteArray)(w:World)(hz:n<=zs.length)(hbig:n<=9223372036854775807)(hc:∀j,j<zs.length->w.cell? ⟨b,off+j,none⟩=some (.string (zs.getD j ByteArray.empty))):
  Calls prog 174 #[.slice (some ⟨b,off,none⟩) n c,.string x] w fun e w'=>e=.returned (.bool (Lib.containsS (zs.take n) x))/\w'=w:=Any.slices_Contains_string Tryz.lays110 b off n c zs x w hz hbig hc
open Go.Lib in
theorem Tryz.slices_Contains_string_empty(a:Option Addr)(c:Nat)(x:ByteArray)(w:World):
  Calls prog 174 #[.slice a 0 c,.string x] w fun e w'=>e=.returned (.bool false)/\w'=w:=Any.slices_Contains_string_empty Tryz.lays110 a c x w
end Go.Proofs
namespace Go.Proofs.YtlliliddljkbfaaGreatDoor
set_option maxHeartbeats 64000000
set_option maxRecDepth 100000
open Go.Proofs.Tryz (prog)
open Go.RowKit Sp
section
attribute [local go_sem] dH dI bQ bT
theorem Sl.aa2{S:Nat->Prop}{w:World}{a:Option Addr}{cap:Nat}{ns:List Nd}(h:Sl S w (.slice a ns.length cap) ns)(j:Nat)(hj:j<=ns.length):
  (∀W:World,(Instr.slice 111 (.slice a ns.length cap) none (some (.int .i64 (j:Int))) none).run prog W=.ok (.slice a j cap) W)/\Sl S w (.slice a j cap) (ns.take j):=by
 have hc:ns.length<=cap:=by obtain⟨_,_,e,hc,_⟩:=h;cases e;exact hc.1
 refine⟨fun W=>?_,h.init j hj⟩;rw[run_slice_h (P:=prog) W 111 a ns.length cap Tryz.underlying111 .i64 j oo oo];obtain⟨iT,h1,_,h3,_⟩:=zy;have e:prog.elem 111=168:=by kernel_rfl
 by_cases h0:cap=0
 .simp[sizeOf,typeInfo,e,h1,h3,sliced,Result.andThen,h0]
 .have h0':¬0=cap:=fun q=>h0 q.symm;simp[sizeOf,typeInfo,e,h1,h3,sliced,Result.andThen,h0];cases a<;>simp[Addr.add]
theorem Sl.rests{S:Nat->Prop}{w:World}{a:Option Addr}{cap:Nat}{ns:List Nd}(h:Sl S w (.slice a ns.length cap) ns)(i:Nat)(hi:i<=ns.length):
  ∃a' c',(∀W:World,(Instr.slice 111 (.slice a ns.length cap) (some (.int .i64 (i:Int))) none none).run prog W=.ok (.slice a' (ns.length-i) c') W)/\Sl S w (.slice a' (ns.length-i) c') (ns.drop i):=by
 obtain⟨iT,h1,_,h3,_⟩:=zy;refine⟨if cap=i then a else a.map (·.add (i*4)),cap-i,fun W=>?_,?_⟩
 .rw[run_slice_l (P:=prog) W 111 a ns.length cap Tryz.underlying111 .i64 i oo oo];have e:prog.elem 111=168:=by kernel_rfl
  simp[sizeOf,typeInfo,e,h1,h3,sliced,Result.andThen]
 .have:=h.cut i ns.length hi nl;rw[List.take_of_length_le nl]at this;simpa[sliced]using this
theorem VI(t:Tok)(kv:Value)(x:ByteArray)(w:World)(hw:t.word.size<=4000000):
  Calls prog 210 #[dM t kv,.string x] w fun e w'=>e=.returned (.bool (l9 (.mk t []) x))/\Below w.heap.size w w':=by
 unfold dM;have B2:Hid (Below w.heap.size w (w.alloc (.cells #[.int .i64 t.kind,.string t.word,.string t.unit,kv] 168))):=(Below.refl _ _).alloc nl _;cases h:(t.kind==14)
 .have HV:Hid (l9 (.mk t []) x=false):=by show _=_;simp at h;simp[l9,h]
  go_in;go_wp2_with fail;go_ret;exact⟨aI HV.o.symm,B2.o⟩
 .have HV:Hid (l9 (.mk t []) x=((small t.word).toList==x.toList)):=by show _=_;rw[bytes_beq];simp at h;simp[l9,h];rfl
  go_in;go_wp2_with fail;have hs2:=B2.o.size;refine pmb (oH t.word _ hw) fun w3 hb3=>?_;have B3:Hid (Below w.heap.size w w3):=B2.o.trans (hb3.mono hs2);clear hb3;go_wp2_with fail;go_ret;exact⟨aI HV.o.symm,B3.o⟩
def mZ(zs:List ByteArray)(n:Nd):Bool:=decide (n.t.kind=15)&&Lib.containsS zs n.t.word
theorem IG(st:Nd->Bool):∀(l:List Nd) (i:Nat) (h:i<l.length),(∀k (hk:k<i),st (l[k]'oo)=false)->st l[i]=true->bM st l=(l.take i,some l[i],l.drop (i+1))
 |n::r,0,h,_,h2=>by unfold bM;rw[if_pos (by simpa using h2)];rfl
 |n::r,i+1,h,h1,h2=>by have h0:=h1 0 oo;simp at h0;unfold bM;rw[if_neg (by rw[h0];simp),IG st r i (by simpa using h) (fun k hk=>by simpa using h1 (k+1) oo) (by simpa using h2)];rfl
theorem Lj(st:Nd->Bool):∀(l:List Nd),(∀k (hk:k<l.length),st l[k]=false)->bM st l=(l,none,[])
 |[],_=>rfl
 |n::r,h1=>by have h0:=h1 0 (by simp);simp at h0;unfold bM;rw[if_neg (by rw[h0];simp),Lj st r (fun k hk=>show st r[k]=false from h1 (k+1) (by simpa using hk))]
structure VJ(B:Nat)(w:World)(c:List Nd×Option Nd×List Nd)(v1 sv v2:Value):Prop where
 ahead:Sl (fun b=>b<B) w v1 c.1
 behind:Sl (fun b=>b<B) w v2 c.2.2
 stop:match c.2.1 with|none=>sv=dM ⟨0,⟨#[]⟩,⟨#[]⟩⟩ (.slice none 0 0)|some n=>∃kv,sv=dM n.t kv/\Sl (fun b=>b<B) w kv n.kids/\cZ n.t
theorem VK(B:Nat)(l:List Nd)(v:Value)(zs:List ByteArray)(sg:Nat)(w:World)(h:Sl (fun b=>b<B) w v l)(hB:B<=w.heap.size)(hz:zs.length<=10)
  (hsg:sg<w.heap.size) (hc:∀j,j<zs.length->w.cell? ⟨sg,0+j,none⟩=some (.string (zs.getD j ByteArray.empty))):
  Calls prog 206 #[v,.slice (some ⟨sg,0,none⟩) zs.length zs.length] w fun e w'=>∃v1 sv v2,e=.returned (.tuple #[v1,sv,v2])/\VJ B w' (bM (mZ zs) l) v1 sv v2/\Below w.heap.size w w':=by
 have Cc:=h.len;have HS:Hid (Sl (fun b=>b<B) w v l):=h;have HC:Hid (∀j,j<zs.length->w.cell? ⟨sg,0+j,none⟩=some (.string (zs.getD j ByteArray.empty))):=hc;obtain⟨a,cap,rfl⟩:=h.form;clear h hc;have Z0:Hid (VB (w.alloc (.cells #[.int .i64 0,.string ⟨#[]⟩,.string ⟨#[]⟩,.slice none 0 0] 168)) w.heap.size (.int .i64 0) (.string ⟨#[]⟩) (.string ⟨#[]⟩) (.slice none 0 0)):=VB.new _ _ _ _ _;have B0:Hid (Below w.heap.size w (w.alloc (.cells #[.int .i64 0,.string ⟨#[]⟩,.string ⟨#[]⟩,.slice none 0 0] 168))):=(Below.refl _ _).alloc nl _;go_in;go_wp2_with fail;have hsz0:=B0.o.size;have hlt0:=Z0.o.lt;generalize w.alloc (.cells #[.int .i64 0,.string ⟨#[]⟩,.string ⟨#[]⟩,.slice none 0 0] 168)=w0 at *;obtain⟨rb,mF⟩:∃rb,Hid (w.heap.size=rb):=⟨_,hid rfl⟩;have hrb:w.heap.size=rb:=mF.o
 have Z1:Hid (VB w0 rb (.int .i64 0) (.string ⟨#[]⟩) (.string ⟨#[]⟩) (.slice none 0 0)):=by rw[<-mF.o];exact Z0.o
 rw[mF.o]at B0 hlt0 hsz0 hB hsg⊢;clear Z0 hrb;go_loopg[11] l.length (fun gg v11 wr=>∃i:Nat,v11=.int .i64 (i:Int)/\i+gg=l.length/\Aside (Below w0.heap.size w0 wr/\∀k (hk:k<l.length),k<i->mZ zs l[k]=false));case atStart=>exact⟨0,rfl,oo,Below.refl _ _,fun k hk h=>by omega⟩
 case round=>
  obtain⟨i,rfl,hi,hA⟩:=hrel;have BR:Hid (Below w0.heap.size w0 wr):=hA.o.1;have HN:Hid (∀k (hk:k<l.length),k<i->mZ zs l[k]=false):=hA.o.2;clear hA;have hsr:=BR.o.size;have BW:Hid (Below rb w wr):=B0.o.trans (BR.o.mono hsz0);by_cases hlt:i<l.length
  .have h1:(i:Int)<(l.length:Int):=oo;have S1:=HS.o.below BW.o hB;obtain⟨g,o,rfl,hL,hcap⟩:=S1.here (by rintro rfl;simp at hlt);obtain⟨kv,hN⟩:=hL.node (i:=i) hlt;obtain⟨n,hn⟩:∃n,n=l[i]:=⟨_,rfl⟩;rw[<-hn]at hN;have Hn:Hid (n=l[i]):=hn;have sQ:Hid (cZ n.t):=hN.ok;have KH:Hid (Sl (fun b=>b<B) wr kv n.kids):=hN.k;obtain⟨ka,kc,rfl⟩:=hN.k.form;have d0:=hN.c0;have d1:=hN.c1;have d2:=hN.c2;have d3:=hN.c3;have hgB:g<B:=hN.s;clear hN hL S1 hn;have A2:Hid (VB (wr.alloc (.cells #[.int .i64 n.t.kind,.string n.t.word,.string n.t.unit,.slice ka n.kids.length kc] 168)) wr.heap.size (.int .i64 n.t.kind) (.string n.t.word) (.string n.t.unit) (.slice ka n.kids.length kc)):=VB.new _ _ _ _ _;have X2:Hid (Below wr.heap.size wr (wr.alloc (.cells #[.int .i64 n.t.kind,.string n.t.word,.string n.t.unit,.slice ka n.kids.length kc] 168))):=(Below.refl _ _).alloc nl _
   go_upto_region 4 with fail
   generalize wr.alloc (.cells #[.int .i64 n.t.kind,.string n.t.word,.string n.t.unit,.slice ka n.kids.length kc] 168)=w2 at *;obtain⟨gt,oU⟩:∃gt,Hid (wr.heap.size=gt):=⟨_,hid rfl⟩;have A3:Hid (VB w2 gt (.int .i64 n.t.kind) (.string n.t.word) (.string n.t.unit) (.slice ka n.kids.length kc)):=by rw[<-oU.o];exact A2
   rw[oU.o];clear A2 d0 d1 d2 d3;obtain⟨a0,a1,a2,a3⟩:=A3.o.cs;have B2:Hid (Below w0.heap.size w0 w2):=BR.o.trans (X2.o.mono hsr);have Yr:Hid (Below rb w w2):=B0.o.trans (B2.o.mono hsz0);have hs2:=B2.o.size;have II:∀j,j<zs.length->w2.cell? ⟨sg,0+j,none⟩=some (.string (zs.getD j ByteArray.empty)):=fun j hj=>by rw[Yr.o.cell (p:=⟨sg,_,none⟩) hsg];exact HC.o j hj
   have YZ:=Tryz.slices_Contains_string sg 0 zs.length zs.length zs n.t.word w2 nl oo II;rw[List.take_of_length_le nl]at YZ;obtain⟨z,Hz⟩:∃z,Hid (Lib.containsS zs n.t.word=z):=⟨_,hid rfl⟩;rw[Hz.o]at YZ;have Y0:Hid (Calls prog 174 #[.slice (some ⟨sg,0,none⟩) zs.length zs.length,.string n.t.word] w2 fun e w'=>e=.returned (.bool z)/\w'=w2):=YZ;clear YZ II;cases hk:(n.t.kind==15)
   .have HST:Hid (mZ zs n=false):=by show(decide (n.t.kind=15)&&_)=false;rw[show decide (n.t.kind=15)=false from by simpa using hk];rfl
    have HN2:Hid (∀k (hk:k<l.length),k<i+1->mZ zs l[k]=false):=fun k hk hki=>by
     by_cases e:k=i
     .subst e;rw[<-Hn.o];exact HST.o
     .exact HN.o k hk oo
    go_wp2_with fail;go_roundg(gk-1);case measure=>omega
    case rel=>exact⟨i+1,by congr 1,oo,B2.o,HN2.o⟩
   .have hkd:decide (n.t.kind=15)=true:=by simpa using hk
    go_wp2_with fail;refine Y0.o.mono ?_;rintro e wq ⟨rfl,hwq⟩;rw[hwq];clear hwq;cases z
    .have HST:Hid (mZ zs n=false):=by show(decide (n.t.kind=15)&&_)=false;rw[Hz.o];exact Bool.and_false _
     have HN2:Hid (∀k (hk:k<l.length),k<i+1->mZ zs l[k]=false):=fun k hk hki=>by
      by_cases e:k=i
      .subst e;rw[<-Hn.o];exact HST.o
      .exact HN.o k hk oo
     go_wp2_with fail;go_roundg(gk-1);case measure=>omega
     case rel=>exact⟨i+1,by congr 1,oo,B2.o,HN2.o⟩
    .have HST:Hid (mZ zs n=true):=by show(decide (n.t.kind=15)&&_)=true;rw[Hz.o,hkd];rfl
     have HV:Hid (bM (mZ zs) l=(l.take i,some n,l.drop (i+1))):=by
      show _=_;have hst:mZ zs l[i]=true:=by rw[<-Hn.o];exact HST.o
      rw[Hn.o];exact IG _ l i hlt (fun k hk=>HN.o k oo hk) hst
     have S2:=HS.o.below Yr.o hB;obtain⟨hr1,hS1⟩:=S2.aa2 i oo;obtain⟨ra,rc,hr2,hS2⟩:=S2.rests (i+1) oo;rw[show(((i+1:Nat)):Int)=(i:Int)+1 by omega]at hr2;have qQ:Hid (Sl (fun b=>b<B) w2 (.slice (some ⟨g,o,none⟩) i cap) (l.take i)):=hS1;have HS2:Hid (Sl (fun b=>b<B) w2 (.slice ra (l.length-(i+1)) rc) (l.drop (i+1))):=hS2;have OM:Hid (Sl (fun b=>b<B) w2 (.slice ka n.kids.length kc) n.kids):=KH.o.below X2.o oo;clear hS1 hS2 S2 hkd;have hwi:IntKind.i64.wrap ((i:Int)+1)=(i:Int)+1:=by rw[IntKind.wrap_i64];omega
     have Z2:Hid (VB w2 rb (.int .i64 0) (.string ⟨#[]⟩) (.string ⟨#[]⟩) (.slice none 0 0)):=by show _=_;rw[B2.o.block rb hlt0];exact Z1.o
     have z0:=Z2.o.fz 0;have z1:=Z2.o.fz 1;have z2:=Z2.o.fz 2;have z3:=Z2.o.fz 3;obtain⟨q0,q1,q2,q3⟩:=Z2.o.cs;have hne:gt≠rb:=by have:=oU.o;omega
     go_wp2_with fail;refine wp_region_any (by kernel_rfl) ?_;change wpAny _ _ _ _ _ _ _ (World.drew _);have AD:Hid (VB w2.drew gt (.int .i64 n.t.kind) (.string n.t.word) (.string n.t.unit) (.slice ka n.kids.length kc)):=A3.o;have A9:Hid (VB (nC w2.drew rb (.int .i64 n.t.kind) (.string n.t.word) (.string n.t.unit) (.slice ka n.kids.length kc)) gt (.int .i64 n.t.kind) (.string n.t.word) (.string n.t.unit) (.slice ka n.kids.length kc)):=by show _=_;rw[jA w2.drew hne];exact A3.o
     have BD:Hid (Below rb w w2.drew):=Yr.o.drew;refine wpAny_of_held (S:=fun wx=>VB wx gt (.int .i64 n.t.kind) (.string n.t.word) (.string n.t.unit) (.slice ka n.kids.length kc)) _ _ _ _ ?_;clear a0 a1 a2 a3;refine bY 0 rfl AD.o (by intro w hSw;obtain⟨a0,a1,a2,a3⟩:=hSw.cs;exact gs) ?_;refine bY 1 rfl AD.o (by intro w hSw;obtain⟨a0,a1,a2,a3⟩:=hSw.cs;exact gs) ?_;refine bY 2 rfl AD.o (by intro w hSw;obtain⟨a0,a1,a2,a3⟩:=hSw.cs;exact gs) ?_;refine bY 3 rfl AD.o (by intro w hSw;obtain⟨a0,a1,a2,a3⟩:=hSw.cs;exact gs) ?_;refine bY 4 rfl AD.o (by intro w hSw;obtain⟨a0,a1,a2,a3⟩:=hSw.cs;exact gs) ?_;refine bY 5 rfl AD.o (by intro w hSw;obtain⟨a0,a1,a2,a3⟩:=hSw.cs;exact gs) ?_
     refine bY 6 rfl AD.o (by intro w hSw;obtain⟨a0,a1,a2,a3⟩:=hSw.cs;exact gs) ?_;refine bY 7 rfl AD.o (by intro w hSw;obtain⟨a0,a1,a2,a3⟩:=hSw.cs;exact gs) ?_;refine jh 8 fun K hK=>?_;go_simp;refine hK.o _ _ (AD.o) (fun _=>?_);clear hK K;refine jh 9 fun K hK=>?_;go_simp;refine hK.o _ _ (A9.o) (fun _=>?_);clear hK K;refine jh 10 fun K hK=>?_;go_simp;refine hK.o _ _ (A9.o) (fun _=>?_);clear hK K;refine wpAnyH_done (by kernel_rfl) ?_ _;go_wp2_with fail;refine bodyPost_ret (v:=.tuple #[.slice (some ⟨g,o,none⟩) i cap,dM n.t (.slice ka n.kids.length kc),.slice ra (l.length-(i+1)) rc]) (by simp[results,Tryz.results206,go_sem,dM,q0,q1,q2,q3]) rfl ?_
     have hst:∀k,k<B->(nC w2.drew rb (.int .i64 n.t.kind) (.string n.t.word) (.string n.t.unit) (.slice ka n.kids.length kc)).heap[k]?=w2.heap[k]?:=fun k hk=>jA w2.drew oo _ _ _ _;exact⟨_,_,_,rfl,by rw[HV.o];exact⟨qQ.o.keep (fun _ hg=>hg) hst,HS2.o.keep (fun _ hg=>hg) hst,⟨_,rfl,OM.o.keep (fun _ hg=>hg) hst,sQ.o⟩⟩,by rw[mF.o];exact kC BD.o nl _ _ _ _⟩
  .have h1:(l.length:Int)<=(i:Int):=oo;have HV:Hid (bM (mZ zs) l=(l,none,[])):=Lj _ l fun k hk=>HN.o k hk oo;have Z2:Hid (VB wr rb (.int .i64 0) (.string ⟨#[]⟩) (.string ⟨#[]⟩) (.slice none 0 0)):=by show _=_;rw[BR.o.block rb hlt0];exact Z1.o
   have z0:=Z2.o.fz 0;have z1:=Z2.o.fz 1;have z2:=Z2.o.fz 2;have z3:=Z2.o.fz 3;obtain⟨q0,q1,q2,q3⟩:=Z2.o.cs;go_wp2_with fail;refine bodyPost_ret (v:=.tuple #[.slice a l.length cap,dM ⟨0,⟨#[]⟩,⟨#[]⟩⟩ (.slice none 0 0),.slice none 0 0]) (by simp[results,Tryz.results206,go_sem,dM,q0,q1,q2,q3]) rfl ?_;exact⟨_,_,_,rfl,by rw[HV.o];exact⟨(HS.o.below BW.o hB).keep (fun _ hg=>hg) (fun k hk=>jA wr (by have hk':k<B:=hk;omega) _ _ _ _),Sl.nil _ _,rfl⟩,by rw[mF.o];exact kC BW.o nl _ _ _ _⟩
end
end Go.Proofs.YtlliliddljkbfaaGreatDoor
