import Derived.Test.YtlliliddljkbfaaGreatC2
import Derived.Shelf.Small.Wraps
import Derived.Shelf.Strconv.Itoa3
import Derived.Shelf.Strings.Shaped
import Derived.Shelf.Strings.SplitShaped
import Derived.Shelf.Strings.FieldsAny
import Derived.Shelf.Unicode.ExclAny
import Derived.Shelf.Slices.Turned
import Derived.Test.YtlliliddljkbfaaGreatProg
set_option maxHeartbeats 64000000
set_option maxRecDepth 100000
namespace Go.Proofs.Tryz
open Go.Shelf
def lays215_ren:Go.Shelf.Ren:=⟨fun|215=>301|n=>n,fun|3=>3|4=>4|n=>n,fun|n=>n⟩
open Go.RowKit in
def lays122_ren:Go.Shelf.Ren:=⟨fun|122=>276|215=>301|n=>n,fun|3=>3|4=>4|n=>n,fun|n=>n⟩
theorem lays122:Go.Proofs.Lays.n122 prog lays122_ren:={
 mixed:=by kernel_rfl
 f122:=func276.trans (congrArg some (by kernel_rfl))
 f215:=func301.trans (congrArg some (by kernel_rfl))
 t3:=underlying3
 a3:=isAgg3
 z3:=sizeOf3
 v3:=zeroValue3
 t4:=underlying4
 a4:=isAgg4
 z4:=sizeOf4
 v4:=zeroValue4 }
open Go.RowKit in
theorem cmp_Compare_int(x y:Int)(w:World):
  Calls prog 276 #[.int .i64 x,.int .i64 y] w fun e w'=>e=.returned (.int .i64 (Lib.compareInt x y))/\w'=w:=Any.cmp_Compare_int lays122 x y w
def lays129_ren:Go.Shelf.Ren:=⟨fun|129=>384|n=>n,fun|53=>101|3=>3|4=>4|46=>331|5=>5|9=>9|n=>n,fun|n=>n⟩
theorem lays129:Go.Proofs.Lays.n129 prog lays129_ren:={
 mixed:=by kernel_rfl
 f129:=func384.trans (congrArg some (by kernel_rfl))
 t3:=underlying3
 a3:=isAgg3
 z3:=sizeOf3
 v3:=zeroValue3
 t4:=underlying4
 a4:=isAgg4
 z4:=sizeOf4
 v4:=zeroValue4
 t5:=underlying5
 a5:=isAgg5
 z5:=sizeOf5
 v5:=zeroValue5
 t9:=underlying9
 a9:=isAgg9
 z9:=sizeOf9
 v9:=zeroValue9
 t46:=underlying331
 a46:=isAgg331
 z46:=sizeOf331
 v46:=zeroValue331
 t53:=underlying101
 a53:=isAgg101
 z53:=sizeOf101
 v53:=zeroValue101 }
theorem bits_Len64(x:Int)(w:World)(h0:0<=x)(h1:x<=18446744073709551615):
  Calls prog 384 #[.int .u64 x] w fun e w'=>e=.returned (.int .i64 (Lib.bitLen x.toNat))/\w'=w:=Any.bits_Len64 lays129 x w h0 h1
def lays317_ren:Go.Shelf.Ren:=⟨fun|317=>383|n=>n,fun|3=>3|46=>331|n=>n,fun|n=>n⟩
theorem lays317:Go.Proofs.Lays.n317 prog lays317_ren:={
 mixed:=by kernel_rfl
 f317:=func383.trans (congrArg some (by kernel_rfl))
 t3:=underlying3
 a3:=isAgg3
 z3:=sizeOf3
 v3:=zeroValue3
 t46:=underlying331
 a46:=isAgg331
 z46:=sizeOf331
 v46:=zeroValue331 }
open Go.Lib in
theorem internal_strconv_log10Pow2(x:Nat)(h:x<=64)(w:World):
  Calls prog 383 #[.int .i64 x] w fun e w'=>e=.returned (.int .i64 (Lib.l10 x))/\w'=w:=Any.internal_strconv_log10Pow2 lays317 x h w
def lays318_ren:Go.Shelf.Ren:=⟨fun|318=>385|n=>n,fun|3=>3|4=>4|n=>n,fun|n=>n⟩
theorem lays318:Go.Proofs.Lays.n318 prog lays318_ren:={
 mixed:=by kernel_rfl
 f318:=func385.trans (congrArg some (by kernel_rfl))
 t3:=underlying3
 a3:=isAgg3
 z3:=sizeOf3
 v3:=zeroValue3
 t4:=underlying4
 a4:=isAgg4
 z4:=sizeOf4
 v4:=zeroValue4 }
open Go.Lib in
theorem internal_strconv_bool2_int(b:Bool)(w:World):
  Calls prog 385 #[.bool b] w fun e w'=>e=.returned (.int .i64 (if b then 1 else 0))/\w'=w:=Any.internal_strconv_bool2_int lays318 b w
open Go.Lib in
open Go.Lib in
def lays285_ren:Go.Shelf.Ren:=⟨fun|285=>381|n=>n,fun|37=>145|53=>101|3=>3|4=>4|51=>337|9=>9|5=>5|0=>0|n=>n,fun|n=>n⟩
theorem lays285:Go.Proofs.Lays.n285 prog lays285_ren:={
 mixed:=by kernel_rfl
 f285:=func381.trans (congrArg some (by kernel_rfl))
 t0:=underlying0
 a0:=isAgg0
 z0:=sizeOf0
 v0:=zeroValue0
 t3:=underlying3
 a3:=isAgg3
 z3:=sizeOf3
 v3:=zeroValue3
 t4:=underlying4
 a4:=isAgg4
 z4:=sizeOf4
 v4:=zeroValue4
 t5:=underlying5
 a5:=isAgg5
 z5:=sizeOf5
 v5:=zeroValue5
 t9:=underlying9
 a9:=isAgg9
 z9:=sizeOf9
 v9:=zeroValue9
 t37:=underlying145
 a37:=isAgg145
 z37:=sizeOf145
 v37:=zeroValue145
 t51:=underlying337
 a51:=isAgg337
 z51:=sizeOf337
 v51:=zeroValue337
 t53:=underlying101
 a53:=isAgg101
 z53:=sizeOf101
 v53:=zeroValue101 }
open Go.RowKit Go.Sort Go.Lib in
theorem internal_strconv_formatBase10(blk off cap:Nat)(u:Nat)(d:Array UInt8)(w:World)(hH:Holds (fun(b:UInt8)=>Value.int .u8 (b.toNat:Int)) w blk off d)(hu:u<10 ^ d.size)(hu64:u<18446744073709551616)(hsz:d.size<4611686018427387904):
  Calls prog 381 #[.slice (some ⟨blk,off,none⟩) d.size cap,.int .u64 u] w fun e w'=>e=.returned (.tuple #[])/\∃(n v':Nat) (dk:Array UInt8),w'=(putRow (fun(b:UInt8)=>Value.int .u8 (b.toNat:Int)) w blk off dk).drewN n/\FmtInv d.size u 0 v' dk:=Any.internal_strconv_formatBase10 lays285 blk off cap u d w hH hu hu64 hsz
def laysM246_ren:Go.Shelf.Ren:=⟨fun|246=>378|283=>379|284=>380|285=>381|286=>382|129=>384|317=>383|318=>385|319=>386|320=>387|337=>388|338=>389|n=>n,fun|2=>2|3=>3|9=>9|4=>4|171=>390|0=>0|53=>101|37=>145|5=>5|173=>393|212=>396|51=>337|20=>20|213=>397|46=>331|232=>400|233=>401|n=>n,fun|17=>3|18=>4|19=>5|n=>n⟩
open Go.RowKit Go.Sort Go.Lib in
open Go.RowKit Go.Sort Go.Lib in
def laysM243_ren:Go.Shelf.Ren:=⟨fun|243=>377|246=>378|283=>379|284=>380|285=>381|286=>382|129=>384|317=>383|318=>385|319=>386|320=>387|337=>388|338=>389|n=>n,fun|3=>3|9=>9|2=>2|4=>4|171=>390|0=>0|53=>101|37=>145|5=>5|173=>393|212=>396|51=>337|20=>20|213=>397|46=>331|232=>400|233=>401|n=>n,fun|17=>3|18=>4|19=>5|n=>n⟩
open Go.RowKit Go.Sort Go.Lib in
open Go.RowKit Go.Sort Go.Lib in
def laysM171_ren:Go.Shelf.Ren:=⟨fun|171=>376|243=>377|246=>378|283=>379|284=>380|285=>381|286=>382|129=>384|317=>383|318=>385|319=>386|320=>387|337=>388|338=>389|n=>n,fun|3=>3|9=>9|2=>2|4=>4|171=>390|0=>0|53=>101|37=>145|5=>5|173=>393|212=>396|51=>337|20=>20|213=>397|46=>331|232=>400|233=>401|n=>n,fun|17=>3|18=>4|19=>5|n=>n⟩
open Go.RowKit Go.Sort Go.Lib in
def lays171_ren:Go.Shelf.Ren:=⟨fun|171=>376|243=>377|246=>378|283=>379|284=>380|285=>381|286=>382|129=>384|317=>383|318=>385|319=>386|320=>387|337=>388|338=>389|n=>n,fun|3=>3|9=>9|2=>2|4=>4|171=>390|0=>0|53=>101|37=>145|5=>5|173=>393|212=>396|51=>337|20=>20|213=>397|46=>331|232=>400|233=>401|n=>n,fun|17=>3|18=>4|19=>5|n=>n⟩
theorem lays171:Go.Proofs.Lays.n171 prog lays171_ren:={
 mixed:=by kernel_rfl
 f129:=func384.trans (congrArg some (by kernel_rfl))
 f171:=func376.trans (congrArg some (by kernel_rfl))
 f243:=func377.trans (congrArg some (by kernel_rfl))
 f246:=func378.trans (congrArg some (by kernel_rfl))
 f283:=func379.trans (congrArg some (by kernel_rfl))
 f284:=func380.trans (congrArg some (by kernel_rfl))
 f285:=func381.trans (congrArg some (by kernel_rfl))
 f286:=func382.trans (congrArg some (by kernel_rfl))
 f317:=func383.trans (congrArg some (by kernel_rfl))
 f318:=func385.trans (congrArg some (by kernel_rfl))
 f319:=func386.trans (congrArg some (by kernel_rfl))
 f320:=func387.trans (congrArg some (by kernel_rfl))
 f337:=func388.trans (congrArg some (by kernel_rfl))
 f338:=func389.trans (congrArg some (by kernel_rfl))
 t0:=underlying0
 a0:=isAgg0
 z0:=sizeOf0
 v0:=zeroValue0
 t2:=underlying2
 a2:=isAgg2
 z2:=sizeOf2
 v2:=zeroValue2
 t3:=underlying3
 a3:=isAgg3
 z3:=sizeOf3
 v3:=zeroValue3
 t4:=underlying4
 a4:=isAgg4
 z4:=sizeOf4
 v4:=zeroValue4
 t5:=underlying5
 a5:=isAgg5
 z5:=sizeOf5
 v5:=zeroValue5
 t9:=underlying9
 a9:=isAgg9
 z9:=sizeOf9
 v9:=zeroValue9
 t20:=underlying20
 a20:=isAgg20
 z20:=sizeOf20
 v20:=zeroValue20
 t37:=underlying145
 a37:=isAgg145
 z37:=sizeOf145
 v37:=zeroValue145
 t46:=underlying331
 a46:=isAgg331
 z46:=sizeOf331
 v46:=zeroValue331
 t51:=underlying337
 a51:=isAgg337
 z51:=sizeOf337
 v51:=zeroValue337
 t53:=underlying101
 a53:=isAgg101
 z53:=sizeOf101
 v53:=zeroValue101
 t171:=underlying390
 a171:=isAgg390
 z171:=sizeOf390
 v171:=zeroValue390
 t173:=underlying393
 a173:=isAgg393
 z173:=sizeOf393
 v173:=zeroValue393
 t212:=underlying396
 a212:=isAgg396
 z212:=sizeOf396
 v212:=zeroValue396
 t213:=underlying397
 a213:=isAgg397
 z213:=sizeOf397
 t232:=underlying400
 a232:=isAgg400
 z232:=sizeOf400
 v232:=zeroValue400
 t233:=underlying401
 a233:=isAgg401
 z233:=sizeOf401
 v233:=zeroValue401
 g17:=by kernel_rfl
 g18:=by kernel_rfl
 g19:=by kernel_rfl }
open Go.RowKit Go.Sort Go.Lib in
theorem strconv_Itoa_small(i:Nat)(hi:i<100)(w:World):
  Calls prog 376 #[.int .i64 i] w fun e w'=>e=.returned (.string ⟨(Lib.decDigits i).toArray⟩)/\w'=w:=Any.strconv_Itoa_small lays171 i hi w
open Go.RowKit Go.Lib in
open Go.RowKit Go.Lib in
open Go.RowKit Go.Lib in
open Go.RowKit Go.Lib in
def lays219_ren:Go.Shelf.Ren:=⟨fun|219=>235|217=>283|225=>284|224=>285|267=>286|266=>302|314=>303|n=>n,fun|9=>9|3=>3|4=>4|5=>5|46=>331|146=>338|51=>337|n=>n,fun|1=>0|n=>n⟩
open Go.RowKit Go.Lib in
open Go.RowKit Go.Lib in
def lays143_ren:Go.Shelf.Ren:=⟨fun|143=>174|219=>235|217=>283|225=>284|224=>285|267=>286|266=>302|314=>303|n=>n,fun|9=>9|3=>3|4=>4|5=>5|46=>331|146=>338|51=>337|n=>n,fun|1=>0|n=>n⟩
theorem lays143:Go.Proofs.Lays.n143 prog lays143_ren:={
 mixed:=by kernel_rfl
 f143:=func174.trans (congrArg some (by kernel_rfl))
 f217:=func283.trans (congrArg some (by kernel_rfl))
 f219:=func235.trans (congrArg some (by kernel_rfl))
 f224:=func285.trans (congrArg some (by kernel_rfl))
 f225:=func284.trans (congrArg some (by kernel_rfl))
 f266:=func302.trans (congrArg some (by kernel_rfl))
 f267:=func286.trans (congrArg some (by kernel_rfl))
 f314:=func303.trans (congrArg some (by kernel_rfl))
 t3:=underlying3
 a3:=isAgg3
 z3:=sizeOf3
 v3:=zeroValue3
 t4:=underlying4
 a4:=isAgg4
 z4:=sizeOf4
 v4:=zeroValue4
 t5:=underlying5
 a5:=isAgg5
 z5:=sizeOf5
 v5:=zeroValue5
 t9:=underlying9
 a9:=isAgg9
 z9:=sizeOf9
 v9:=zeroValue9
 t46:=underlying331
 a46:=isAgg331
 z46:=sizeOf331
 v46:=zeroValue331
 t51:=underlying337
 a51:=isAgg337
 z51:=sizeOf337
 v51:=zeroValue337
 t146:=underlying338
 a146:=isAgg338
 z146:=sizeOf338
 v146:=zeroValue338
 g1:=by kernel_rfl }
open Go.RowKit Go.Lib in
open Go.RowKit Go.Lib in
theorem strings_Index(s sub:ByteArray)(m:Int)(w:World)(hs:s.size<4294967281)(hm:w.cell? ⟨0,0,none⟩=some (.int .i64 m)):
  Calls prog 174 #[.string s,.string sub] w fun e w'=>e=.returned (.int .i64 (Lib.index s.data.toList sub.data.toList))/\w'=w:=Any.strings_Index lays143 s sub m w hs hm
def lays144_ren:Go.Shelf.Ren:=⟨fun|144=>349|143=>174|219=>235|217=>283|225=>284|224=>285|267=>286|266=>302|314=>303|n=>n,fun|9=>9|4=>4|3=>3|5=>5|46=>331|146=>338|51=>337|n=>n,fun|1=>0|n=>n⟩
theorem lays144:Go.Proofs.Lays.n144 prog lays144_ren:={
 mixed:=by kernel_rfl
 f143:=func174.trans (congrArg some (by kernel_rfl))
 f144:=func349.trans (congrArg some (by kernel_rfl))
 f217:=func283.trans (congrArg some (by kernel_rfl))
 f219:=func235.trans (congrArg some (by kernel_rfl))
 f224:=func285.trans (congrArg some (by kernel_rfl))
 f225:=func284.trans (congrArg some (by kernel_rfl))
 f266:=func302.trans (congrArg some (by kernel_rfl))
 f267:=func286.trans (congrArg some (by kernel_rfl))
 f314:=func303.trans (congrArg some (by kernel_rfl))
 t3:=underlying3
 a3:=isAgg3
 z3:=sizeOf3
 v3:=zeroValue3
 t4:=underlying4
 a4:=isAgg4
 z4:=sizeOf4
 v4:=zeroValue4
 t5:=underlying5
 a5:=isAgg5
 z5:=sizeOf5
 v5:=zeroValue5
 t9:=underlying9
 a9:=isAgg9
 z9:=sizeOf9
 v9:=zeroValue9
 t46:=underlying331
 a46:=isAgg331
 z46:=sizeOf331
 v46:=zeroValue331
 t51:=underlying337
 a51:=isAgg337
 z51:=sizeOf337
 v51:=zeroValue337
 t146:=underlying338
 a146:=isAgg338
 z146:=sizeOf338
 v146:=zeroValue338
 g1:=by kernel_rfl }
open Go.RowKit Go.Lib in
open Go.RowKit Go.Lib in
theorem strings_Contains(s sub:ByteArray)(m:Int)(w:World)(hs:s.size<4294967281)(hm:w.cell? ⟨0,0,none⟩=some (.int .i64 m)):
  Calls prog 349 #[.string s,.string sub] w fun e w'=>e=.returned (.bool (Lib.contains s.data.toList sub.data.toList))/\w'=w:=Any.strings_Contains lays144 s sub m w hs hm
open Go.RowKit Go.Lib in
open Go.RowKit Go.Lib in
open Go.RowKit Go.Lib in
def lays206_ren:Go.Shelf.Ren:=⟨fun|206=>169|n=>n,fun|9=>9|4=>4|3=>3|n=>n,fun|n=>n⟩
open Go.RowKit Go.Lib in
def lays99_ren:Go.Shelf.Ren:=⟨fun|99=>105|206=>169|n=>n,fun|9=>9|4=>4|3=>3|n=>n,fun|n=>n⟩
theorem lays99:Go.Proofs.Lays.n99 prog lays99_ren:={
 mixed:=by kernel_rfl
 f99:=func105.trans (congrArg some (by kernel_rfl))
 f206:=func169.trans (congrArg some (by kernel_rfl))
 t3:=underlying3
 a3:=isAgg3
 z3:=sizeOf3
 v3:=zeroValue3
 t4:=underlying4
 a4:=isAgg4
 z4:=sizeOf4
 v4:=zeroValue4
 t9:=underlying9
 a9:=isAgg9
 z9:=sizeOf9
 v9:=zeroValue9 }
open Go.RowKit Go.Lib in
theorem strings_HasPrefix(s p:ByteArray)(w:World):
  Calls prog 105 #[.string s,.string p] w fun e w'=>e=.returned (.bool (Lib.hasPrefix s.data.toList p.data.toList))/\w'=w:=Any.strings_HasPrefix lays99 s p w
open Go.RowKit Go.Lib in
def lays100_ren:Go.Shelf.Ren:=⟨fun|100=>348|207=>352|n=>n,fun|9=>9|4=>4|3=>3|n=>n,fun|n=>n⟩
theorem lays100:Go.Proofs.Lays.n100 prog lays100_ren:={
 mixed:=by kernel_rfl
 f100:=func348.trans (congrArg some (by kernel_rfl))
 f207:=func352.trans (congrArg some (by kernel_rfl))
 t3:=underlying3
 a3:=isAgg3
 z3:=sizeOf3
 v3:=zeroValue3
 t4:=underlying4
 a4:=isAgg4
 z4:=sizeOf4
 v4:=zeroValue4
 t9:=underlying9
 a9:=isAgg9
 z9:=sizeOf9
 v9:=zeroValue9 }
open Go.RowKit Go.Lib in
theorem strings_HasSuffix(s p:ByteArray)(w:World)(hs:s.size<=9223372036854775807):
  Calls prog 348 #[.string s,.string p] w fun e w'=>e=.returned (.bool (Lib.hasSuffix s.data.toList p.data.toList))/\w'=w:=Any.strings_HasSuffix lays100 s p w hs
open Go.RowKit Go.Lib in
open Go.RowKit Go.Lib in
open Go.RowKit Go.Lib in
open Go.RowKit Go.Lib in
open Go.RowKit Go.Lib in
open Go.RowKit Go.Lib in
open Go.RowKit Go.Lib in
open Go.RowKit Go.Lib in
open Go.RowKit Go.Lib in
open Go.RowKit Go.Lib in
open Go.RowKit Go.Lib in
open Go.RowKit Go.Lib in
open Go.RowKit Go.Lib in
open Go.RowKit Go.Lib in
open Go.RowKit Go.Lib in
open Go.RowKit Go.Lib in
open Go.Lib in
open Go.Lib in
def lays107_ren:Go.Shelf.Ren:=⟨fun|107=>186|108=>246|n=>n,fun|28=>31|3=>3|4=>4|0=>0|n=>n,fun|n=>n⟩
theorem lays107:Go.Proofs.Lays.n107 prog lays107_ren:={
 mixed:=by kernel_rfl
 f107:=func186.trans (congrArg some (by kernel_rfl))
 f108:=func246.trans (congrArg some (by kernel_rfl))
 t0:=underlying0
 a0:=isAgg0
 z0:=sizeOf0
 v0:=zeroValue0
 t3:=underlying3
 a3:=isAgg3
 z3:=sizeOf3
 v3:=zeroValue3
 t4:=underlying4
 a4:=isAgg4
 z4:=sizeOf4
 v4:=zeroValue4
 t28:=underlying31
 a28:=isAgg31
 z28:=sizeOf31
 v28:=zeroValue31 }
open Go.Lib in
theorem slices_Contains_int(b off n c:Nat)(zs:List Int)(x:Int)(w:World)(hz:n<=zs.length)(hbig:n<=9223372036854775807)(hc:∀j,j<zs.length->w.cell? ⟨b,off+j,none⟩=some (.int .i64 (zs.getD j 0))):
  Calls prog 186 #[.slice (some ⟨b,off,none⟩) n c,.int .i64 x] w fun e w'=>e=.returned (.bool ((zs.take n).contains x))/\w'=w:=Any.slices_Contains_int lays107 b off n c zs x w hz hbig hc
open Go.Lib in
open Go.Lib in
open Go.Lib in
def lays110_ren:Go.Shelf.Ren:=⟨fun|110=>188|109=>247|n=>n,fun|31=>26|9=>9|4=>4|3=>3|0=>0|n=>n,fun|n=>n⟩
theorem lays110:Go.Proofs.Lays.n110 prog lays110_ren:={
 mixed:=by kernel_rfl
 f109:=func247.trans (congrArg some (by kernel_rfl))
 f110:=func188.trans (congrArg some (by kernel_rfl))
 t0:=underlying0
 a0:=isAgg0
 z0:=sizeOf0
 v0:=zeroValue0
 t3:=underlying3
 a3:=isAgg3
 z3:=sizeOf3
 v3:=zeroValue3
 t4:=underlying4
 a4:=isAgg4
 z4:=sizeOf4
 v4:=zeroValue4
 t9:=underlying9
 a9:=isAgg9
 z9:=sizeOf9
 v9:=zeroValue9
 t31:=underlying26
 a31:=isAgg26
 z31:=sizeOf26
 v31:=zeroValue26 }
open Go.Lib in
theorem slices_Contains_string(b off n c:Nat)(zs:List ByteArray)(x:ByteArray)(w:World)(hz:n<=zs.length)(hbig:n<=9223372036854775807)(hc:∀j,j<zs.length->w.cell? ⟨b,off+j,none⟩=some (.string (zs.getD j ByteArray.empty))):
  Calls prog 188 #[.slice (some ⟨b,off,none⟩) n c,.string x] w fun e w'=>e=.returned (.bool (Lib.containsS (zs.take n) x))/\w'=w:=Any.slices_Contains_string lays110 b off n c zs x w hz hbig hc
open Go.Lib in
theorem slices_Contains_string_empty(a:Option Addr)(c:Nat)(x:ByteArray)(w:World):
  Calls prog 188 #[.slice a 0 c,.string x] w fun e w'=>e=.returned (.bool false)/\w'=w:=Any.slices_Contains_string_empty lays110 a c x w
end Go.Proofs.Tryz
namespace Go.Proofs.YtlliliddljkbfaaGreat
open Go.Proofs.Tryz (prog)
open Go.RowKit Sp
section
attribute [local go_sem] bI bJ aX aY
theorem Sl.ajd{S:Nat->Prop}{w:WD}{a:Option Addr}{cap:Nat}{ns:List Nd}(h:Sl S w (.slice a ns.length cap) ns)(j:Nat)(hj:j<=ns.length):
  (∀W:WD,(Instr.slice 128 (.slice a ns.length cap) none (some (.int .i64 (j:Int))) none).run prog W=.ok (.slice a j cap) W)/\Sl S w (.slice a j cap) (ns.take j):=by
 have hc:ns.length<=cap:=by obtain⟨_,_,e,hc,_⟩:=h;cases e;exact hc.1
 refine⟨fun W=>?_,h.init j hj⟩;rw[run_slice_h (P:=prog) W 128 a ns.length cap Tryz.underlying128 .i64 j oo oo];obtain⟨iT,h1,_,h3,_⟩:=yZ;have e:prog.elem 128=199:=by kernel_rfl
 by_cases h0:cap=0
 .simp[sizeOf,typeInfo,e,h1,h3,sliced,Result.andThen,h0]
 .have h0':¬0=cap:=fun q=>h0 q.symm;simp[sizeOf,typeInfo,e,h1,h3,sliced,Result.andThen,h0];cases a<;>simp[Addr.add]
theorem Sl.rests{S:Nat->Prop}{w:WD}{a:Option Addr}{cap:Nat}{ns:List Nd}(h:Sl S w (.slice a ns.length cap) ns)(i:Nat)(hi:i<=ns.length):
  ∃a' c',(∀W:WD,(Instr.slice 128 (.slice a ns.length cap) (some (.int .i64 (i:Int))) none none).run prog W=.ok (.slice a' (ns.length-i) c') W)/\Sl S w (.slice a' (ns.length-i) c') (ns.drop i):=by
 obtain⟨iT,h1,_,h3,_⟩:=yZ;refine⟨if cap=i then a else a.map (·.add (i*4)),cap-i,fun W=>?_,?_⟩
 .rw[run_slice_l (P:=prog) W 128 a ns.length cap Tryz.underlying128 .i64 i oo oo];have e:prog.elem 128=199:=by kernel_rfl
  simp[sizeOf,typeInfo,e,h1,h3,sliced,Result.andThen]
 .have:=h.cut i ns.length hi nl;rw[List.take_of_length_le nl]at this;simpa[sliced]using this
theorem Q8(t:Tok)(kv:Av)(x:BY)(w:WD)(hw:t.word.size<=4000000):
  Calls prog 161 #[fB t kv,.string x] w fun e w'=>e=.returned (.bool (ru (.mk t []) x))/\Below w.heap.size w w':=by
 unfold fB;have B2:Hid (Below w.heap.size w (w.alloc (.cells #[.int .i64 t.kind,.string t.word,.string t.unit,kv] 199))):=Ax.alloc nl _;cases h:(t.kind==14)
 .have HV:Hid (ru (.mk t []) x=false):=by show _=_;simp at h;simp[ru,h]
  go_in;go_wp2_with fail;go_ret;exact⟨aC HV.o.symm,B2.o⟩
 .have HV:Hid (ru (.mk t []) x=((small t.word).toList==x.toList)):=by show _=_;rw[bytes_beq];simp at h;simp[ru,h];rfl
  go_in;go_wp2_with fail;have hs2:=B2.o.size;refine pmb (nH t.word _ hw) fun w3 hb3=>?_;have B3:=hid (B2.o.trans (hb3.mono hs2));clear hb3;go_wp2_with fail;go_ret;exact⟨aC HV.o.symm,B3.o⟩
def jY(zs:List BY)(n:Nd):Bool:=decide (n.t.kind=15)&&Lib.containsS zs n.t.word
theorem MZ(st:Nd->Bool):∀(l:List Nd) (i:Nat) (h:i<l.length),(∀k (hk:k<i),st (l[k]'oo)=false)->st l[i]=true->bG st l=(l.take i,some l[i],l.drop (i+1))
 |n::r,0,h,_,h2=>by unfold bG;rw[if_pos (by simpa using h2)];rfl
 |n::r,i+1,h,h1,h2=>by have h0:=h1 0 oo;simp at h0;unfold bG;rw[if_neg (by rw[h0];simp),MZ st r i (by simpa using h) (fun k hk=>by simpa using h1 (k+1) oo) (by simpa using h2)];rfl
theorem Rf(st:Nd->Bool):∀(l:List Nd),(∀k (hk:k<l.length),st l[k]=false)->bG st l=(l,none,[])
 |[],_=>rfl
 |n::r,h1=>by have h0:=h1 0 Ab;simp at h0;unfold bG;rw[if_neg (by rw[h0];simp),Rf st r (fun k hk=>show st r[k]=false from h1 (k+1) (by simpa using hk))]
structure Rh(B:Nat)(w:WD)(c:List Nd×Option Nd×List Nd)(v1 sv v2:Av):Prop where
 ahead:Sl (fun b=>b<B) w v1 c.1
 behind:Sl (fun b=>b<B) w v2 c.2.2
 stop:match c.2.1 with|none=>sv=fB ⟨0,⟨#[]⟩,⟨#[]⟩⟩ (.slice none 0 0)|some n=>∃kv,sv=fB n.t kv/\Sl (fun b=>b<B) w kv n.kids/\dI n.t
def Rg(L B:Nat):Nat->Prop:=fun b=>L<=b/\b<B
theorem Sl.vO{L B B':Nat}{w w':WD}{v:Av}{ns:List Nd}(h:Sl (Rg L B) w v ns)(hb:Below B' w w')(hB:B<=B'):Sl (Rg L B) w' v ns:=h.keep (fun _ hg=>hg) fun g hg=>hb.block g (Nat.lt_of_lt_of_le hg.2 hB)
structure acL(L B:Nat)(w:WD)(c:List Nd×Option Nd×List Nd)(v1 sv v2:Av):Prop where
 ahead:Sl (Rg L B) w v1 c.1
 behind:Sl (Rg L B) w v2 c.2.2
 stop:match c.2.1 with|none=>sv=fB ⟨0,⟨#[]⟩,⟨#[]⟩⟩ (.slice none 0 0)|some n=>∃kv,sv=fB n.t kv/\Sl (Rg L B) w kv n.kids/\dI n.t
theorem acM(L B:Nat)(l:List Nd)(v:Av)(zs:List BY)(sg:Nat)(w:WD)(h:Sl (Rg L B) w v l)(hB:B<=w.heap.size)(hz:zs.length<=10)
  (hsg:sg<w.heap.size) (hc:∀j,j<zs.length->w.cell? ⟨sg,0+j,none⟩=some (.string (zs.getD j ByteArray.empty))):
  Calls prog 157 #[v,.slice (some ⟨sg,0,none⟩) zs.length zs.length] w fun e w'=>∃v1 sv v2,e=.returned (.tuple #[v1,sv,v2])/\acL L B w' (bG (jY zs) l) v1 sv v2/\Below w.heap.size w w':=by
 have FU:=h.len;have HS:=hid h;have HC:=hid hc;obtain⟨a,cap,rfl⟩:=h.form;clear h hc;have Z0:Hid (VB (w.alloc (.cells #[.int .i64 0,.string ⟨#[]⟩,.string ⟨#[]⟩,.slice none 0 0] 199)) w.heap.size (.int .i64 0) (.string ⟨#[]⟩) (.string ⟨#[]⟩) (.slice none 0 0)):=VB.new _ _ _ _ _;have B0:Hid (Below w.heap.size w (w.alloc (.cells #[.int .i64 0,.string ⟨#[]⟩,.string ⟨#[]⟩,.slice none 0 0] 199))):=Ax.alloc nl _;go_in;go_wp2_with fail;have hsz0:=B0.o.size;have hlt0:=Z0.o.lt;generalize w.alloc (.cells #[.int .i64 0,.string ⟨#[]⟩,.string ⟨#[]⟩,.slice none 0 0] 199)=w0 at *;obtain⟨rb,zV⟩:=Nm w.heap.size;have hrb:w.heap.size=rb:=zV.o
 have Z1:Hid (VB w0 rb (.int .i64 0) (.string ⟨#[]⟩) (.string ⟨#[]⟩) (.slice none 0 0)):=by rw[<-zV.o];exact Z0.o
 rw[zV.o]at B0 hlt0 hsz0 hB hsg⊢;clear Z0 hrb;go_loopg[11] l.length (fun gg v11 wr=>∃i:Nat,v11=.int .i64 (i:Int)/\i+gg=l.length/\Aside (Below w0.heap.size w0 wr/\∀k (hk:k<l.length),k<i->jY zs l[k]=false));case atStart=>exact⟨0,rfl,oo,Ax,fun k hk h=>by omega⟩
 case round=>
  obtain⟨i,rfl,hi,hA⟩:=hrel;have BR:=hid hA.o.1;have HN:=hid hA.o.2;clear hA;have hsr:=BR.o.size;have BW:=hid (B0.o.trans (BR.o.mono hsz0));by_cases hlt:i<l.length
  .have h1:(i:Int)<(l.length:Int):=oo;have S1:=HS.o.vO BW.o hB;obtain⟨g,o,rfl,hL,hcap⟩:=S1.here (by rintro rfl;simp at hlt);obtain⟨kv,hN⟩:=hL.node (i:=i) hlt;obtain⟨n,hn⟩:∃n,n=l[i]:=⟨_,rfl⟩;rw[<-hn]at hN;have Hn:=hid hn;have FY:=hid hN.ok;have HKV:=hid hN.k;obtain⟨ka,kc,rfl⟩:=hN.k.form;have d0:=hN.c0;have d1:=hN.c1;have d2:=hN.c2;have d3:=hN.c3;have hgB:g<B:=hN.s.2;clear hN hL S1 hn;have A2:Hid (VB (wr.alloc (.cells #[.int .i64 n.t.kind,.string n.t.word,.string n.t.unit,.slice ka n.kids.length kc] 199)) wr.heap.size (.int .i64 n.t.kind) (.string n.t.word) (.string n.t.unit) (.slice ka n.kids.length kc)):=VB.new _ _ _ _ _;have X2:Hid (Below wr.heap.size wr (wr.alloc (.cells #[.int .i64 n.t.kind,.string n.t.word,.string n.t.unit,.slice ka n.kids.length kc] 199))):=Ax.alloc nl _
   go_upto_region 4 with fail
   generalize wr.alloc (.cells #[.int .i64 n.t.kind,.string n.t.word,.string n.t.unit,.slice ka n.kids.length kc] 199)=w2 at *;obtain⟨gt,mV⟩:=Nm wr.heap.size;have A3:Hid (VB w2 gt (.int .i64 n.t.kind) (.string n.t.word) (.string n.t.unit) (.slice ka n.kids.length kc)):=by rw[<-mV.o];exact A2
   rw[mV.o];clear A2 d0 d1 d2 d3;obtain⟨a0,a1,a2,a3⟩:=A3.o.cs;have B2:=hid (BR.o.trans (X2.o.mono hsr));have BW2:=hid (B0.o.trans (B2.o.mono hsz0));have hs2:=B2.o.size;have IE:∀j,j<zs.length->w2.cell? ⟨sg,0+j,none⟩=some (.string (zs.getD j ByteArray.empty)):=fun j hj=>by rw[BW2.o.cell (p:=⟨sg,_,none⟩) hsg];exact HC.o j hj
   have HCT:=Tryz.slices_Contains_string sg 0 zs.length zs.length zs n.t.word w2 nl oo IE;rw[List.take_of_length_le nl]at HCT;obtain⟨z,Hz⟩:=Nm (Lib.containsS zs n.t.word);rw[Hz.o]at HCT;have agj:=hid HCT;clear HCT IE;cases hk:(n.t.kind==15)
   .have HST:Hid (jY zs n=false):=by show(decide (n.t.kind=15)&&_)=false;rw[show decide (n.t.kind=15)=false from by simpa using hk];rfl
    have HN2:Hid (∀k (hk:k<l.length),k<i+1->jY zs l[k]=false):=fun k hk hki=>by
     by_cases e:k=i
     .subst e;rw[<-Hn.o];exact HST.o
     .exact HN.o k hk oo
    go_wp2_with fail;go_roundg(gk-1);case measure=>omega
    case rel=>exact⟨i+1,by congr 1,oo,B2.o,HN2.o⟩
   .have hkd:decide (n.t.kind=15)=true:=by simpa using hk
    go_wp2_with fail;refine agj.o.mono ?_;rintro e wq ⟨rfl,hwq⟩;rw[hwq];clear hwq;cases z
    .have HST:Hid (jY zs n=false):=by show(decide (n.t.kind=15)&&_)=false;rw[Hz.o];exact Bool.and_false _
     have HN2:Hid (∀k (hk:k<l.length),k<i+1->jY zs l[k]=false):=fun k hk hki=>by
      by_cases e:k=i
      .subst e;rw[<-Hn.o];exact HST.o
      .exact HN.o k hk oo
     go_wp2_with fail;go_roundg(gk-1);case measure=>omega
     case rel=>exact⟨i+1,by congr 1,oo,B2.o,HN2.o⟩
    .have HST:Hid (jY zs n=true):=by show(decide (n.t.kind=15)&&_)=true;rw[Hz.o,hkd];rfl
     have HV:Hid (bG (jY zs) l=(l.take i,some n,l.drop (i+1))):=by
      show _=_;have hst:jY zs l[i]=true:=by rw[<-Hn.o];exact HST.o
      rw[Hn.o];exact MZ _ l i hlt (fun k hk=>HN.o k oo hk) hst
     have S2:=HS.o.vO BW2.o hB;obtain⟨hr1,hS1⟩:=S2.ajd i oo;obtain⟨ra,rc,hr2,hS2⟩:=S2.rests (i+1) oo;rw[show(((i+1:Nat)):Int)=(i:Int)+1 by omega]at hr2;have HS1:=hid hS1;have HS2:=hid hS2;have HK2:=hid (HKV.o.vO X2.o oo);clear hS1 hS2 S2 hkd;have hwi:IntKind.i64.wrap ((i:Int)+1)=(i:Int)+1:=by rw[IntKind.wrap_i64];omega
     have Z2:Hid (VB w2 rb (.int .i64 0) (.string ⟨#[]⟩) (.string ⟨#[]⟩) (.slice none 0 0)):=by show _=_;rw[B2.o.block rb hlt0];exact Z1.o
     have z0:=Z2.o.fz 0;have z1:=Z2.o.fz 1;have z2:=Z2.o.fz 2;have z3:=Z2.o.fz 3;obtain⟨q0,q1,q2,q3⟩:=Z2.o.cs;have hne:gt≠rb:=by have:=mV.o;omega
     go_wp2_with fail;refine wp_region_any Ao ?_;change wpAny _ _ _ _ _ _ _ (World.drew _);have AD:Hid (VB w2.drew gt (.int .i64 n.t.kind) (.string n.t.word) (.string n.t.unit) (.slice ka n.kids.length kc)):=A3.o;have A9:Hid (VB (qF w2.drew rb (.int .i64 n.t.kind) (.string n.t.word) (.string n.t.unit) (.slice ka n.kids.length kc)) gt (.int .i64 n.t.kind) (.string n.t.word) (.string n.t.unit) (.slice ka n.kids.length kc)):=by show _=_;rw[jv w2.drew hne];exact A3.o
     have BD:Hid (Below rb w w2.drew):=BW2.o.drew;refine wpAny_of_held (S:=fun wx=>VB wx gt (.int .i64 n.t.kind) (.string n.t.word) (.string n.t.unit) (.slice ka n.kids.length kc)) _ _ _ _ ?_;clear a0 a1 a2 a3;refine dH 0 rfl AD.o (by intro w hSw;obtain⟨a0,a1,a2,a3⟩:=hSw.cs;exact gs) ?_;refine dH 1 rfl AD.o (by intro w hSw;obtain⟨a0,a1,a2,a3⟩:=hSw.cs;exact gs) ?_;refine dH 2 rfl AD.o (by intro w hSw;obtain⟨a0,a1,a2,a3⟩:=hSw.cs;exact gs) ?_;refine dH 3 rfl AD.o (by intro w hSw;obtain⟨a0,a1,a2,a3⟩:=hSw.cs;exact gs) ?_;refine dH 4 rfl AD.o (by intro w hSw;obtain⟨a0,a1,a2,a3⟩:=hSw.cs;exact gs) ?_;refine dH 5 rfl AD.o (by intro w hSw;obtain⟨a0,a1,a2,a3⟩:=hSw.cs;exact gs) ?_
     refine dH 6 rfl AD.o (by intro w hSw;obtain⟨a0,a1,a2,a3⟩:=hSw.cs;exact gs) ?_;refine dH 7 rfl AD.o (by intro w hSw;obtain⟨a0,a1,a2,a3⟩:=hSw.cs;exact gs) ?_;refine iW 8 fun K hK=>?_;go_simp;refine hK.o _ _ (AD.o) (fun _=>?_);clear hK K;refine iW 9 fun K hK=>?_;go_simp;refine hK.o _ _ (A9.o) (fun _=>?_);clear hK K;refine iW 10 fun K hK=>?_;go_simp;refine hK.o _ _ (A9.o) (fun _=>?_);clear hK K;refine wpAnyH_done Ao ?_ _;go_wp2_with fail;refine bodyPost_ret (v:=.tuple #[.slice (some ⟨g,o,none⟩) i cap,fB n.t (.slice ka n.kids.length kc),.slice ra (l.length-(i+1)) rc]) (by simp[results,Tryz.results157,go_sem,fB,q0,q1,q2,q3]) rfl ?_
     have hst:∀k,k<B->(qF w2.drew rb (.int .i64 n.t.kind) (.string n.t.word) (.string n.t.unit) (.slice ka n.kids.length kc)).heap[k]?=w2.heap[k]?:=fun k hk=>jv w2.drew oo _ _ _ _;exact⟨_,_,_,rfl,by rw[HV.o];exact⟨HS1.o.keep (fun _ hg=>hg) (fun k hk=>hst k hk.2),HS2.o.keep (fun _ hg=>hg) (fun k hk=>hst k hk.2),⟨_,rfl,HK2.o.keep (fun _ hg=>hg) (fun k hk=>hst k hk.2),FY.o⟩⟩,by rw[zV.o];exact oO BD.o nl _ _ _ _⟩
  .have h1:(l.length:Int)<=(i:Int):=oo;have HV:Hid (bG (jY zs) l=(l,none,[])):=Rf _ l fun k hk=>HN.o k hk oo;have Z2:Hid (VB wr rb (.int .i64 0) (.string ⟨#[]⟩) (.string ⟨#[]⟩) (.slice none 0 0)):=by show _=_;rw[BR.o.block rb hlt0];exact Z1.o
   have z0:=Z2.o.fz 0;have z1:=Z2.o.fz 1;have z2:=Z2.o.fz 2;have z3:=Z2.o.fz 3;obtain⟨q0,q1,q2,q3⟩:=Z2.o.cs;go_wp2_with fail;refine bodyPost_ret (v:=.tuple #[.slice a l.length cap,fB ⟨0,⟨#[]⟩,⟨#[]⟩⟩ (.slice none 0 0),.slice none 0 0]) (by simp[results,Tryz.results157,go_sem,fB,q0,q1,q2,q3]) rfl ?_;exact⟨_,_,_,rfl,by rw[HV.o];exact⟨(HS.o.vO BW.o hB).keep (fun _ hg=>hg) (fun k hk=>jv wr (by have hk':k<B:=hk.2;omega) _ _ _ _),Sl.nil _ _,rfl⟩,by rw[zV.o];exact oO BW.o nl _ _ _ _⟩
theorem ail(B:Nat)(l:List Nd)(v:Av)(zs:List BY)(sg:Nat)(w:WD)(h:Sl (fun b=>b<B) w v l)(hB:B<=w.heap.size)(hz:zs.length<=10)
  (hsg:sg<w.heap.size) (hc:∀j,j<zs.length->w.cell? ⟨sg,0+j,none⟩=some (.string (zs.getD j ByteArray.empty))):
  Calls prog 157 #[v,.slice (some ⟨sg,0,none⟩) zs.length zs.length] w fun e w'=>∃v1 sv v2,e=.returned (.tuple #[v1,sv,v2])/\Rh B w' (bG (jY zs) l) v1 sv v2/\Below w.heap.size w w':=by
 refine(acM 0 B l v zs sg w (h.keep (fun _ hb=>⟨Nat.zero_le _,hb⟩) (fun _ _=>rfl)) hB hz hsg hc).mono ?_;rintro e w' ⟨v1,sv,v2,h1,h2,h3⟩;refine⟨v1,sv,v2,h1,⟨h2.ahead.keep (fun _ hb=>hb.2) (fun _ _=>rfl),h2.behind.keep (fun _ hb=>hb.2) (fun _ _=>rfl),?_⟩,h3⟩;have h4:=h2.stop;generalize(bG (jY zs) l).2.1=o at h4⊢;cases o with
 |none=>exact h4
 |some n=>obtain⟨kv,a1,a2,a3⟩:=h4;exact⟨kv,a1,a2.keep (fun _ hb=>hb.2) (fun _ _=>rfl),a3⟩
end
section
attribute [local go_sem] bI bJ aX aY
def Q4(T:TypeId)(w:WD)(b:Nat)(x0 x1 x2 x3:Av):Prop:=w.heap[b]?=some (.cells #[x0,x1,x2,x3] T (0,0))
section
variable {T:TypeId} {w w':WD} {b:Nat} {x0 x1 x2 x3:Av}
theorem Q4.lt(h:Q4 T w b x0 x1 x2 x3):b<w.heap.size:=(Ay h)
theorem Q4.cs(h:Q4 T w b x0 x1 x2 x3):w.cell? ⟨b,0,none⟩=some x0/\w.cell? ⟨b,1,none⟩=some x1/\w.cell? ⟨b,2,none⟩=some x2/\w.cell? ⟨b,3,none⟩=some x3:=by have h':w.heap[b]?=_:=h;refine⟨?_,?_,?_,?_⟩<;>(unfold World.cell?;rw[h'];rfl)
theorem Q4.fz(h:Q4 T w b x0 x1 x2 x3)(o:Nat):w.frozen? ⟨b,o,none⟩=false:=by have h':w.heap[b]?=_:=h;unfold World.frozen?;rw[h'];simp
theorem Q4.below(h:Q4 T w b x0 x1 x2 x3)(hb:Below w.heap.size w w'):Q4 T w' b x0 x1 x2 x3:=by show _=_;rw[hb.block b h.lt];exact h
theorem Q4.alloc(h:Q4 T w b x0 x1 x2 x3)(o:Obj):Q4 T (w.alloc o) b x0 x1 x2 x3:=h.below (Ax.alloc nl _)
theorem Q4.new(T:TypeId)(w:WD)(x0 x1 x2 x3:Av):Q4 T (w.alloc (.cells #[x0,x1,x2,x3] T)) w.heap.size x0 x1 x2 x3:=heap_alloc_new w _
end
theorem y9(zs:List BY)(x:BY):Lib.containsS zs x=zs.any (fun z=>decide (x=z)):=by
 rw[Bool.eq_iff_iff,Lib.containsS_iff,List.any_eq_true];constructor
 .intro h;exact⟨x,h,by simp⟩
 .rintro ⟨z,h1,h2⟩;rw[decide_eq_true_eq]at h2;rw[h2];exact h1
theorem stop2(n:Nd):jY [⟨#[59]⟩,⟨#[123]⟩] n=(aS n||aK n):=by
 unfold jY aS aK dN au b1;rw[y9];cases decide (n.t.kind=15)
 .rfl
 .by_cases h1:n.t.word=⟨#[59]⟩<;>by_cases h2:n.t.word=⟨#[123]⟩<;>simp[h1,h2]
theorem stop1(n:Nd):jY [⟨#[123]⟩] n=aK n:=by
 unfold jY aK dN au b1;rw[y9];cases decide (n.t.kind=15)
 .rfl
 .by_cases h2:n.t.word=⟨#[123]⟩<;>simp[h2]
theorem ak5(n:Nd):jY [⟨#[59]⟩] n=aS n:=by
 unfold jY aS dN au b1;rw[y9];cases decide (n.t.kind=15)
 .rfl
 .by_cases h2:n.t.word=⟨#[59]⟩<;>simp[h2]
theorem Rh.val{B:Nat}{w:WD}{c:List Nd×Option Nd×List Nd}{v1 sv v2:Av}(h:Rh B w c v1 sv v2):∃(t:Tok) (ka:Option Addr) (ks:List Nd) (kc:Nat),sv=fB t (.slice ka ks.length kc)/\Sl (fun b=>b<B) w (.slice ka ks.length kc) ks/\(gV c.2.1).isSome=au t (b1 123)/\∀b,gV c.2.1=some b->ks=b:=by
 have h3:=h.stop;cases hc:c.2.1 with
 |none=>rw[hc]at h3;exact⟨_,none,[],0,h3,Sl.nil _ _,rfl,fun b hb=>by cases hb⟩
 |some n=>
  rw[hc]at h3;obtain⟨kv,rfl,hk,_⟩:=h3;obtain⟨ka,kc,rfl⟩:=hk.form;refine⟨n.t,ka,n.kids,kc,rfl,hk,?_,fun b hb=>?_⟩
  .show(if aK n=true then some n.kids else none).isSome=dN n (b1 123);show(if dN n (b1 123)=true then some n.kids else none).isSome=dN n (b1 123);cases dN n (b1 123)<;>rfl
  .unfold gV at hb;simp only at hb;split at hb
   .cases hb;rfl
   .cases hb
structure ak6(B:Nat)(w:WD)(hd:List Nd)(bo:Option (List Nd))(hv bv:Av):Prop where
 head:Sl (fun b=>b<B) w hv hd
 body:∃bl,Sl (fun b=>b<B) w bv bl/\∀b,bo=some b->bl=b
theorem acL.val{L B:Nat}{w:WD}{c:List Nd×Option Nd×List Nd}{v1 sv v2:Av}(h:acL L B w c v1 sv v2):∃(t:Tok) (ka:Option Addr) (ks:List Nd) (kc:Nat),sv=fB t (.slice ka ks.length kc)/\Sl (Rg L B) w (.slice ka ks.length kc) ks/\(gV c.2.1).isSome=au t (b1 123)/\∀b,gV c.2.1=some b->ks=b:=by
 have h3:=h.stop;cases hc:c.2.1 with
 |none=>rw[hc]at h3;exact⟨_,none,[],0,h3,Sl.nil _ _,rfl,fun b hb=>by cases hb⟩
 |some n=>
  rw[hc]at h3;obtain⟨kv,rfl,hk,_⟩:=h3;obtain⟨ka,kc,rfl⟩:=hk.form;refine⟨n.t,ka,n.kids,kc,rfl,hk,?_,fun b hb=>?_⟩
  .show(if aK n=true then some n.kids else none).isSome=dN n (b1 123);show(if dN n (b1 123)=true then some n.kids else none).isSome=dN n (b1 123);cases dN n (b1 123)<;>rfl
  .unfold gV at hb;simp only at hb;split at hb
   .cases hb;rfl
   .cases hb
structure acN(L B:Nat)(w:WD)(hd:List Nd)(bo:Option (List Nd))(hv bv:Av):Prop where
 head:Sl (Rg L B) w hv hd
 body:∃bl,Sl (Rg L B) w bv bl/\∀b,bo=some b->bl=b
theorem Ri(L B:Nat)(n:Nd)(r:List Nd)(v:Av)(w:WD)(h:Sl (Rg L B) w v (n::r))(hB:B<=w.heap.size):
  Calls prog 156 #[v] w fun e w'=>∃hv bv v2,e=.returned (.tuple #[.agg #[.string n.t.word,hv,.bool (gV (bG (fun m=>aS m||aK m) r).2.1).isSome,bv],v2]) /\
   acN L B w' (bG (fun m=>aS m||aK m) r).1 (gV (bG (fun m=>aS m||aK m) r).2.1) hv bv/\Sl (Rg L B) w' v2 (bG (fun m=>aS m||aK m) r).2.2/\Below w.heap.size w w':=by
 have FB:=hid (funext stop2);obtain⟨c,Hc⟩:=Nm (bG (fun m=>aS m||aK m) r);rw[Hc.o];obtain⟨g,o,nv,cap,rfl,hN,hcap⟩:=h.head;obtain⟨a',hr1,hS1⟩:=h.MH;have HS1:=hid hS1;have hgB:g<B:=hN.s.2;have HNC:Hid (∀wx,Below w.heap.size w wx->wx.cell? ⟨g,o+1,none⟩=some (.string n.t.word)):=fun wx hb=>by rw[hb.cell (p:=⟨g,_,none⟩) (show g<w.heap.size by omega)];exact hN.c1
 have FU:=h.len;clear h hS1 hN;have R0:Hid (Q4 130 (w.alloc (.cells #[.string ⟨#[]⟩,.slice none 0 0,.bool false,.slice none 0 0] 130)) w.heap.size (.string ⟨#[]⟩) (.slice none 0 0) (.bool false) (.slice none 0 0)):=Q4.new _ _ _ _ _ _;have B0:Hid (Below w.heap.size w (w.alloc (.cells #[.string ⟨#[]⟩,.slice none 0 0,.bool false,.slice none 0 0] 130))):=Ax.alloc nl _;go_in;go_upto_region 1 with fail
 have hsz0:=B0.o.size;have hlt0:=R0.o.lt;generalize w.alloc (.cells #[.string ⟨#[]⟩,.slice none 0 0,.bool false,.slice none 0 0] 130)=w0 at *;obtain⟨rb,zV⟩:=Nm w.heap.size;rw[zV.o]at B0 R0 hB hlt0 hsz0 HNC⊢;have S0:=hid (HS1.o.vO B0.o hB);clear HS1;have B1:Hid (Below w0.heap.size w0 (w0.alloc (.cells #[.string ⟨#[59]⟩,.string ⟨#[123]⟩] 9))):=Ax.alloc nl _;have IE:Hid (∀j,j<2->(w0.alloc (.cells #[.string ⟨#[59]⟩,.string ⟨#[123]⟩] 9)).cell? ⟨w0.heap.size,0+j,none⟩=some (.string ([(⟨#[59]⟩:BY),⟨#[123]⟩].getD j ByteArray.empty))):=by intro j hj;have hh:(w0.alloc (.cells #[.string ⟨#[59]⟩,.string ⟨#[123]⟩] 9)).heap[w0.heap.size]?=_:=heap_alloc_new w0 _;unfold World.cell?;rw[hh];rcases(show j=0\/j=1 by omega)with rfl|rfl<;>rfl
 go_wp2_with fail;have hs1:=B1.o.size;have hlt1:w0.heap.size<(w0.alloc (.cells #[.string ⟨#[59]⟩,.string ⟨#[123]⟩] 9)).heap.size:=by simp
 generalize w0.alloc (.cells #[.string ⟨#[59]⟩,.string ⟨#[123]⟩] 9)=w1 at *;refine(acM L B r _ [⟨#[59]⟩,⟨#[123]⟩] _ w1 (S0.o.vO B1.o oo) oo Ab hlt1 IE.o).mono ?_;rw[FB.o,Hc.o];rintro e w2 ⟨v1,sv,v2,rfl,hcut,hb2⟩;obtain⟨t,ka,ks,kc,rfl,hks,hsome,hbody⟩:=hcut.val;obtain⟨va,vc,rfl⟩:=hcut.ahead.form;obtain⟨ba,bc,rfl⟩:=hcut.behind.form;have B2:=hid (B1.o.trans (hb2.mono hs1));have BW2:=hid (B0.o.trans (B2.o.mono hsz0));have HA:=hid hcut.ahead;have HBH:=hid hcut.behind;have HKS:=hid hks;have HSM:=hid hsome;have VT:=hid hbody
 have R2:Hid (Q4 130 w2 rb (.string ⟨#[]⟩) (.slice none 0 0) (.bool false) (.slice none 0 0)):=by show _=_;rw[B2.o.block rb hlt0];exact R0.o
 have hs2:=B2.o.size;clear hcut hks hsome hbody hb2 S0 IE hlt1 B1;unfold fB;have A3:Hid (VB (w2.alloc (.cells #[.int .i64 t.kind,.string t.word,.string t.unit,.slice ka ks.length kc] 199)).drew w2.heap.size (.int .i64 t.kind) (.string t.word) (.string t.unit) (.slice ka ks.length kc)):=VB.new _ _ _ _ _;have X3:Hid (Below w2.heap.size w2 (w2.alloc (.cells #[.int .i64 t.kind,.string t.word,.string t.unit,.slice ka ks.length kc] 199)).drew):=(Ax.alloc nl _).drew;go_wp2_with fail;refine wp_region_any Ao ?_;change wpAny _ _ _ _ _ _ _ (World.drew _);generalize(w2.alloc (.cells #[.int .i64 t.kind,.string t.word,.string t.unit,.slice ka ks.length kc] 199)).drew=w3 at *;obtain⟨gt,mV⟩:=Nm w2.heap.size;have A4:Hid (VB w3 gt (.int .i64 t.kind) (.string t.word) (.string t.unit) (.slice ka ks.length kc)):=by rw[<-mV.o];exact A3.o
 rw[mV.o];have BW3:=hid (BW2.o.trans (X3.o.mono oo));have R3:=hid (R2.o.below X3.o);have HS3:Below rb w w3/\VB w3 gt (.int .i64 t.kind) (.string t.word) (.string t.unit) (.slice ka ks.length kc):=⟨BW3.o,A4.o⟩;have OC:=hid HS3;clear HS3 A3;obtain⟨sb,Hsb⟩:=Nm (au t (b1 123));rw[Hsb.o]at HSM;refine wpAny_of_held (S:=fun wx=>Below rb w wx/\VB wx gt (.int .i64 t.kind) (.string t.word) (.string t.unit) (.slice ka ks.length kc)) _ _ _ _ ?_;refine dH 0 rfl OC.o (fun _ _=>gs) ?_;refine dH 1 rfl OC.o (fun _ _=>gs) ?_
 refine dH 2 rfl OC.o (fun _ _=>gs) ?_;refine dH 3 rfl OC.o (fun _ _=>gs) ?_;refine dH 4 rfl OC.o (by intro w hSw;have q1:=HNC.o w hSw.1;exact gs) ?_;refine dH 5 rfl OC.o (fun _ _=>gs) ?_;refine dH 6 rfl OC.o (by intro w hSw;obtain⟨a0,a1,a2,a3⟩:=hSw.2.cs;exact gs) ?_;refine dH 8 rfl OC.o (by intro w hSw;obtain⟨a0,a1,a2,a3⟩:=hSw.2.cs;exact gs) ?_;refine dH 9 rfl OC.o (by intro w hSw;obtain⟨a0,a1,a2,a3⟩:=hSw.2.cs;exact gs) ?_;refine dH 11 rfl OC.o (fun _ _=>gs) ?_;refine iW 7 fun K hK=>?_;go_simp;refine(jf t _ (b1 123) _).mono ?_;rw[Hsb.o];rintro e w4 ⟨rfl,hb4⟩
 have X4:=hid (AC X3.o hb4);have BW4:=hid (BW2.o.trans (X4.o.mono oo));have OD:Hid (Below rb w w4/\VB w4 gt (.int .i64 t.kind) (.string t.word) (.string t.unit) (.slice ka ks.length kc)):=⟨BW4.o,A4.o.below hb4⟩;have R4:=hid (R3.o.below hb4);clear hb4 R3 R2;refine hK.o _ _ OD.o (fun _=>?_);clear hK K;refine dH 10 rfl OD.o (fun _ _=>gs) ?_;have z0:=R4.o.fz 0;have z1:=R4.o.fz 1;have z2:=R4.o.fz 2;have z3:=R4.o.fz 3;obtain⟨q0,q1,q2,q3⟩:=R4.o.cs;have hne:gt≠rb:=by have:=mV.o;omega
 have HH5:Hid (Below rb w (qF w4 rb (.string n.t.word) (.slice va c.1.length vc) (.bool sb) (.slice ka ks.length kc))/\VB (qF w4 rb (.string n.t.word) (.slice va c.1.length vc) (.bool sb) (.slice ka ks.length kc)) gt (.int .i64 t.kind) (.string t.word) (.string t.unit) (.slice ka ks.length kc)):=⟨oO BW4.o nl _ _ _ _,by show _=_;rw[jv w4 hne];exact OD.o.2⟩;refine iW 12 fun K hK=>?_;go_simp;refine hK.o _ _ (HH5.o) (fun _=>?_);clear hK K;refine iW 13 fun K hK=>?_;go_simp;refine hK.o _ _ (HH5.o) (fun _=>?_);clear hK K;refine wpAnyH_done Ao ?_ _;go_wp2_with fail;refine bodyPost_ret (v:=.tuple #[.agg #[.string n.t.word,.slice va c.1.length vc,.bool sb,.slice ka ks.length kc],.slice ba c.2.2.length bc]) (by simp[results,Tryz.results156,go_sem,q0,q1,q2,q3]) rfl ?_
 have hst:∀k,k<B->(qF w4 rb (.string n.t.word) (.slice va c.1.length vc) (.bool sb) (.slice ka ks.length kc)).heap[k]?=w2.heap[k]?:=fun k hk=>by rw[jv w4 oo];exact X4.o.block k oo
 exact⟨_,_,_,by rw[HSM.o],⟨HA.o.keep (fun _ hg=>hg) (fun k hk=>hst k hk.2),ks,HKS.o.keep (fun _ hg=>hg) (fun k hk=>hst k hk.2),VT.o⟩,HBH.o.keep (fun _ hg=>hg) (fun k hk=>hst k hk.2),by rw[zV.o];exact HH5.o.1⟩
theorem acO(B:Nat)(n:Nd)(r:List Nd)(v:Av)(w:WD)(h:Sl (fun b=>b<B) w v (n::r))(hB:B<=w.heap.size):
  Calls prog 156 #[v] w fun e w'=>∃hv bv v2,e=.returned (.tuple #[.agg #[.string n.t.word,hv,.bool (gV (bG (fun m=>aS m||aK m) r).2.1).isSome,bv],v2]) /\
   ak6 B w' (bG (fun m=>aS m||aK m) r).1 (gV (bG (fun m=>aS m||aK m) r).2.1) hv bv/\Sl (fun b=>b<B) w' v2 (bG (fun m=>aS m||aK m) r).2.2/\Below w.heap.size w w':=by
 refine(Ri 0 B n r v w (h.keep (fun _ hb=>⟨Nat.zero_le _,hb⟩) (fun _ _=>rfl)) hB).mono ?_;rintro e w' ⟨hv,bv,v2,h1,h2,h3,h4⟩;obtain⟨bl,b1,b2⟩:=h2.body;exact⟨hv,bv,v2,h1,⟨h2.head.keep (fun _ hb=>hb.2) (fun _ _=>rfl),bl,b1.keep (fun _ hb=>hb.2) (fun _ _=>rfl),b2⟩,h3.keep (fun _ hb=>hb.2) (fun _ _=>rfl),h4⟩
end
section
attribute [local go_sem] bI bJ aX aY
def iY(n:Nd)(r:List Nd):BY×List Nd×Option (List Nd)×List Nd:=
 if n.t.kind=10 then(n.t.word,(bG (fun m=>aS m||aK m) r).1,gV (bG (fun m=>aS m||aK m) r).2.1,(bG (fun m=>aS m||aK m) r).2.2)
 else(aA,(bG aK (n::r)).1,gV (bG aK (n::r)).2.1,(bG aK (n::r)).2.2)
theorem VU(L B:Nat)(n:Nd)(r:List Nd)(v:Av)(w:WD)(h:Sl (Rg L B) w v (n::r))(hB:B<=w.heap.size):
  Calls prog 187 #[v] w fun e w'=>∃hv bv v2,e=.returned (.tuple #[.agg #[.string (iY n r).1,hv,.bool (iY n r).2.2.1.isSome,bv],v2]) /\
   acN L B w' (iY n r).2.1 (iY n r).2.2.1 hv bv/\Sl (Rg L B) w' v2 (iY n r).2.2.2/\Below w.heap.size w w':=by
 obtain⟨g,o,nv,cap,rfl,hN,hcap⟩:=h.head;have HS:=hid h;have hgB:g<B:=hN.s.2;have HNC:Hid (∀wx,Below w.heap.size w wx->wx.cell? ⟨g,o,none⟩=some (.int .i64 n.t.kind)):=fun wx hb=>by rw[hb.cell (p:=⟨g,_,none⟩) (show g<w.heap.size by omega)];exact hN.c0
 have FU:=h.len;clear h hN;have R0:Hid (Q4 130 (w.alloc (.cells #[.string ⟨#[]⟩,.slice none 0 0,.bool false,.slice none 0 0] 130)) w.heap.size (.string ⟨#[]⟩) (.slice none 0 0) (.bool false) (.slice none 0 0)):=Q4.new _ _ _ _ _ _;have B0:Hid (Below w.heap.size w (w.alloc (.cells #[.string ⟨#[]⟩,.slice none 0 0,.bool false,.slice none 0 0] 130))):=Ax.alloc nl _;go_in;go_upto_region 1 with fail
 have hsz0:=B0.o.size;have hlt0:=R0.o.lt;generalize w.alloc (.cells #[.string ⟨#[]⟩,.slice none 0 0,.bool false,.slice none 0 0] 130)=w0 at *;obtain⟨rb,zV⟩:=Nm w.heap.size;rw[zV.o]at B0 R0 hB hlt0 hsz0 HNC⊢;have S0:=hid (HS.o.vO B0.o hB);have c0:=HNC.o w0 B0.o;clear HS;cases hk:(n.t.kind==10)
 .have hk':¬n.t.kind=10:=by simpa using hk
  obtain⟨c,Hc⟩:=Nm (bG aK (n::r));have HO:Hid (iY n r=(aA,c.1,gV c.2.1,c.2.2)):=by show _=_;unfold iY;rw[if_neg hk',Hc.o]
  have FB:=hid (funext stop1);clear hk';have B1:Hid (Below w0.heap.size w0 (w0.alloc (.cells #[.string ⟨#[123]⟩] 9))):=Ax.alloc nl _;have IE:Hid (∀j,j<1->(w0.alloc (.cells #[.string ⟨#[123]⟩] 9)).cell? ⟨w0.heap.size,0+j,none⟩=some (.string ([(⟨#[123]⟩:BY)].getD j ByteArray.empty))):=by intro j hj;have hh:(w0.alloc (.cells #[.string ⟨#[123]⟩] 9)).heap[w0.heap.size]?=_:=heap_alloc_new w0 _;unfold World.cell?;rw[hh];obtain rfl:j=0:=oo;rfl
  go_wp2_with fail;have hs1:=B1.o.size;have hlt1:w0.heap.size<(w0.alloc (.cells #[.string ⟨#[123]⟩] 9)).heap.size:=by simp
  generalize w0.alloc (.cells #[.string ⟨#[123]⟩] 9)=w1 at *;refine(acM L B (n::r) _ [⟨#[123]⟩] _ w1 (S0.o.vO B1.o oo) oo Ab hlt1 IE.o).mono ?_;rw[FB.o,Hc.o];rintro e w2 ⟨v1,sv,v2,rfl,hcut,hb2⟩;obtain⟨t,ka,ks,kc,rfl,hks,hsome,hbody⟩:=hcut.val;obtain⟨va,vc,rfl⟩:=hcut.ahead.form;obtain⟨ba,bc,rfl⟩:=hcut.behind.form;have B2:=hid (B1.o.trans (hb2.mono hs1));have BW2:=hid (B0.o.trans (B2.o.mono hsz0));have HA:=hid hcut.ahead;have HBH:=hid hcut.behind;have HKS:=hid hks;have HSM:=hid hsome;have VT:=hid hbody
  have R2:Hid (Q4 130 w2 rb (.string ⟨#[]⟩) (.slice none 0 0) (.bool false) (.slice none 0 0)):=by show _=_;rw[B2.o.block rb hlt0];exact R0.o
  have hs2:=B2.o.size;clear hcut hks hsome hbody hb2 S0 IE hlt1 B1 c0;unfold fB;have A3:Hid (VB (w2.alloc (.cells #[.int .i64 t.kind,.string t.word,.string t.unit,.slice ka ks.length kc] 199)).drew w2.heap.size (.int .i64 t.kind) (.string t.word) (.string t.unit) (.slice ka ks.length kc)):=VB.new _ _ _ _ _;have X3:Hid (Below w2.heap.size w2 (w2.alloc (.cells #[.int .i64 t.kind,.string t.word,.string t.unit,.slice ka ks.length kc] 199)).drew):=(Ax.alloc nl _).drew;go_wp2_with fail;refine wp_region_any Ao ?_;change wpAny _ _ _ _ _ _ _ (World.drew _);generalize(w2.alloc (.cells #[.int .i64 t.kind,.string t.word,.string t.unit,.slice ka ks.length kc] 199)).drew=w3 at *;obtain⟨gt,mV⟩:=Nm w2.heap.size
  have A4:Hid (VB w3 gt (.int .i64 t.kind) (.string t.word) (.string t.unit) (.slice ka ks.length kc)):=by rw[<-mV.o];exact A3.o
  rw[mV.o];have R3:=hid (R2.o.below X3.o);clear A3;obtain⟨sb,Hsb⟩:=Nm (au t (b1 123));rw[Hsb.o]at HSM;refine wpAny_of_held (S:=fun wx=>VB wx gt (.int .i64 t.kind) (.string t.word) (.string t.unit) (.slice ka ks.length kc)) _ _ _ _ ?_;refine dH 0 rfl A4.o (fun _ _=>gs) ?_;refine dH 1 rfl A4.o (by intro w hSw;obtain⟨a0,a1,a2,a3⟩:=hSw.cs;exact gs) ?_;refine dH 3 rfl A4.o (by intro w hSw;obtain⟨a0,a1,a2,a3⟩:=hSw.cs;exact gs) ?_;refine dH 4 rfl A4.o (by intro w hSw;obtain⟨a0,a1,a2,a3⟩:=hSw.cs;exact gs) ?_;refine dH 6 rfl A4.o (fun _ _=>gs) ?_;refine iW 2 fun K hK=>?_;go_simp
  refine(jf t _ (b1 123) _).mono ?_;rw[Hsb.o];rintro e w4 ⟨rfl,hb4⟩;have X4:=hid (AC X3.o hb4);have BW4:=hid (BW2.o.trans (X4.o.mono oo));have A5:=hid (A4.o.below hb4);have R4:=hid (R3.o.below hb4);clear hb4 R3 R2;refine hK.o _ _ A5.o (fun _=>?_);clear hK K;refine dH 5 rfl A5.o (fun _ _=>gs) ?_;have z0:=R4.o.fz 0;have z1:=R4.o.fz 1;have z2:=R4.o.fz 2;have z3:=R4.o.fz 3;obtain⟨q0,q1,q2,q3⟩:=R4.o.cs;have hne:gt≠rb:=by have:=mV.o;omega
  have HB5:Hid (Below rb w (qF w4 rb (.string ⟨#[]⟩) (.slice va c.1.length vc) (.bool sb) (.slice ka ks.length kc))):=oO BW4.o nl _ _ _ _;have A6:Hid (VB (qF w4 rb (.string ⟨#[]⟩) (.slice va c.1.length vc) (.bool sb) (.slice ka ks.length kc)) gt (.int .i64 t.kind) (.string t.word) (.string t.unit) (.slice ka ks.length kc)):=by show _=_;rw[jv w4 hne];exact A5.o
  refine iW 7 fun K hK=>?_;go_simp;refine hK.o _ _ (A6.o) (fun _=>?_);clear hK K;refine iW 8 fun K hK=>?_;go_simp;refine hK.o _ _ (A6.o) (fun _=>?_);clear hK K;refine wpAnyH_done Ao ?_ _;go_wp2_with fail;refine bodyPost_ret (v:=.tuple #[.agg #[.string ⟨#[]⟩,.slice va c.1.length vc,.bool sb,.slice ka ks.length kc],.slice ba c.2.2.length bc]) (by simp[results,Tryz.results187,go_sem,q0,q1,q2,q3]) rfl ?_;have hst:∀k,k<B->(qF w4 rb (.string ⟨#[]⟩) (.slice va c.1.length vc) (.bool sb) (.slice ka ks.length kc)).heap[k]?=w2.heap[k]?:=fun k hk=>by rw[jv w4 oo];exact X4.o.block k oo
  rw[HO.o];exact⟨_,_,_,by rw[HSM.o];rfl,⟨HA.o.keep (fun _ hg=>hg) (fun k hk=>hst k hk.2),ks,HKS.o.keep (fun _ hg=>hg) (fun k hk=>hst k hk.2),VT.o⟩,HBH.o.keep (fun _ hg=>hg) (fun k hk=>hst k hk.2),by rw[zV.o];exact HB5.o⟩
 .have hk':n.t.kind=10:=by simpa using hk
  obtain⟨c,Hc⟩:=Nm (bG (fun m=>aS m||aK m) r);have HO:Hid (iY n r=(n.t.word,c.1,gV c.2.1,c.2.2)):=by show _=_;unfold iY;rw[if_pos hk',Hc.o]
  clear hk';go_wp2_with fail;refine(Ri L B n r _ w0 S0.o oo).mono ?_;rw[Hc.o];rintro e w2 ⟨hv,bv,v2,rfl,Rj,hbh,hb2⟩;obtain⟨va,vc,rfl⟩:=Rj.head.form;obtain⟨bl,hbl,hbe⟩:=Rj.body;obtain⟨ka,kc,rfl⟩:=hbl.form;obtain⟨ba,bc,rfl⟩:=hbh.form;obtain⟨sb,Hsb⟩:=Nm ((gV c.2.1).isSome);rw[Hsb.o];have BW2:=hid (B0.o.trans (hb2.mono hsz0));have HA:=hid Rj.head;have HBH:=hid hbh;have HKS:=hid hbl;have VT:=hid hbe;have R2:=hid (R0.o.below hb2);clear Rj hbl hbe hbh hb2 S0 c0;have z0:=R2.o.fz 0;have z1:=R2.o.fz 1;have z2:=R2.o.fz 2;have z3:=R2.o.fz 3
  obtain⟨q0,q1,q2,q3⟩:=R2.o.cs;go_wp2_with fail;refine bodyPost_ret (v:=.tuple #[.agg #[.string n.t.word,.slice va c.1.length vc,.bool sb,.slice ka bl.length kc],.slice ba c.2.2.length bc]) (by simp[results,Tryz.results187,go_sem,q0,q1,q2,q3]) rfl ?_;have hst:∀k,k<B->(qF w2 rb (.string n.t.word) (.slice va c.1.length vc) (.bool sb) (.slice ka bl.length kc)).heap[k]?=w2.heap[k]?:=fun k hk=>jv w2 oo _ _ _ _;rw[HO.o];exact⟨_,_,_,by rw[Hsb.o],⟨HA.o.keep (fun _ hg=>hg) (fun k hk=>hst k hk.2),bl,HKS.o.keep (fun _ hg=>hg) (fun k hk=>hst k hk.2),VT.o⟩,HBH.o.keep (fun _ hg=>hg) (fun k hk=>hst k hk.2),by rw[zV.o];exact oO BW2.o nl _ _ _ _⟩
end
section
attribute [local go_sem] bI bJ aX aY
theorem jF(st:Nd->Bool):∀(l:List Nd),(bG st l).2.2.length<=l.length-1
 |[]=>by simp[bG]
 |n::r=>by
  unfold bG;split
  .simp
  .have:=jF st r;simp only[List.length_cons];show(bG st r).2.2.length<=_;omega
theorem xQ(sh:Bool):∀(f g:Nat) (l:List Nd),l.length<=f->l.length<=g->fM f sh l=fM g sh l:=by
 intro f;induction f with
 |zero=>intro g l hf hg;obtain rfl:l=[]:=List.eq_nil_of_length_eq_zero oo;cases g<;>rfl
 |succ f ih=>
  intro g l hf hg;cases l with
  |nil=>cases g<;>rfl
  |cons n r=>
   cases g with
   |zero=>simp at hg
   |succ g=>
    simp only[List.length_cons]at hf hg;unfold fM;dsimp only
    have h1:=jF (fun m=>aS m||aK m) r;have h2:=jF aK (n::r);simp only[List.length_cons]at h2;rw[ih g r oo oo,ih g (bG (fun m=>aS m||aK m) r).2.2 oo oo,ih g (bG aK (n::r)).2.2 oo oo]
theorem VW{sh:Bool}{n:Nd}{r:List Nd}(h:oG sh n=true):rules sh (n::r)=rules sh r:=by
 unfold rules;show fM (r.length+1) sh (n::r)=_;conv=>lhs;unfold fM
 rw[if_pos h]
theorem vP(st:Nd->Bool):∀(l:List Nd) (b:Nd),(bG st l).2.1=some b->st b=true
 |[],b,h=>by simp[bG]at h
 |n::r,b,h=>by
  unfold bG at h;split at h
  .simp at h;subst h;assumption
  .exact vP st r b h
theorem Na(st:Nd->Bool):∀(l:List Nd),(bG st l).2.1=none->(bG st l).2.2=[]
 |[],_=>by simp[bG]
 |n::r,h=>by
  unfold bG at h⊢;split at h
  .simp at h
  .rename_i hq;rw[if_neg hq];exact Na st r h
def nM(o:BY×List Nd×Option (List Nd)×List Nd):List Rule:=
 if o.1=aA then(match o.2.2.1 with|none=>[]|some b=>[⟨none,o.2.1,some b⟩]) else [⟨some o.1,o.2.1,o.2.2.1⟩]
theorem aao{sh:Bool}{n:Nd}{r:List Nd}(h:oG sh n=false)(hn:n.t.kind=10->n.t.word≠aA):rules sh (n::r)=nM (iY n r)++rules sh (iY n r).2.2.2:=by
 have h1:=jF (fun m=>aS m||aK m) r;have h2:=jF aK (n::r);simp only[List.length_cons]at h2;unfold rules;show fM (r.length+1) sh (n::r)=_;conv=>lhs;unfold fM
 rw[if_neg (by rw[h];simp)];by_cases hk:n.t.kind=10
 .rw[if_pos hk];unfold iY nM;rw[if_pos hk];simp only;rw[if_neg (hn hk),xQ sh r.length _ _ oo nl];rfl
 .rw[if_neg hk];unfold iY nM;rw[if_neg hk];simp only[if_true];cases hc:(bG aK (n::r)).2.1 with
  |none=>rw[Na _ _ hc];rfl
  |some b=>
   have hb:=vP _ _ _ hc;show(⟨none,_,some b.kids⟩:Rule)::_=(match (if aK b=true then some b.kids else none)with|none=>[]|some q=>[(⟨none,_,some q⟩:Rule)])++_;rw[if_pos hb,xQ sh r.length _ _ oo nl];rfl
def dB:wV Rule:=fun S w r cs=>∃hv bv bl,cs=[.string (r.at_.getD aA),hv,.bool r.body.isSome,bv]/\Sl S w hv r.head/\Sl S w bv bl/\(∀b,r.body=some b->bl=b)/\(∀x,r.at_=some x->x≠aA/\x.size<=4000000)
theorem dB.fair:Fair dB:=by rintro S S' w w' r cs hS hw ⟨hv,bv,bl,h1,h2,h3,h4,h5⟩;exact⟨hv,bv,bl,h1,h2.keep hS hw,h3.keep hS hw,h4,h5⟩
theorem dB.sized:ug dB 4:=by rintro S w r cs ⟨hv,bv,bl,rfl,_⟩;rfl
theorem aje{α:Type}{C:wV α}{sz:Nat}(hF:Fair C)(hZ:ug C sz){T:TypeId}{base:Nat}{w:WD}{v:Av}{l:List α}{cs:List Av}{S:Nat->Prop}(h1:w.ownsRow base T sz v l.length cs)(h2:jC C S w l cs)(hS:∀g,S g->g<w.heap.size)(h6:l.length<=2097152):SG C sz (fun b=>b<w.heap.size) w v l:=by
 have h3:jC C (fun b=>b<w.heap.size) w l cs:=h2.keep hF hS (fun _ _=>rfl);rcases h1.2 with⟨rfl,hn⟩|⟨g,cap,cur,rfl,hbg,hg,hnc,hrest⟩
 .have:l=[]:=List.eq_nil_of_length_eq_zero hn;subst this;exact SG.iE _ _ _ _ _ _
 .refine⟨_,cap,rfl,⟨hnc,h6⟩,fun _=>⟨g,0,rfl,jC.lies (S:=fun b=>b<w.heap.size) hZ (Ay hg) l cs 0 h3 fun j u hu=>?_⟩⟩;have:=h1.cells (g:=g) rfl j u hu;rw[Addr.add_lit,Nat.zero_add]at this;rw[Nat.zero_add];exact this
theorem aap:∃i,prog.info? 130=some i/\i.zero=some (.agg #[.string ⟨#[]⟩,.slice none 0 0,.bool false,.slice none 0 0])/\i.size=4/\i.bytes=72:=info_parts Ao
structure RaI(B:Nat)(sh:Bool)(w:WD)(l:List Nd)(u:Av)(acc:List Rule)(cs:List Av)(cv:Av)(cur:List Nd)(wr:WD):Prop where
 row:wr.ownsRow w.heap.size 130 4 u acc.length cs
 cat:jC dB (fun b=>b<B) wr acc cs
 now:Sl (fun b=>b<B) wr cv cur
 below:Below w.heap.size w wr
 eq:rules sh l=acc++rules sh cur
 ln:acc.length+cur.length<=l.length
end
section
attribute [local go_sem] bI bJ aX aY
theorem Q4.put{T:TypeId}{w:WD}{b:Nat}{x0 x1 x2 x3:Av}(h:Q4 T w b x0 x1 x2 x3)(y0 y1 y2 y3:Av):Q4 T (qF w b y0 y1 y2 y3) b y0 y1 y2 y3:=by have h':w.heap[b]?=_:=h;show _=_;simp only[qF,World.setCell,Array.getElem?_modify,h'];simp
theorem xR{at_:BY}{hd:List Nd}{bo:Option (List Nd)}{rest:List Nd}(h:bo.isSome=true\/at_≠aA):∃rr,nM (at_,hd,bo,rest)=[rr]/\rr.at_.getD aA=at_/\rr.head=hd/\rr.body=bo:=by
 unfold nM;by_cases he:at_=aA
 .rcases h with h|h
  .cases bo with
   |none=>cases h
   |some b=>exact⟨_,by simp only[he,if_true];rfl,by simp[he],rfl,rfl⟩
  .exact absurd he h
 .exact⟨_,by simp only[if_neg he];rfl,rfl,rfl,rfl⟩
theorem Rk{at_:BY}{hd:List Nd}{bo:Option (List Nd)}{rest:List Nd}{rr:Rule}(h:nM (at_,hd,bo,rest)=[rr]){x:BY}(hx:rr.at_=some x):x≠aA:=by
 unfold nM at h;by_cases he:at_=aA
 .simp only[he,if_true]at h;cases bo with
  |none=>cases h
  |some b=>cases h;cases hx
 .simp only[if_neg he]at h;cases h;cases hx;exact he
theorem agk{α:Type}{C:wV α}{sz:Nat}{T:TypeId}{base L:Nat}{w:WD}{v:Av}{l:List α}{cs:List Av}{S:Nat->Prop}(hL:L<=base)(hF:Fair C)(hZ:ug C sz)(h1:w.ownsRow base T sz v l.length cs)(h2:jC C S w l cs)(hS:∀g,S g->oD L w g)(h6:l.length<=2097152):SG C sz (oD L w) w v l:=by
 have h3:jC C (oD L w) w l cs:=h2.keep hF hS (fun _ _=>rfl);rcases h1.2 with⟨rfl,hn⟩|⟨g,cap,cur,rfl,hbg,hg,hnc,hrest⟩
 .have:l=[]:=List.eq_nil_of_length_eq_zero hn;subst this;exact SG.iE _ _ _ _ _ _
 .refine⟨_,cap,rfl,⟨hnc,h6⟩,fun _=>⟨g,0,rfl,jC.lies (S:=oD L w) hZ ⟨Nat.le_trans hL hbg,(Ay hg)⟩ l cs 0 h3 fun j u hu=>?_⟩⟩;have:=h1.cells (g:=g) rfl j u hu;rw[Addr.add_lit,Nat.zero_add]at this;rw[Nat.zero_add];exact this
structure VX(L B:Nat)(sh:Bool)(w:WD)(l:List Nd)(u:Av)(acc:List Rule)(cs:List Av)(cv:Av)(cur:List Nd)(wr:WD):Prop where
 row:wr.ownsRow w.heap.size 130 4 u acc.length cs
 cat:jC dB (Rg L B) wr acc cs
 now:Sl (Rg L B) wr cv cur
 below:Below w.heap.size w wr
 eq:rules sh l=acc++rules sh cur
 ln:acc.length+cur.length<=l.length
theorem Nb(L B:Nat)(sh:Bool)(l:List Nd)(v:Av)(zs:List Int)(sg:Nat)(w:WD)(h:Sl (Rg L B) w v l)(hB:B<=w.heap.size)(hz:zs.length<=10)(hsg:sg<w.heap.size)
  (hc:∀j,j<zs.length->w.cell? ⟨sg,0+j,none⟩=some (.int .i64 (zs.getD j 0))) (hp:∀n:Nd,zs.contains n.t.kind=oG sh n) (hLw:L<=w.heap.size):
  Calls prog 115 #[v,.slice (some ⟨sg,0,none⟩) zs.length zs.length] w fun e w'=>∃u,e=.returned u/\SG dB 4 (oD L w') w' u (rules sh l)/\Below w.heap.size w w':=by
 have FU:=h.len;have HS:=hid h;have HC:=hid hc;have HP:=hid hp;obtain⟨a,cap,rfl⟩:=h.form;clear h hc hp;obtain⟨iT,hiT⟩:=aap;have HI:=hid hiT;clear hiT;go_in;go_wp2_with fail;go_loopg[0,5] l.length (fun gg v0 v5 wr=>∃(u cv:Av) (acc:List Rule) (cs:List Av) (cur:List Nd),u=v5/\cv=v0/\cur.length<=gg/\acc.length<=600/\Aside (VX L B sh w l u acc cs cv cur wr));case atStart=>exact⟨_,_,[],[],l,rfl,rfl,oo,by simp,World.ownsRow_nil _ _ _ _,rfl,HS.o,Ax,rfl,by simp⟩
 case round=>
  obtain⟨u,cv,acc,cs,cur,rfl,rfl,hcl,hal,hA⟩:=hrel;have HR:Hid (VX L B sh w l u acc cs cv cur wr):=hA.o;clear hA;obtain⟨ua,uc,rfl⟩:=kQ HR.o.row;have hsr:=HR.o.below.size;cases cur with
  |nil=>
   obtain⟨ca,cc,rfl⟩:=HR.o.now.form;have HV:Hid (rules sh l=acc):=by show _=_;rw[HR.o.eq];exact List.append_nil _
   go_wp2_with fail;go_ret;exact⟨_,rfl,by rw[HV.o];exact agk hLw dB.fair dB.sized HR.o.row HR.o.cat (fun g hg=>⟨hg.1,by have:=hg.2;omega⟩) oo,HR.o.below⟩
  |cons n r=>
   obtain⟨g,o,nv,cap',rfl,hN,hcap⟩:=HR.o.now.head;have c0:=hN.c0;have FY:=hid hN.ok;clear hN;have h1:(0:Int)<((r.length+1:Nat):Int):=oo;simp only[List.length_cons]at hcl;have IE:∀j,j<zs.length->wr.cell? ⟨sg,0+j,none⟩=some (.int .i64 (zs.getD j 0)):=fun j hj=>by rw[HR.o.below.cell (p:=⟨sg,_,none⟩) hsg];exact HC.o j hj
   have HCT:=Tryz.slices_Contains_int sg 0 zs.length zs.length zs n.t.kind wr nl oo IE;rw[List.take_of_length_le nl,HP.o n]at HCT;obtain⟨z,Hz⟩:=Nm (oG sh n);rw[Hz.o]at HCT;have agj:=hid HCT;clear HCT IE;obtain⟨a1,hr1,hS1⟩:=HR.o.now.MH;have HS1:=hid hS1;clear hS1;have hln:=HR.o.ln;simp only[List.length_cons]at hln;go_wp2_with fail;refine agj.o.mono ?_;rintro e wq ⟨rfl,hwq⟩;rw[hwq];clear hwq agj;cases z
   .clear hr1 HS1;obtain⟨⟨at_,hd,bo,rest⟩,Ho⟩:∃o,Hid (iY n r=o):=⟨_,hid rfl⟩;have HNM:Hid (n.t.kind=10->n.t.word≠aA):=fun hk e=>by have:=FY.o.named (.inr (.inl hk));rw[e]at this;exact absurd this (by decide)
    have Qh:Hid (rules sh l=acc++(nM (at_,hd,bo,rest)++rules sh rest)):=by show _=_;rw[HR.o.eq,aao Hz.o HNM.o,Ho.o]
    have HRL:rest.length<=r.length:=by
     have e:(iY n r).2.2.2=rest:=by rw[Ho.o]
     rw[<-e];unfold iY;split
     .have:=jF (fun m=>aS m||aK m) r;show(bG _ r).2.2.length<=_;omega
     .have:=jF aK (n::r);simp only[List.length_cons]at this;show(bG _ (n::r)).2.2.length<=_;omega
    have HLN:Hid (acc.length+1+rest.length<=l.length):=by show _<=_;omega
    have HAT:Hid (at_.size<=4000000):=by
     have e:(iY n r).1=at_:=by rw[Ho.o]
     rw[<-e];unfold iY;split
     .exact FY.o.word
     .show 0<=_;omega
    have Q2:Hid (Q4 130 (wr.alloc (.cells #[.string ⟨#[]⟩,.slice none 0 0,.bool false,.slice none 0 0] 130)) wr.heap.size (.string ⟨#[]⟩) (.slice none 0 0) (.bool false) (.slice none 0 0)):=Q4.new _ _ _ _ _ _;have X2:Hid (Below wr.heap.size wr (wr.alloc (.cells #[.string ⟨#[]⟩,.slice none 0 0,.bool false,.slice none 0 0] 130))):=Ax.alloc nl _;go_upto_region 6 with fail
    generalize wr.alloc (.cells #[.string ⟨#[]⟩,.slice none 0 0,.bool false,.slice none 0 0] 130)=w2 at *;obtain⟨gt,mV⟩:=Nm wr.heap.size;have Q3:Hid (Q4 130 w2 gt (.string ⟨#[]⟩) (.slice none 0 0) (.bool false) (.slice none 0 0)):=by rw[<-mV.o];exact Q2.o
    rw[mV.o];clear Q2;have hs2:=X2.o.size;go_wp2_with fail;refine(VU L B n r _ w2 (HR.o.now.vO X2.o oo) oo).mono ?_;rw[Ho.o];rintro e w3 ⟨hv,bv,v2,rfl,Rj,hbh,hb3⟩;obtain⟨va,vc,rfl⟩:=Rj.head.form;obtain⟨bl,hbl,hbe⟩:=Rj.body;obtain⟨ka,kc,rfl⟩:=hbl.form;obtain⟨ba,bc,rfl⟩:=hbh.form;have X3:=hid (X2.o.trans (hb3.mono hs2));have QQ3:=hid (Q3.o.below hb3);have HA3:=hid Rj.head;have HB3:=hid hbh;have HK3:=hid hbl;have VT:=hid hbe;have hs3:=X3.o.size;clear Rj hbl hbe hbh hb3 Q3 c0;obtain⟨hs,Hhs⟩:=Nm bo.isSome;rw[Hhs.o];have hlg:=QQ3.o.lt
    have hgB:∀k,k<B->(qF w3 gt (.string at_) (.slice va hd.length vc) (.bool hs) (.slice ka bl.length kc)).heap[k]?=w3.heap[k]?:=fun k hk=>jv w3 (by have:=mV.o;omega) _ _ _ _;have BW4:Hid (Below w.heap.size w (qF w3 gt (.string at_) (.slice va hd.length vc) (.bool hs) (.slice ka bl.length kc))):=oO (HR.o.below.trans (X3.o.mono hsr)) (by have:=mV.o;omega) _ _ _ _;have R4:Hid ((qF w3 gt (.string at_) (.slice va hd.length vc) (.bool hs) (.slice ka bl.length kc)).ownsRow w.heap.size 130 4 (.slice ua acc.length uc) acc.length cs):=aP HR.o.row fun k hk=>by have:=(HR.o.row.lt k hk).2;rw[jv w3 (by have:=mV.o;omega)];exact X3.o.block k this
    have CT4:Hid (jC dB (Rg L B) (qF w3 gt (.string at_) (.slice va hd.length vc) (.bool hs) (.slice ka bl.length kc)) acc cs):=HR.o.cat.keep dB.fair (fun _ h=>h) (fun k hk=>by have hk':k<B:=hk.2;rw[hgB k hk'];exact X3.o.block k oo);have HA4:Hid (Sl (Rg L B) (qF w3 gt (.string at_) (.slice va hd.length vc) (.bool hs) (.slice ka bl.length kc)) (.slice va hd.length vc) hd):=HA3.o.keep (fun _ h=>h) (fun k hk=>hgB k hk.2);have HB4:Hid (Sl (Rg L B) (qF w3 gt (.string at_) (.slice va hd.length vc) (.bool hs) (.slice ka bl.length kc)) (.slice ba rest.length bc) rest):=HB3.o.keep (fun _ h=>h) (fun k hk=>hgB k hk.2);have HK4:Hid (Sl (Rg L B) (qF w3 gt (.string at_) (.slice va hd.length vc) (.bool hs) (.slice ka bl.length kc)) (.slice ka bl.length kc) bl):=HK3.o.keep (fun _ h=>h) (fun k hk=>hgB k hk.2)
    have Q5:Hid (Q4 130 (qF w3 gt (.string at_) (.slice va hd.length vc) (.bool hs) (.slice ka bl.length kc)) gt (.string at_) (.slice va hd.length vc) (.bool hs) (.slice ka bl.length kc)):=QQ3.o.put _ _ _ _;have ATN:Hid (∀rr:Rule,nM (at_,hd,bo,rest)=[rr]->∀x,rr.at_=some x->x≠aA):=fun rr h x hx=>Rk h hx;have z0:=QQ3.o.fz 0;have z1:=QQ3.o.fz 1;have z2:=QQ3.o.fz 2;have z3:=QQ3.o.fz 3;obtain⟨q0,q1,q2,q3⟩:=QQ3.o.cs;go_upto_region 7 with fail
    change Code.wp _ _ _ _ (qF w3 gt (.string at_) (.slice va hd.length vc) (.bool hs) (.slice ka bl.length kc));have hs4:=BW4.o.size;clear q0 q1 q2 q3 z0 z1 z2 z3 hgB HA3 HB3 HK3;generalize qF w3 gt (.string at_) (.slice va hd.length vc) (.bool hs) (.slice ka bl.length kc)=w4 at *;obtain⟨q0,q1,q2,q3⟩:=Q5.o.cs;by_cases he:at_.toList=[]
    .have Vf:Hid (at_=aA):=by
      show at_=aA;have:=ay at_ [];rw[he]at this;exact of_decide_eq_true this.symm
     cases hs
     .have HMK:Hid (nM (at_,hd,bo,rest)=[]):=by
       show _=_;unfold nM;rw[if_pos Vf.o];cases hb:bo with
       |none=>rfl
       |some b=>have:=Hhs.o;rw[hb]at this;cases this
      have OA:Hid (VX L B sh w l (.slice ua acc.length uc) acc cs (.slice ba rest.length bc) rest w4):=⟨R4.o,CT4.o,HB4.o,BW4.o,by rw[Qh.o,HMK.o];rfl,by have:=HLN.o;omega⟩;go_wp2_with fail;go_roundg(gk-1);case measure=>omega
      case rel=>exact⟨_,_,acc,cs,rest,rfl,rfl,oo,hal,OA.o⟩
     .have HMK:=xR (hd:=hd) (rest:=rest) (at_:=at_) (.inl Hhs.o);obtain⟨rr,Hrr,Gx,YG,Hbo⟩:=HMK;have HRR:=hid Hrr;have HO5:Hid ((w4.alloc (.cells #[.string at_,.slice va hd.length vc,.bool true,.slice ka bl.length kc] 130)).ownsRow w.heap.size 130 4 (.slice ua acc.length uc) acc.length cs):=R4.o.alloc _;go_wp2_with(at_builtin;go_must(refine wpList_append_own_at _ rfl _ _ 85 rfl w.heap.size 130 iT (.agg #[.string ⟨#[]⟩,.slice none 0 0,.bool false,.slice none 0 0]) 4 72 Tryz.underlying85 HI.o.1 HI.o.2.1 HI.o.2.2.1 HI.o.2.2.2 rfl oo (.slice ua acc.length uc) acc.length cs rfl HO5.o ⟨w4.heap.size,0,none⟩ 1 1 [.string at_,.slice va hd.length vc,.bool true,.slice ka bl.length kc] rfl rfl (Vu _ _ _ _ _ _) (by simp[Value.oneCell']) As oo An ?_));intro v6 w6 hown6 lS _ aaq
      have hlo:∀rr,Value.ownBlock (.slice ua acc.length uc)=some rr->w.heap.size<=rr:=fun rr hr=>(HO5.o.lt rr hr).1;have hb6:Below w.heap.size w4 w6:=(Ax.alloc hs4 _).grown lS An hlo;have OA:Hid (VX L B sh w l v6 (acc++[rr]) (cs++[.string at_,.slice va hd.length vc,.bool true,.slice ka bl.length kc]) (.slice ba rest.length bc) rest w6):=⟨by rw[List.length_append];exact hown6,jC.snoc _ _ (CT4.o.keep dB.fair (fun _ h=>h) (fun k hk=>hb6.block k (Nat.lt_of_lt_of_le hk.2 hB))) rr _ ⟨_,_,bl,by rw[Gx,Hbo,Hhs.o],by rw[YG];exact HA4.o.vO hb6 hB,HK4.o.vO hb6 hB,fun b hb=>VT.o b (by rw[<-Hbo];exact hb),fun x hx=>⟨fun e=>by rw[hx,e]at Gx;exact ATN.o rr HRR.o x hx e,by have:=HAT.o;rw[hx]at Gx;simp at Gx;rw[Gx];exact this⟩⟩,HB4.o.vO hb6 hB,BW4.o.trans hb6,by rw[Qh.o,HRR.o,List.append_assoc],by have:=HLN.o;simp;omega⟩
      have FU:(acc++[rr]).length<=600:=by have:=OA.o.ln;omega
      clear hown6 lS aaq hlo hb6;go_wp2_with fail;go_roundg(gk-1);case measure=>omega
      case rel=>exact⟨_,_,acc++[rr],_,rest,rfl,rfl,oo,FU,OA.o⟩
    .have Vf:Hid (at_≠aA):=fun e=>he (by rw[e,fC];rfl);have hie:at_.toList.isEmpty=false:=by cases hq:at_.toList with|nil=>exact absurd hq he|cons _ _=>rfl
     have hib:(at_.toList==[])=false:=by cases hq:at_.toList with|nil=>exact absurd hq he|cons _ _=>rfl
     have hin:(at_.toList != [])=true:=by rw[bne,hib];rfl
     cases hs;focus
      have HMK:=xR (hd:=hd) (rest:=rest) (bo:=bo) (.inr Vf.o);obtain⟨rr,Hrr,Gx,YG,Hbo⟩:=HMK;have HRR:=hid Hrr;have HO5:Hid ((w4.alloc (.cells #[.string at_,.slice va hd.length vc,.bool false,.slice ka bl.length kc] 130)).ownsRow w.heap.size 130 4 (.slice ua acc.length uc) acc.length cs):=R4.o.alloc _;go_wp2_with(at_builtin;go_must(refine wpList_append_own_at _ rfl _ _ 85 rfl w.heap.size 130 iT (.agg #[.string ⟨#[]⟩,.slice none 0 0,.bool false,.slice none 0 0]) 4 72 Tryz.underlying85 HI.o.1 HI.o.2.1 HI.o.2.2.1 HI.o.2.2.2 rfl oo (.slice ua acc.length uc) acc.length cs rfl HO5.o ⟨w4.heap.size,0,none⟩ 1 1 [.string at_,.slice va hd.length vc,.bool false,.slice ka bl.length kc] rfl rfl (Vu _ _ _ _ _ _) (by simp[Value.oneCell']) As oo An ?_));intro v6 w6 hown6 lS _ aaq
      have hlo:∀rr,Value.ownBlock (.slice ua acc.length uc)=some rr->w.heap.size<=rr:=fun rr hr=>(HO5.o.lt rr hr).1;have hb6:Below w.heap.size w4 w6:=(Ax.alloc hs4 _).grown lS An hlo;have OA:Hid (VX L B sh w l v6 (acc++[rr]) (cs++[.string at_,.slice va hd.length vc,.bool false,.slice ka bl.length kc]) (.slice ba rest.length bc) rest w6):=⟨by rw[List.length_append];exact hown6,jC.snoc _ _ (CT4.o.keep dB.fair (fun _ h=>h) (fun k hk=>hb6.block k (Nat.lt_of_lt_of_le hk.2 hB))) rr _ ⟨_,_,bl,by rw[Gx,Hbo,Hhs.o],by rw[YG];exact HA4.o.vO hb6 hB,HK4.o.vO hb6 hB,fun b hb=>VT.o b (by rw[<-Hbo];exact hb),fun x hx=>⟨fun e=>by rw[hx,e]at Gx;exact ATN.o rr HRR.o x hx e,by have:=HAT.o;rw[hx]at Gx;simp at Gx;rw[Gx];exact this⟩⟩,HB4.o.vO hb6 hB,BW4.o.trans hb6,by rw[Qh.o,HRR.o,List.append_assoc],by have:=HLN.o;simp;omega⟩
     rotate_left;focus
      have HMK:=xR (hd:=hd) (rest:=rest) (bo:=bo) (.inr Vf.o);obtain⟨rr,Hrr,Gx,YG,Hbo⟩:=HMK;have HRR:=hid Hrr;have HO5:Hid ((w4.alloc (.cells #[.string at_,.slice va hd.length vc,.bool true,.slice ka bl.length kc] 130)).ownsRow w.heap.size 130 4 (.slice ua acc.length uc) acc.length cs):=R4.o.alloc _;go_wp2_with(at_builtin;go_must(refine wpList_append_own_at _ rfl _ _ 85 rfl w.heap.size 130 iT (.agg #[.string ⟨#[]⟩,.slice none 0 0,.bool false,.slice none 0 0]) 4 72 Tryz.underlying85 HI.o.1 HI.o.2.1 HI.o.2.2.1 HI.o.2.2.2 rfl oo (.slice ua acc.length uc) acc.length cs rfl HO5.o ⟨w4.heap.size,0,none⟩ 1 1 [.string at_,.slice va hd.length vc,.bool true,.slice ka bl.length kc] rfl rfl (Vu _ _ _ _ _ _) (by simp[Value.oneCell']) As oo An ?_));intro v6 w6 hown6 lS _ aaq
      have hlo:∀rr,Value.ownBlock (.slice ua acc.length uc)=some rr->w.heap.size<=rr:=fun rr hr=>(HO5.o.lt rr hr).1;have hb6:Below w.heap.size w4 w6:=(Ax.alloc hs4 _).grown lS An hlo;have OA:Hid (VX L B sh w l v6 (acc++[rr]) (cs++[.string at_,.slice va hd.length vc,.bool true,.slice ka bl.length kc]) (.slice ba rest.length bc) rest w6):=⟨by rw[List.length_append];exact hown6,jC.snoc _ _ (CT4.o.keep dB.fair (fun _ h=>h) (fun k hk=>hb6.block k (Nat.lt_of_lt_of_le hk.2 hB))) rr _ ⟨_,_,bl,by rw[Gx,Hbo,Hhs.o],by rw[YG];exact HA4.o.vO hb6 hB,HK4.o.vO hb6 hB,fun b hb=>VT.o b (by rw[<-Hbo];exact hb),fun x hx=>⟨fun e=>by rw[hx,e]at Gx;exact ATN.o rr HRR.o x hx e,by have:=HAT.o;rw[hx]at Gx;simp at Gx;rw[Gx];exact this⟩⟩,HB4.o.vO hb6 hB,BW4.o.trans hb6,by rw[Qh.o,HRR.o,List.append_assoc],by have:=HLN.o;simp;omega⟩
     rotate_left;all_goals
      have FU:(acc++[rr]).length<=600:=by have:=OA.o.ln;omega
      clear hown6 lS aaq hlo hb6;go_wp2_with fail;go_roundg(gk-1);case measure=>omega
      case rel=>exact⟨_,_,acc++[rr],_,rest,rfl,rfl,oo,FU,OA.o⟩
   .have FZ:Hid (VX L B sh w l (.slice ua acc.length uc) acc cs (.slice a1 r.length (cap'-1)) r wr):=⟨HR.o.row,HR.o.cat,HS1.o,HR.o.below,by rw[HR.o.eq,VW Hz.o],oo⟩;go_wp2_with fail;go_roundg(gk-1);case measure=>omega
    case rel=>exact⟨_,_,acc,cs,r,rfl,rfl,oo,hal,FZ.o⟩
theorem Nc(B:Nat)(sh:Bool)(l:List Nd)(v:Av)(zs:List Int)(sg:Nat)(w:WD)(h:Sl (fun b=>b<B) w v l)(hB:B<=w.heap.size)(hz:zs.length<=10)(hsg:sg<w.heap.size)
  (hc:∀j,j<zs.length->w.cell? ⟨sg,0+j,none⟩=some (.int .i64 (zs.getD j 0))) (hp:∀n:Nd,zs.contains n.t.kind=oG sh n):
  Calls prog 115 #[v,.slice (some ⟨sg,0,none⟩) zs.length zs.length] w fun e w'=>∃u,e=.returned u/\SG dB 4 (fun b=>b<w'.heap.size) w' u (rules sh l)/\Below w.heap.size w w':=by
 refine(Nb 0 B sh l v zs sg w (h.keep (fun _ hb=>⟨Nat.zero_le _,hb⟩) (fun _ _=>rfl)) hB hz hsg hc hp (Nat.zero_le _)).mono ?_;rintro e w' ⟨u,h1,h2,h3⟩;exact⟨u,h1,h2.keep dB.fair (fun _ hb=>hb.2) (fun _ _=>rfl),h3⟩
end
section
attribute [local go_sem] bI bJ aX aY
theorem IG(n:Nd):([1,8,9]:List Int).contains n.t.kind=oG true n:=by unfold oG iH;rw[Bool.eq_iff_iff];simp
theorem aar(n:Nd):([1]:List Int).contains n.t.kind=oG false n:=by unfold oG iH;rw[Bool.eq_iff_iff];simp
theorem Rl(B:Nat)(l:List Nd)(v:Av)(w:WD)(h:Sl (fun b=>b<B) w v l)(hB:B<=w.heap.size):
  Calls prog 69 #[v] w fun e w'=>∃u,e=.returned u/\SG dB 4 (fun b=>b<w'.heap.size) w' u (rules true l)/\Below w.heap.size w w':=by
 obtain⟨a,cap,rfl⟩:=h.form;have B1:Hid (Below w.heap.size w (w.alloc (.cells #[.int .i64 1,.int .i64 8,.int .i64 9] 3))):=Ax.alloc nl _;have S1:=hid (h.below B1.o hB);have IE:Hid (∀j,j<3->(w.alloc (.cells #[.int .i64 1,.int .i64 8,.int .i64 9] 3)).cell? ⟨w.heap.size,0+j,none⟩=some (.int .i64 (([1,8,9]:List Int).getD j 0))):=by intro j hj;have hh:(w.alloc (.cells #[.int .i64 1,.int .i64 8,.int .i64 9] 3)).heap[w.heap.size]?=_:=heap_alloc_new w _;unfold World.cell?;rw[hh];rcases(show j=0\/j=1\/j=2 by omega)with rfl|rfl|rfl<;>rfl
 clear h;go_in;go_wp2_with fail;have hlt1:w.heap.size<(w.alloc (.cells #[.int .i64 1,.int .i64 8,.int .i64 9] 3)).heap.size:=by simp
 generalize w.alloc (.cells #[.int .i64 1,.int .i64 8,.int .i64 9] 3)=w1 at *;refine(Nc B true l _ [1,8,9] _ w1 S1.o oo Ab hlt1 IE.o IG).mono ?_;rintro e w2 ⟨u,rfl,hsg,hb2⟩;obtain⟨ua,uc,rfl⟩:=hsg.form;have B2:=hid (B1.o.trans (hb2.mono oo));have Rn:=hid hsg;clear hsg hb2;go_wp2_with fail;go_ret;exact⟨_,rfl,Rn.o,B2.o⟩
theorem Ro(B:Nat)(l:List Nd)(v:Av)(w:WD)(h:Sl (fun b=>b<B) w v l)(hB:B<=w.heap.size):
  Calls prog 121 #[v] w fun e w'=>∃u,e=.returned u/\SG dB 4 (fun b=>b<w'.heap.size) w' u (rules false l)/\Below w.heap.size w w':=by
 obtain⟨a,cap,rfl⟩:=h.form;have B1:Hid (Below w.heap.size w (w.alloc (.cells #[.int .i64 1] 3))):=Ax.alloc nl _;have S1:=hid (h.below B1.o hB);have IE:Hid (∀j,j<1->(w.alloc (.cells #[.int .i64 1] 3)).cell? ⟨w.heap.size,0+j,none⟩=some (.int .i64 (([1]:List Int).getD j 0))):=by intro j hj;have hh:(w.alloc (.cells #[.int .i64 1] 3)).heap[w.heap.size]?=_:=heap_alloc_new w _;unfold World.cell?;rw[hh];obtain rfl:j=0:=oo;rfl
 clear h;go_in;go_wp2_with fail;have hlt1:w.heap.size<(w.alloc (.cells #[.int .i64 1] 3)).heap.size:=by simp
 generalize w.alloc (.cells #[.int .i64 1] 3)=w1 at *;refine(Nc B false l _ [1] _ w1 S1.o oo Ab hlt1 IE.o aar).mono ?_;rintro e w2 ⟨u,rfl,hsg,hb2⟩;obtain⟨ua,uc,rfl⟩:=hsg.form;have B2:=hid (B1.o.trans (hb2.mono oo));have Rn:=hid hsg;clear hsg hb2;go_wp2_with fail;go_ret;exact⟨_,rfl,Rn.o,B2.o⟩
theorem VY(p:BY):Lib.hasPrefix p.data.toList [45,45]=custom p:=by have h:=xI p [45,45] 0;rw[List.drop_zero]at h;unfold Lib.hasPrefix;rw[h];show(pk p 0==45&&(pk p 1==45&&true))=(decide (pk p 0=45)&&decide (pk p 1=45));rw[Bool.and_true];rfl
theorem rE(p:BY)(w:WD):Calls prog 64 #[.string p] w fun e w'=>e=.returned (.bool (custom p))/\w'=w:=by have HV:Hid (Lib.hasPrefix p.data.toList [45,45]=custom p):=VY p;go_in;go_wp2_with fail;refine pmb (Tryz.strings_HasPrefix p ⟨#[45,45]⟩ w) fun wq hwq=>?_;rw[hwq];go_wp2_with fail;go_ret;exact⟨aC HV.o,rfl⟩
theorem II(p:BY)(w:WD)(hp:p.size<=4000000):Calls prog 38 #[.string p] w fun e w'=>e=.returned (.string (jM p))/\Below w.heap.size w w':=by
 obtain⟨z,Hz⟩:=Nm (custom p);have hc:=rE p w;rw[Hz.o]at hc;have HC:=hid hc;clear hc;cases z
 .have HV:Hid (jM p=small p):=by show _=_;unfold jM;rw[Hz.o];rfl
  go_in;go_wp2_with fail;refine HC.o.mono ?_;rintro e wq ⟨rfl,hwq⟩;rw[hwq];go_wp2_with fail;refine pmb (nH p _ hp) fun w3 hb3=>?_;have B3:=hid hb3;clear hb3;go_wp2_with fail;go_ret;exact⟨mg HV.o.symm,B3.o⟩
 .have HV:Hid (jM p=p):=by show _=_;unfold jM;rw[Hz.o];rfl
  go_in;go_wp2_with fail;refine HC.o.mono ?_;rintro e wq ⟨rfl,hwq⟩;rw[hwq];go_wp2_with fail;go_ret;exact⟨mg HV.o.symm,Ax⟩
end
section
attribute [local go_sem] bI bJ aX aY
theorem last_at{α:Type}{l:List α}(h:0<l.length):l.getLast?=some (l[l.length-1]'oo):=by rw[List.getLast?_eq_getElem?,List.getElem?_eq_getElem oo]
theorem dropLast_take{α:Type}(l:List α):l.dropLast=l.take (l.length-1):=List.dropLast_eq_take
theorem aas{v:List Nd}(h:0<v.length)(hw:ru (v[v.length-1]'oo) jw=false):gW v=(v,false):=by unfold gW;rw[last_at h];simp only;rw[if_neg (by rw[hw];simp)]
theorem Rq{v:List Nd}(h:0<v.length)(hw:ru (v[v.length-1]'oo) jw=true)(hb:bare (v.take (v.length-1))=[]):gW v=(v,false):=by unfold gW;rw[last_at h];simp only;rw[if_pos hw,dropLast_take,hb];rfl
theorem Rt{v b:List Nd}(h:0<v.length)(hw:ru (v[v.length-1]'oo) jw=true)(hb:bare (v.take (v.length-1))=b)(h2:0<b.length):gW v=if dN (b[b.length-1]'oo) (b1 33)=true then(bare (b.take (b.length-1)),true) else(v,false):=by unfold gW;rw[last_at h];simp only;rw[if_pos hw,dropLast_take,hb,last_at h2,dropLast_take]
theorem IJ(B:Nat)(l:List Nd)(v:Av)(w:WD)(h:Sl (fun b=>b<B) w v l)(hB:B<=w.heap.size):
  Calls prog 226 #[v] w fun e w'=>∃v',e=.returned (.tuple #[v',.bool (gW l).2])/\Sl (fun b=>b<B) w' v' (gW l).1/\Below w.heap.size w w':=by
 have FU:=h.len;have HS:=hid h;obtain⟨a,cap,rfl⟩:=h.form;clear h;by_cases hz:l.length=0
 .obtain rfl:l=[]:=List.eq_nil_of_length_eq_zero hz;clear hz;go_in;go_wp2_with fail;go_ret2
  exact⟨_,rfl,HS.o,Ax⟩
 .have hp:0<l.length:=oo;obtain⟨g,o,rfl,hL,hcap⟩:=HS.o.here (by rintro rfl;simp at hp);obtain⟨kv,hN⟩:=hL.node (i:=l.length-1) oo;obtain⟨n,hn⟩:∃n,n=l[l.length-1]'oo:=⟨_,rfl⟩;rw[<-hn]at hN;have HN:Hid (ru (l[l.length-1]'oo) jw=ru (.mk n.t []) jw):=by show _=_;rw[<-hn];rfl
  obtain⟨ka,kc,rfl⟩:=hN.k.form;have d0:=hN.c0;have d1:=hN.c1;have d2:=hN.c2;have d3:=hN.c3;have hwd:=hN.ok.word;clear hN hL hn;obtain⟨m,Hm⟩:=Nm (l.length-1);have hm:(l.length:Int)-1=(m:Int):=by have:=Hm.o;omega
  have hwm:IntKind.i64.wrap ((l.length:Int)-1)=(m:Int):=by rw[IntKind.wrap_i64];omega
  have hml:(m:Int)<(l.length:Int):=oo;have hmn:m<l.length:=oo;rw[Hm.o]at d0 d1 d2 d3;obtain⟨z,Hz⟩:=Nm (ru (.mk n.t []) jw);have HW:=Q8 n.t (.slice ka n.kids.length kc) jw w hwd;rw[Hz.o]at HW;have HW':Hid (Calls prog 161 #[fB n.t (.slice ka n.kids.length kc),.string jw] w fun e w'=>e=.returned (.bool z)/\Below w.heap.size w w'):=HW;clear HW;have hm0:(0:Int)<=(m:Int):=oo;go_in;go_wp2_with fail;refine HW'.o.mono ?_;rintro e w1 ⟨rfl,hb1⟩;have B1:=hid hb1;have hs1:=hb1.size;clear hb1 HW' d0 d1 d2 d3;cases z
  .have HV:Hid (gW l=(l,false)):=aas hp (by rw[HN.o];exact Hz.o);go_wp2_with fail;go_ret2
   exact⟨_,by rw[HV.o];rfl,by rw[HV.o];exact HS.o.below B1.o hB,B1.o⟩
  .have S1:=HS.o.below B1.o hB;obtain⟨hr1,hS1⟩:=S1.ajd m oo;have HST:=hid hS1;clear hS1 S1;have hlt:(l.take m).length=m:=by rw[List.length_take];omega
   go_wp2_with fail;refine(tu B (l.take m) _ w1 HST.o).mono ?_;obtain⟨b,Hb⟩:=Nm (bare (l.take m));rw[Hb.o];rintro e w2 ⟨v2,rfl,hS2,hw2⟩;subst hw2;have HS2:=hid hS2;have hl2:=hS2.len;obtain⟨a2,c2,rfl⟩:=hS2.form;clear hS2 hr1 hlt;by_cases hz2:b.length=0
   .have HV:Hid (gW l=(l,false)):=Rq hp (by rw[HN.o];exact Hz.o) (by rw[Hm.o,Hb.o];exact List.eq_nil_of_length_eq_zero hz2);have hq:(b.length:Int)=0:=oo;have hqw:IntKind.i64.wrap ((b.length:Int)-1) = -1:=by rw[IntKind.wrap_i64];omega
    clear hz2;go_wp2_with fail;go_ret2
    exact⟨_,by rw[HV.o];rfl,by rw[HV.o];exact HS.o.below B1.o hB,B1.o⟩
   .have hp2:0<b.length:=oo;obtain⟨g2,o2,rfl,hL2,hcap2⟩:=HS2.o.here (by rintro rfl;simp at hp2);obtain⟨kv2,YH⟩:=hL2.node (i:=b.length-1) oo;obtain⟨n2,hn2⟩:∃n,n=b[b.length-1]'oo:=⟨_,rfl⟩;rw[<-hn2]at YH;have HN2:Hid (dN (b[b.length-1]'oo) (b1 33)=au n2.t (b1 33)):=by show _=_;rw[<-hn2];rfl
    have Lm:Hid (gW l=if dN (b[b.length-1]'oo) (b1 33)=true then(bare (b.take (b.length-1)),true) else(l,false)):=Rt hp (by rw[HN.o];exact Hz.o) (by rw[Hm.o];exact Hb.o) hp2;obtain⟨ka2,kc2,rfl⟩:=YH.k.form;have d0:=YH.c0;have d1:=YH.c1;have d2:=YH.c2;have d3:=YH.c3;clear YH hL2 hn2;obtain⟨m2,Hm2⟩:=Nm (b.length-1);have hm2:(b.length:Int)-1=(m2:Int):=by have:=Hm2.o;omega
    have ani:IntKind.i64.wrap ((b.length:Int)-1)=(m2:Int):=by rw[IntKind.wrap_i64];omega
    have anj:(m2:Int)<(b.length:Int):=oo;have ank:m2<b.length:=oo;have anl:(0:Int)<=(m2:Int):=oo;rw[Hm2.o]at d0 d1 d2 d3;obtain⟨z2,Hz2⟩:=Nm (au n2.t (b1 33));go_wp2_with fail;refine(jf n2.t (.slice ka2 n2.kids.length kc2) (b1 33) _).mono ?_;rw[Hz2.o];rintro e w3 ⟨rfl,hb3⟩;have B3:=hid (B1.o.trans (hb3.mono hs1));have HS3:=hid (HS2.o.below hb3 oo);have hs3:=B3.o.size;clear hb3 d0 d1 d2 d3;cases z2
    .have HV:Hid (gW l=(l,false)):=by show _=_;rw[Lm.o,HN2.o,Hz2.o];rfl
     go_wp2_with fail;go_ret2
     exact⟨_,by rw[HV.o];rfl,by rw[HV.o];exact HS.o.below B3.o hB,B3.o⟩
    .have HV:Hid (gW l=(bare (b.take m2),true)):=by show _=_;rw[Lm.o,HN2.o,Hz2.o,Hm2.o];rfl
     obtain⟨hr3,hS3⟩:=HS3.o.ajd m2 oo;have amB:=hid hS3;clear hS3;go_wp2_with fail;refine(tu B (b.take m2) _ w3 amB.o).mono ?_;rintro e w4 ⟨v4,rfl,hS4,hw4⟩;subst hw4;have HS4:=hid hS4;clear hS4;go_wp2_with fail;go_ret2
     exact⟨_,by rw[HV.o];rfl,by rw[HV.o];exact HS4.o,B3.o⟩
end
section
attribute [local go_sem] bI bJ aX aY
def Q3(T:TypeId)(w:WD)(b:Nat)(x0 x1 x2:Av):Prop:=w.heap[b]?=some (.cells #[x0,x1,x2] T (0,0))
section
variable {T:TypeId} {w w':WD} {b:Nat} {x0 x1 x2:Av}
theorem Q3.lt(h:Q3 T w b x0 x1 x2):b<w.heap.size:=(Ay h)
theorem Q3.cs(h:Q3 T w b x0 x1 x2):w.cell? ⟨b,0,none⟩=some x0/\w.cell? ⟨b,1,none⟩=some x1/\w.cell? ⟨b,2,none⟩=some x2:=by have h':w.heap[b]?=_:=h;refine⟨?_,?_,?_⟩<;>(unfold World.cell?;rw[h'];rfl)
theorem Q3.fz(h:Q3 T w b x0 x1 x2)(o:Nat):w.frozen? ⟨b,o,none⟩=false:=by have h':w.heap[b]?=_:=h;unfold World.frozen?;rw[h'];simp
theorem Q3.below(h:Q3 T w b x0 x1 x2)(hb:Below w.heap.size w w'):Q3 T w' b x0 x1 x2:=by show _=_;rw[hb.block b h.lt];exact h
theorem Q3.new(T:TypeId)(w:WD)(x0 x1 x2:Av):Q3 T (w.alloc (.cells #[x0,x1,x2] T)) w.heap.size x0 x1 x2:=heap_alloc_new w _
end
def agl(w:WD)(g:Nat)(a b c:Av):WD:=((w.setCell ⟨g,0,none⟩ a).setCell ⟨g,1,none⟩ b).setCell ⟨g,2,none⟩ c
theorem rF{B g:Nat}{x w:WD}(h:Below B x w)(hg:B<=g)(a b c:Av):Below B x (agl w g a b c):=((h.setCell hg _).setCell hg _).setCell hg _
theorem VZ(w:WD){g k:Nat}(h:k≠g)(a b c:Av):(agl w g a b c).heap[k]?=w.heap[k]?:=by unfold agl;rw[Below.heap_setCell _ _ _ _ h,Below.heap_setCell _ _ _ _ h,Below.heap_setCell _ _ _ _ h]
def dcP(B:Nat)(o:Option Dec)(w':WD)(e:Ending):Prop:=
 match o with
 |none=>e=.returned (.tuple #[.agg #[.string ⟨#[]⟩,.slice none 0 0,.bool false],.bool false])
 |some d=>∃vv,e=.returned (.tuple #[.agg #[.string d.prop,vv,.bool d.imp],.bool true])/\Sl (fun b=>b<B) w' vv d.val/\d.prop.size<=4000000
theorem V6(s:BY):(small s).size=s.size:=by show(s.data.toList.map jr).toArray.size=s.data.size;rw[List.size_toArray,List.length_map,Array.length_toList]
theorem FC(p:BY):(jM p).size=p.size:=by
 unfold jM;split
 .rfl
 .exact V6 p
theorem Ru{n:Nd}{r:List Nd}(h:(n.t.kind==14)=false):iI (n::r)=none:=by unfold iI;simp only;rw[if_pos (by simpa using h)]
theorem Rw{n:Nd}{r:List Nd}(h:(n.t.kind==14)=true)(hb:bare r=[]):iI (n::r)=none:=by unfold iI;simp only;rw[if_neg (by simpa using h),hb]
theorem Rx{n c:Nd}{r q:List Nd}(h:(n.t.kind==14)=true)(hb:bare r=c::q):iI (n::r)=if au c.t (b1 58)=true then some ⟨jM n.t.word,(gW (bare q)).1,(gW (bare q)).2⟩ else none:=by unfold iI;simp only;rw[if_neg (by simpa using h),hb];rfl
theorem CZ(B:Nat)(l:List Nd)(v:Av)(w:WD)(h:Sl (fun b=>b<B) w v l)(hB:B<=w.heap.size):
  Calls prog 158 #[v] w fun e w'=>dcP B (iI l) w' e/\Below w.heap.size w w':=by
 have FU:=h.len;have HS:=hid h;obtain⟨a,cap,rfl⟩:=h.form;clear h;have R0:Hid (Q3 181 (w.alloc (.cells #[.string ⟨#[]⟩,.slice none 0 0,.bool false] 181)) w.heap.size (.string ⟨#[]⟩) (.slice none 0 0) (.bool false)):=Q3.new _ _ _ _ _;have B0:Hid (Below w.heap.size w (w.alloc (.cells #[.string ⟨#[]⟩,.slice none 0 0,.bool false] 181))):=Ax.alloc nl _;go_in;go_upto_region 1 with fail
 have hsz0:=B0.o.size;have hlt0:=R0.o.lt;generalize w.alloc (.cells #[.string ⟨#[]⟩,.slice none 0 0,.bool false] 181)=w0 at *;obtain⟨rb,zV⟩:=Nm w.heap.size;rw[zV.o]at B0 R0 hB hlt0 hsz0⊢;have S0:=hid (HS.o.below B0.o hB);clear HS;cases l with
 |nil=>have HV:Hid (iI []=none):=rfl;have z0:=R0.o.fz 0;have z1:=R0.o.fz 1;have z2:=R0.o.fz 2;obtain⟨q0,q1,q2⟩:=R0.o.cs;go_wp2_with fail;refine bodyPost_ret (v:=.tuple #[.agg #[.string ⟨#[]⟩,.slice none 0 0,.bool false],.bool false]) (by simp[results,Tryz.results158,go_sem,q0,q1,q2]) rfl ?_;exact⟨by rw[HV.o];rfl,by rw[zV.o];exact rF B0.o nl _ _ _⟩
 |cons n r=>
  obtain⟨g,o,nv,cap',hcv,hN,hcap⟩:=S0.o.head;injection hcv with hcv1 _ hcv2
  subst hcv1 hcv2;have hgB:g<B:=hN.s;have c0:=hN.c0;have HNC:Hid (∀wx,Below w0.heap.size w0 wx->wx.cell? ⟨g,o+1,none⟩=some (.string n.t.word)):=fun wx hb=>by rw[hb.cell (p:=⟨g,_,none⟩) (show g<w0.heap.size by omega)];exact hN.c1
  have hwd:=hN.ok.word;clear hN;have h1:¬((r.length+1:Nat):Int)=0:=oo;have h1b:(((r.length+1:Nat):Int)==0)=false:=by simpa using h1
  have h1c:((r.length:Int)+1==0)=false:=by simp;omega
  cases hk:(n.t.kind==14)
  .have HV:Hid (iI (n::r)=none):=Ru hk;have hkn:(n.t.kind != 14)=true:=by rw[bne,hk];rfl
   have z0:=R0.o.fz 0;have z1:=R0.o.fz 1;have z2:=R0.o.fz 2;obtain⟨q0,q1,q2⟩:=R0.o.cs;go_wp2_with fail;refine bodyPost_ret (v:=.tuple #[.agg #[.string ⟨#[]⟩,.slice none 0 0,.bool false],.bool false]) (by simp[results,Tryz.results158,go_sem,q0,q1,q2]) rfl ?_;exact⟨by rw[HV.o];rfl,by rw[zV.o];exact rF B0.o nl _ _ _⟩
  .have hkn:(n.t.kind != 14)=false:=by rw[bne,hk];rfl
   obtain⟨a1,hr1,hS1⟩:=S0.o.MH;have HS1:=hid hS1;clear hS1;go_wp2_with fail;refine(tu B r _ w0 HS1.o).mono ?_;obtain⟨b,Hb⟩:=Nm (bare r);rw[Hb.o];rintro e w2 ⟨v2,rfl,hS2,hw2⟩;subst hw2;have HS2:=hid hS2;obtain⟨a2,c2,rfl⟩:=hS2.form;have hl2:=hS2.len;clear hS2 hr1;cases b with
   |nil=>have HV:Hid (iI (n::r)=none):=Rw hk Hb.o;have z0:=R0.o.fz 0;have z1:=R0.o.fz 1;have z2:=R0.o.fz 2;obtain⟨q0,q1,q2⟩:=R0.o.cs;go_wp2_with fail;refine bodyPost_ret (v:=.tuple #[.agg #[.string ⟨#[]⟩,.slice none 0 0,.bool false],.bool false]) (by simp[results,Tryz.results158,go_sem,q0,q1,q2]) rfl ?_;exact⟨by rw[HV.o];rfl,by rw[zV.o];exact rF B0.o nl _ _ _⟩
   |cons c q=>
    have Lm:Hid (iI (n::r)=if au c.t (b1 58)=true then some ⟨jM n.t.word,(gW (bare q)).1,(gW (bare q)).2⟩ else none):=Rx hk Hb.o;obtain⟨g2,o2,kv2,cap2,hcv,YH,hcap2⟩:=HS2.o.head;injection hcv with hcv1 _ hcv2
    subst hcv1 hcv2;obtain⟨ka2,kc2,rfl⟩:=YH.k.form;have d0:=YH.c0;have d1:=YH.c1;have d2:=YH.c2;have d3:=YH.c3;clear YH;have h2c:((q.length:Int)+1==0)=false:=by simp;omega
    obtain⟨z2,Hz2⟩:=Nm (au c.t (b1 58));rw[Hz2.o]at Lm;go_wp2_with fail;refine(jf c.t (.slice ka2 c.kids.length kc2) (b1 58) _).mono ?_;rw[Hz2.o];rintro e w3 ⟨rfl,hb3⟩;have X3:=hid hb3;have B3:=hid (B0.o.trans (hb3.mono hsz0));have R3:=hid (R0.o.below hb3);have HS3:=hid (HS2.o.below hb3 oo);have hs3:=X3.o.size;clear hb3 d0 d1 d2 d3;cases z2
    .have HV:Hid (iI (n::r)=none):=Lm.o;have z0:=R3.o.fz 0;have z1:=R3.o.fz 1;have z2:=R3.o.fz 2;obtain⟨q0,q1,q2⟩:=R3.o.cs;go_wp2_with fail;refine bodyPost_ret (v:=.tuple #[.agg #[.string ⟨#[]⟩,.slice none 0 0,.bool false],.bool false]) (by simp[results,Tryz.results158,go_sem,q0,q1,q2]) rfl ?_;exact⟨by rw[HV.o];rfl,by rw[zV.o];exact rF B3.o nl _ _ _⟩
    .obtain⟨a4,hr4,hS4⟩:=HS3.o.MH;have HS4:=hid hS4;clear hS4;go_wp2_with fail;refine(tu B q _ w3 HS4.o).mono ?_;obtain⟨bq,Hbq⟩:=Nm (bare q);rw[Hbq.o]at Lm;rw[Hbq.o];rintro e w5 ⟨v5,rfl,hS5,hw5⟩;subst hw5;have HS5:=hid hS5;obtain⟨a5,c5,rfl⟩:=hS5.form;clear hS5 hr4;go_wp2_with fail;refine(IJ B bq _ w5 HS5.o oo).mono ?_;obtain⟨⟨val,imp⟩,Hci⟩:∃ci,Hid (gW bq=ci):=⟨_,hid rfl⟩;rw[Hci.o]at Lm;rw[Hci.o];rintro e w6 ⟨v6,rfl,hS6,hb6⟩;have HS6:=hid hS6;obtain⟨a6,c6,rfl⟩:=hS6.form;have X6:=hid (X3.o.trans (hb6.mono hs3));have B6:=hid (B0.o.trans (X6.o.mono hsz0))
     have R6:=hid (R3.o.below hb6);have c1:=HNC.o w6 X6.o;have hs6:=X6.o.size;clear hS6 hb6;go_wp2_with fail;refine(II n.t.word w6 hwd).mono ?_;have hps:(jM n.t.word).size<=4000000:=by rw[FC];exact hwd
     obtain⟨pr,Hpr⟩:=Nm (jM n.t.word);rw[Hpr.o]at Lm hps;rw[Hpr.o];rintro e w7 ⟨rfl,hb7⟩;have X7:=hid (X6.o.trans (hb7.mono hs6));have B7:=hid (B0.o.trans (X7.o.mono hsz0));have R7:=hid (R6.o.below hb7);have HS7:=hid (HS6.o.below hb7 oo);clear hb7 c1;have HV:Hid (iI (n::r)=some ⟨pr,val,imp⟩):=Lm.o;have z0:=R7.o.fz 0;have z1:=R7.o.fz 1;have z2:=R7.o.fz 2;obtain⟨q0,q1,q2⟩:=R7.o.cs;go_wp2_with fail;refine bodyPost_ret (v:=.tuple #[.agg #[.string pr,.slice a6 val.length c6,.bool imp],.bool true]) (by simp[results,Tryz.results158,go_sem,q0,q1,q2]) rfl ?_
     have hst:∀k,k<B->(agl w7 rb (.string pr) (.slice a6 val.length c6) (.bool imp)).heap[k]?=w7.heap[k]?:=fun k hk=>VZ w7 oo _ _ _;exact⟨by rw[HV.o];exact⟨_,rfl,HS7.o.keep (fun _ hg=>hg) hst,hps⟩,by rw[zV.o];exact rF B7.o nl _ _ _⟩
end
section
attribute [local go_sem] bI bJ aX aY
theorem xU:∀(f g:Nat) (l:List Nd),l.length<=f->l.length<=g->fF f l=fF g l:=by
 intro f;induction f with
 |zero=>intro g l hf hg;obtain rfl:l=[]:=List.eq_nil_of_length_eq_zero oo;cases g<;>rfl
 |succ f ih=>
  intro g l hf hg;cases l with
  |nil=>cases g<;>rfl
  |cons n r=>
   cases g with
   |zero=>simp at hg
   |succ g=>
    simp only[List.length_cons]at hf hg;unfold fF;dsimp only
    have h1:=jF (fun m=>aS m||aK m) r;have h2:=jF aS (n::r);simp only[List.length_cons]at h2;rw[ih g r oo oo,ih g (bG (fun m=>aS m||aK m) r).2.2 oo oo,ih g (bG aS (n::r)).2.2 oo oo]
theorem Ry{n:Nd}{r:List Nd}(h:iH n=true):decls (n::r)=decls r:=by
 unfold decls;show fF (r.length+1) (n::r)=_;conv=>lhs;unfold fF
 rw[if_pos (by rw[h];rfl)]
theorem acP{n:Nd}{r:List Nd}(h:n.t.kind=10):decls (n::r)=decls (bG (fun m=>aS m||aK m) r).2.2:=by
 have h1:=jF (fun m=>aS m||aK m) r;unfold decls;show fF (r.length+1) (n::r)=_;conv=>lhs;unfold fF
 rw[if_neg (by simp[iH,aS,dN,au,h]),if_pos h];exact xU _ _ _ oo nl
theorem Rz{n:Nd}{r:List Nd}(h:¬n.t.kind=1)(h10:¬n.t.kind=10):decls (n::r)=(iI (bG aS (n::r)).1).toList++decls (bG aS (n::r)).2.2:=by
 have h1:=jF aS (n::r);simp only[List.length_cons]at h1;unfold decls;show fF (r.length+1) (n::r)=_;have hb:iH n=false:=by simp[iH,h]
 by_cases hs:aS n=true
 .conv=>lhs;unfold fF
  rw[if_pos (by rw[hs];simp)];unfold bG;rw[if_pos hs];rfl
 .conv=>lhs;unfold fF
  rw[if_neg (by rw[hb];simpa using hs),if_neg h10];dsimp only
  cases iI (bG aS (n::r)).1 with
  |none=>exact xU _ _ _ oo nl
  |some d=>show d::_=d::_;rw[xU r.length _ _ oo nl];rfl
def vS:wV Dec:=fun S w d cs=>∃vv,cs=[.string d.prop,vv,.bool d.imp]/\Sl S w vv d.val/\d.prop.size<=4000000
theorem vS.fair:Fair vS:=by rintro S S' w w' d cs hS hw ⟨vv,h1,h2,h3⟩;exact⟨vv,h1,h2.keep hS hw,h3⟩
theorem vS.sized:ug vS 3:=by rintro S w d cs ⟨vv,rfl,_⟩;rfl
theorem acQ:∃i,prog.info? 181=some i/\i.zero=some (.agg #[.string ⟨#[]⟩,.slice none 0 0,.bool false])/\i.size=3/\i.bytes=48:=info_parts Ao
theorem amC(w:WD)(a b c:Av)(t:TypeId):∀j u,[a,b,c][j]?=some u->(w.alloc (.cells #[a,b,c] t)).cell? ((⟨w.heap.size,0,none⟩:Addr).add j)=some u:=by intro j u hu;rw[Addr.add_lit,Nat.zero_add,World.cell?_alloc_mark,<-hu];simp
structure DcI(B:Nat)(w:WD)(l:List Nd)(u:Av)(acc:List Dec)(cs:List Av)(cv:Av)(cur:List Nd)(wr:WD):Prop where
 row:wr.ownsRow w.heap.size 181 3 u acc.length cs
 cat:jC vS (fun b=>b<B) wr acc cs
 now:Sl (fun b=>b<B) wr cv cur
 below:Below w.heap.size w wr
 eq:decls l=acc++decls cur
 ln:acc.length+cur.length<=l.length
theorem xW(B:Nat)(l:List Nd)(v:Av)(w:WD)(h:Sl (fun b=>b<B) w v l)(hB:B<=w.heap.size):
  Calls prog 93 #[v] w fun e w'=>∃u cs,e=.returned u/\(w'.ownsRow w.heap.size 181 3 u (decls l).length cs/\jC vS (fun b=>b<B) w' (decls l) cs/\(decls l).length<=2097152/\B<=w'.heap.size)/\Below w.heap.size w w':=by
 have FU:=h.len;have HS:=hid h;obtain⟨a,cap,rfl⟩:=h.form;clear h;obtain⟨iT,hiT⟩:=acQ;have HI:=hid hiT;clear hiT;go_in;go_wp2_with fail;go_loopg[0,3] l.length (fun gg v0 v3 wr=>∃(u cv:Av) (acc:List Dec) (cs:List Av) (cur:List Nd),u=v3/\cv=v0/\cur.length<=gg/\acc.length<=600/\Aside (DcI B w l u acc cs cv cur wr));case atStart=>exact⟨_,_,[],[],l,rfl,rfl,oo,by simp,World.ownsRow_nil _ _ _ _,rfl,HS.o,Ax,rfl,by simp⟩
 case round=>
  obtain⟨u,cv,acc,cs,cur,rfl,rfl,hcl,hal,hA⟩:=hrel;have HR:Hid (DcI B w l u acc cs cv cur wr):=hA.o;clear hA;obtain⟨ua,uc,rfl⟩:=kQ HR.o.row;have hsr:=HR.o.below.size;cases cur with
  |nil=>
   obtain⟨ca,cc,rfl⟩:=HR.o.now.form;have HV:Hid (decls l=acc):=by show _=_;rw[HR.o.eq];exact List.append_nil _
   go_wp2_with fail;go_ret;exact⟨_,_,rfl,by rw[HV.o];exact⟨HR.o.row,HR.o.cat,oo,oo⟩,HR.o.below⟩
  |cons n r=>
   obtain⟨g,o,nv,cap',rfl,hN,hcap⟩:=HR.o.now.head;have c0:=hN.c0;clear hN;have h1:(0:Int)<((r.length+1:Nat):Int):=oo;simp only[List.length_cons]at hcl;have hln:=HR.o.ln;simp only[List.length_cons]at hln;cases hk1:(n.t.kind==1)
   .have nk1:¬n.t.kind=1:=by simpa using hk1
    cases hk10:(n.t.kind==10)
    .have ak7:¬n.t.kind=10:=by simpa using hk10
     obtain⟨c,Hc⟩:=Nm (bG aS (n::r));have Qh:Hid (decls l=acc++((iI c.1).toList++decls c.2.2)):=by show _=_;rw[HR.o.eq,Rz nk1 ak7,Hc.o]
     have hrl:c.2.2.length<=r.length:=by have:=jF aS (n::r);rw[Hc.o]at this;simp only[List.length_cons]at this;omega
     have FB:=hid (funext ak5);clear nk1 ak7;have B1:Hid (Below wr.heap.size wr (wr.alloc (.cells #[.string ⟨#[59]⟩] 9))):=Ax.alloc nl _;have IE:Hid (∀j,j<1->(wr.alloc (.cells #[.string ⟨#[59]⟩] 9)).cell? ⟨wr.heap.size,0+j,none⟩=some (.string ([(⟨#[59]⟩:BY)].getD j ByteArray.empty))):=by intro j hj;have hh:(wr.alloc (.cells #[.string ⟨#[59]⟩] 9)).heap[wr.heap.size]?=_:=heap_alloc_new wr _;unfold World.cell?;rw[hh];obtain rfl:j=0:=oo;rfl
     go_wp2_with fail;have hs1:=B1.o.size;have hlt1:wr.heap.size<(wr.alloc (.cells #[.string ⟨#[59]⟩] 9)).heap.size:=by simp
     generalize wr.alloc (.cells #[.string ⟨#[59]⟩] 9)=w1 at *;refine(ail B (n::r) _ [⟨#[59]⟩] _ w1 (HR.o.now.below B1.o oo) oo Ab hlt1 IE.o).mono ?_;rw[FB.o,Hc.o];rintro e w2 ⟨v1,sv,v2,rfl,hcut,hb2⟩;obtain⟨t,ka,ks,kc,rfl,hks,hsome,hbody⟩:=hcut.val;obtain⟨va,vc,rfl⟩:=hcut.ahead.form;obtain⟨ba,bc,rfl⟩:=hcut.behind.form;have X2:=hid (B1.o.trans (hb2.mono hs1));have HA:=hid hcut.ahead;have HBH:=hid hcut.behind;have hs2:=X2.o.size;clear hcut hks hsome hbody hb2 IE hlt1 B1 c0;unfold fB;go_wp2_with fail;refine(CZ B c.1 _ w2 HA.o oo).mono ?_;rintro e w3 ⟨hdc,hb3⟩;have X3:=hid (X2.o.trans (hb3.mono hs2))
     have HB3:=hid (HBH.o.below hb3 oo);have hs3:=X3.o.size;clear hb3;cases hd:iI c.1 with
     |none=>
      rw[hd]at hdc;have amD:e=_:=hdc;subst amD;have X4:Hid (Below wr.heap.size wr (w3.alloc (.cells #[.string ⟨#[]⟩,.slice none 0 0,.bool false] 181))):=X3.o.alloc hs3 _;have FZ:Hid (DcI B w l (.slice ua acc.length uc) acc cs (.slice ba c.2.2.length bc) c.2.2 (w3.alloc (.cells #[.string ⟨#[]⟩,.slice none 0 0,.bool false] 181))):=⟨aP HR.o.row fun k hk=>X4.o.block k (HR.o.row.lt k hk).2,HR.o.cat.keep vS.fair (fun _ h=>h) (fun k hk=>by have hk':k<B:=hk;exact X4.o.block k oo),HB3.o.below (Ax.alloc nl _) oo,HR.o.below.trans (X4.o.mono hsr),by rw[Qh.o,hd];rfl,oo⟩;clear hd;go_wp2_with fail;go_roundg(gk-1);case measure=>omega
      case rel=>exact⟨_,_,acc,cs,c.2.2,rfl,rfl,oo,hal,FZ.o⟩
     |some d=>
      rw[hd]at hdc;obtain⟨vv,rfl,hvv,hps⟩:=hdc;obtain⟨da,dc,rfl⟩:=hvv.form;have HD:Hid (iI c.1=some d):=hd;have HVV:=hid hvv;clear hd hvv;have anm:c.2.2.length+1<=(n::r).length:=by simp;omega
      have D4:Hid (Q3 181 (w3.alloc (.cells #[.string d.prop,.slice da d.val.length dc,.bool d.imp] 181)) w3.heap.size (.string d.prop) (.slice da d.val.length dc) (.bool d.imp)):=Q3.new _ _ _ _ _;have X4:Hid (Below wr.heap.size wr (w3.alloc (.cells #[.string d.prop,.slice da d.val.length dc,.bool d.imp] 181))):=X3.o.alloc hs3 _;have XX4:Hid (Below w3.heap.size w3 (w3.alloc (.cells #[.string d.prop,.slice da d.val.length dc,.bool d.imp] 181))):=Ax.alloc nl _;go_upto_region 7 with fail
      generalize w3.alloc (.cells #[.string d.prop,.slice da d.val.length dc,.bool d.imp] 181)=w4 at *;generalize w3.heap.size=gd at *;obtain⟨p0,p1,p2⟩:=D4.o.cs;have R4:Hid (w4.ownsRow w.heap.size 181 3 (.slice ua acc.length uc) acc.length cs):=aP HR.o.row fun k hk=>X4.o.block k (HR.o.row.lt k hk).2;have CT4:Hid (jC vS (fun b=>b<B) w4 acc cs):=HR.o.cat.keep vS.fair (fun _ h=>h) (fun k hk=>by have hk':k<B:=hk;exact X4.o.block k oo);have BW4:=hid (HR.o.below.trans (X4.o.mono hsr));have hs4:=BW4.o.size;have HO5:Hid ((w4.alloc (.cells #[.string d.prop,.slice da d.val.length dc,.bool d.imp] 181)).ownsRow w.heap.size 181 3 (.slice ua acc.length uc) acc.length cs):=R4.o.alloc _;have hgd:=D4.o.lt;have amE:=hid (HVV.o.below XX4.o oo)
      have HB4:=hid (HB3.o.below XX4.o oo);go_wp2_with(at_builtin;go_must(refine wpList_append_own_at _ rfl _ _ 174 rfl w.heap.size 181 iT (.agg #[.string ⟨#[]⟩,.slice none 0 0,.bool false]) 3 48 Tryz.underlying174 HI.o.1 HI.o.2.1 HI.o.2.2.1 HI.o.2.2.2 rfl oo (.slice ua acc.length uc) acc.length cs rfl HO5.o ⟨w4.heap.size,0,none⟩ 1 1 [.string d.prop,.slice da d.val.length dc,.bool d.imp] rfl rfl (amC _ _ _ _ _) (by simp[Value.oneCell']) As oo An ?_));intro v6 w6 hown6 lS _ aaq;have hlo:∀rr,Value.ownBlock (.slice ua acc.length uc)=some rr->w.heap.size<=rr:=fun rr hr=>(HO5.o.lt rr hr).1;have hb6:Below w.heap.size w4 w6:=(Ax.alloc hs4 _).grown lS An hlo
      have OA:Hid (DcI B w l v6 (acc++[d]) (cs++[.string d.prop,.slice da d.val.length dc,.bool d.imp]) (.slice ba c.2.2.length bc) c.2.2 w6):=⟨by rw[List.length_append];exact hown6,jC.snoc _ _ (CT4.o.keep vS.fair (fun _ h=>h) (fun k hk=>hb6.block k (Nat.lt_of_lt_of_le hk hB))) d _ ⟨_,rfl,amE.o.below hb6 hB,hps⟩,HB4.o.below hb6 hB,BW4.o.trans hb6,by rw[Qh.o,HD.o,List.append_assoc];rfl,by simp;omega⟩;have amF:(acc++[d]).length<=600:=by have:=OA.o.ln;omega
      clear hown6 lS aaq hlo hb6;go_wp2_with fail;go_roundg(gk-1);case measure=>omega
      case rel=>exact⟨_,_,acc++[d],_,c.2.2,rfl,rfl,oo,amF,OA.o⟩
    .have k10:n.t.kind=10:=by simpa using hk10
     obtain⟨c,Hc⟩:=Nm (bG (fun m=>aS m||aK m) r);have Qh:Hid (decls l=acc++decls c.2.2):=by show _=_;rw[HR.o.eq,acP k10,Hc.o]
     have hrl:c.2.2.length<=r.length:=by have:=jF (fun m=>aS m||aK m) r;rw[Hc.o]at this;omega
     clear k10 nk1;go_wp2_with fail;refine(acO B n r _ wr HR.o.now oo).mono ?_;rw[Hc.o];rintro e w2 ⟨hv,bv,v2,rfl,Rj,hbh,hb2⟩;obtain⟨va,vc,rfl⟩:=Rj.head.form;obtain⟨bl,hbl,hbe⟩:=Rj.body;obtain⟨ka,kc,rfl⟩:=hbl.form;obtain⟨ba,bc,rfl⟩:=hbh.form;obtain⟨sb,Hsb⟩:=Nm ((gV c.2.1).isSome);rw[Hsb.o];have FZ:Hid (DcI B w l (.slice ua acc.length uc) acc cs (.slice ba c.2.2.length bc) c.2.2 w2):=⟨aP HR.o.row fun k hk=>hb2.block k (HR.o.row.lt k hk).2,HR.o.cat.keep vS.fair (fun _ h=>h) (fun k hk=>by have hk':k<B:=hk;exact hb2.block k oo),hbh,HR.o.below.trans (hb2.mono hsr),Qh.o,oo⟩;clear Rj hbl hbe hbh hb2 c0;go_wp2_with fail;go_roundg(gk-1);case measure=>omega
     case rel=>exact⟨_,_,acc,cs,c.2.2,rfl,rfl,oo,hal,FZ.o⟩
   .have k1:n.t.kind=1:=by simpa using hk1
    obtain⟨a1,hr1,hS1⟩:=HR.o.now.MH;have FZ:Hid (DcI B w l (.slice ua acc.length uc) acc cs (.slice a1 r.length (cap'-1)) r wr):=⟨HR.o.row,HR.o.cat,hS1,HR.o.below,by rw[HR.o.eq,Ry (by simp[iH,k1])],oo⟩;clear hS1 k1;go_wp2_with fail;go_roundg(gk-1);case measure=>omega
    case rel=>exact⟨_,_,acc,cs,r,rfl,rfl,oo,hal,FZ.o⟩
theorem IK(B:Nat)(l:List Nd)(v:Av)(w:WD)(h:Sl (fun b=>b<B) w v l)(hB:B<=w.heap.size):
  Calls prog 93 #[v] w fun e w'=>∃u,e=.returned u/\SG vS 3 (fun b=>b<w'.heap.size) w' u (decls l)/\Below w.heap.size w w':=by
 refine(xW B l v w h hB).mono ?_;rintro e w' ⟨u,cs,h1,⟨h2,h3,h4,h5⟩,h6⟩;exact⟨u,h1,aje vS.fair vS.sized h2 h3 (fun g hg=>Nat.lt_of_lt_of_le hg h5) h4,h6⟩
end
theorem fD(s:BY)(b i:Nat)(w:WD)(h:Sc w b s i):
  Calls prog 289 #[.pointer (some ⟨b,0,none⟩)] w fun e w'=>e=.returned (.tuple #[])/\aB b s (Sp.mW s i) w w':=by
 have HS:=hid h;clear h;go_in;go_wp2_with fail;refine ji (fun Q' hF=>?_);go_wp2_with fail;go_loopg[] s.size (fun g wr=>∃k:Nat,s.size<=k+g/\Aside (wU s g k=Sp.mW s i/\aB b s k w wr));case atStart=>exact⟨i,oo,rfl,aB.refl HS.o⟩
 case round=>
  obtain⟨k,hk,hA⟩:=hrel;have H1:=hid hA.o.1;have H2:=hid hA.o.2;clear hA;have h0:=H2.o.1.c0;have h1:=H2.o.1.c1;have hf:=H2.o.1.f1;have hl:=H2.o.1.lt;have hs:=H2.o.1.len;cases hbl:fG (pk s k)
  .have HV:Hid (Sp.mW s i=k):=by
    show Sp.mW s i=k;rw[<-H1.o];cases gk with
    |zero=>rfl
    |succ f=>unfold wU;rw[if_neg (by simp[hbl])]
   go_wp2_with fail;refine(ak s b k _ k _ H2.o.1 ⟨oo,oo,oo⟩).mono ?_;rintro e w1 ⟨rfl,n1,rfl⟩;go_wp2_with fail;refine(eY _ _).mono ?_;rintro e w1 ⟨rfl,rfl⟩;go_wp2_with fail;go_step3
   refine hF.go 0 _ _ _ rfl ?_;go_wp2
   simp only[Exit.noGoto];go_end0
   refine⟨rfl,?_⟩;rw[HV.o];exact H2.o.drewN _
  .have hlt:k<s.size:=dY (by have:=kM hbl;omega);obtain⟨f,rfl⟩:∃f,gk=f+1:=⟨gk-1,oo⟩;have HV:Hid (wU s f (k+1)=Sp.mW s i):=by
    have:=H1.o;unfold wU at this;rw[if_pos hbl]at this;exact this
   go_wp2_with fail;refine(ak s b k _ k _ H2.o.1 ⟨oo,oo,oo⟩).mono ?_;rintro e w1 ⟨rfl,n1,rfl⟩;go_wp2_with fail;refine(eY _ _).mono ?_;rintro e w1 ⟨rfl,rfl⟩;go_wp2_with fail;go_roundg f;case measure=>omega
   case rel=>rw[Vx];exact⟨k+1,oo,HV.o,(H2.o.drewN _).set (k+1) oo⟩
theorem jG(s:BY)(b i:Nat)(w:WD)(h:Sc w b s i):
  Calls prog 290 #[.pointer (some ⟨b,0,none⟩)] w fun e w'=>e=.returned (.tuple #[])/\aB b s (iq s i) w w':=by
 have W:Hid (aB b s i w w):=aB.refl h;clear h;have c00:=W.o.1.c0;have c10:=W.o.1.c1;have KY:=W.o.1.f1;have KZ:=W.o.1.lt;have cs0:=W.o.1.len;have La:=W.o.1.le;cases h1:(pk s i != 101)<;>cases h2:(pk s i != 69)
 .exfalso
  simp at h1 h2;omega
 .have E:Hid (pk s i=101):=by show pk s i=101;simpa using h1
  cases hsg:ou (pk s (i+1))
  .cases hd:fG (pk s (i+1))
   .have HV:Hid (iq s i=i):=by show iq s i=i;simp[iq,E.o,mX,hsg,hd]
    go_in;go_wp2_with fail;refine cZ (ak s b (i) _ (i) _ (W.o.1) ⟨oo,oo,oo⟩) fun nq=>?_;go_wp2_with fail;refine cZ (ak s b (i) _ (i+1) _ (W.o.1.drewN _) ⟨oo,oo,oo⟩) fun nq=>?_;go_wp2_with fail;refine jA (gB _ _) ?_;go_wp2_with fail;refine cZ (ak s b (i) _ (i+1) _ (W.o.1.drewN _) ⟨oo,oo,oo⟩) fun nq=>?_;go_wp2_with fail;refine jA (eY _ _) ?_;go_wp2_with fail;go_end0
    refine⟨rfl,?_⟩;rw[HV.o];exact W.o.drewN _
   .have hlt:i+1<s.size:=dY (by have:=kM hd;omega);have HV:Hid (iq s i=mW s (i+1)):=by show iq s i=_;simp[iq,E.o,mX,hsg,hd]
    go_in;go_wp2_with fail;refine cZ (ak s b (i) _ (i) _ (W.o.1) ⟨oo,oo,oo⟩) fun nq=>?_;go_wp2_with fail;refine cZ (ak s b (i) _ (i+1) _ (W.o.1.drewN _) ⟨oo,oo,oo⟩) fun nq=>?_;go_wp2_with fail;refine jA (gB _ _) ?_;go_wp2_with fail;refine cZ (ak s b (i) _ (i+1) _ (W.o.1.drewN _) ⟨oo,oo,oo⟩) fun nq=>?_;go_wp2_with fail;refine jA (eY _ _) ?_;go_wp2_with fail;refine pmb (fD s b (i+1) _ ((W.o.1.drewN _).iP _ (i+1) oo oo)) fun w1 aj=>?_;have W1:Hid (aB b s (mW s (i+1)) w w1):=((W.o.drewN _).iP _ (i+1) oo oo).trans aj;clear aj;go_wp2_with fail;go_end0
    refine⟨rfl,?_⟩;rw[HV.o];exact W1.o
  .cases hd:fG (pk s (i+2))
   .have HV:Hid (iq s i=i):=by show iq s i=i;simp[iq,E.o,mX,hsg,hd]
    go_in;go_wp2_with fail;refine cZ (ak s b (i) _ (i) _ (W.o.1) ⟨oo,oo,oo⟩) fun nq=>?_;go_wp2_with fail;refine cZ (ak s b (i) _ (i+1) _ (W.o.1.drewN _) ⟨oo,oo,oo⟩) fun nq=>?_;go_wp2_with fail;refine jA (gB _ _) ?_;go_wp2_with fail;refine cZ (ak s b (i) _ (i+2) _ (W.o.1.drewN _) ⟨oo,oo,oo⟩) fun nq=>?_;go_wp2_with fail;refine jA (eY _ _) ?_;go_wp2_with fail;go_end0
    refine⟨rfl,?_⟩;rw[HV.o];exact W.o.drewN _
   .have hlt:i+2<s.size:=dY (by have:=kM hd;omega);have HV:Hid (iq s i=mW s (i+2)):=by show iq s i=_;simp[iq,E.o,mX,hsg,hd]
    go_in;go_wp2_with fail;refine cZ (ak s b (i) _ (i) _ (W.o.1) ⟨oo,oo,oo⟩) fun nq=>?_;go_wp2_with fail;refine cZ (ak s b (i) _ (i+1) _ (W.o.1.drewN _) ⟨oo,oo,oo⟩) fun nq=>?_;go_wp2_with fail;refine jA (gB _ _) ?_;go_wp2_with fail;refine cZ (ak s b (i) _ (i+2) _ (W.o.1.drewN _) ⟨oo,oo,oo⟩) fun nq=>?_;go_wp2_with fail;refine jA (eY _ _) ?_;go_wp2_with fail;refine pmb (fD s b (i+2) _ ((W.o.1.drewN _).iP _ (i+2) oo oo)) fun w1 aj=>?_;have W1:Hid (aB b s (mW s (i+2)) w w1):=((W.o.drewN _).iP _ (i+2) oo oo).trans aj;clear aj;go_wp2_with fail;go_end0
    refine⟨rfl,?_⟩;rw[HV.o];exact W1.o
 .have E:Hid (pk s i=69):=by show pk s i=69;simpa using h2
  cases hsg:ou (pk s (i+1))
  .cases hd:fG (pk s (i+1))
   .have HV:Hid (iq s i=i):=by show iq s i=i;simp[iq,E.o,mX,hsg,hd]
    go_in;go_wp2_with fail;refine cZ (ak s b (i) _ (i) _ (W.o.1) ⟨oo,oo,oo⟩) fun nq=>?_;go_wp2_with fail;refine cZ (ak s b (i) _ (i) _ (W.o.1.drewN _) ⟨oo,oo,oo⟩) fun nq=>?_;go_wp2_with fail;refine cZ (ak s b (i) _ (i+1) _ (W.o.1.drewN _) ⟨oo,oo,oo⟩) fun nq=>?_;go_wp2_with fail;refine jA (gB _ _) ?_;go_wp2_with fail;refine cZ (ak s b (i) _ (i+1) _ (W.o.1.drewN _) ⟨oo,oo,oo⟩) fun nq=>?_;go_wp2_with fail;refine jA (eY _ _) ?_;go_wp2_with fail;go_end0
    refine⟨rfl,?_⟩;rw[HV.o];exact W.o.drewN _
   .have hlt:i+1<s.size:=dY (by have:=kM hd;omega);have HV:Hid (iq s i=mW s (i+1)):=by show iq s i=_;simp[iq,E.o,mX,hsg,hd]
    go_in;go_wp2_with fail;refine cZ (ak s b (i) _ (i) _ (W.o.1) ⟨oo,oo,oo⟩) fun nq=>?_;go_wp2_with fail;refine cZ (ak s b (i) _ (i) _ (W.o.1.drewN _) ⟨oo,oo,oo⟩) fun nq=>?_;go_wp2_with fail;refine cZ (ak s b (i) _ (i+1) _ (W.o.1.drewN _) ⟨oo,oo,oo⟩) fun nq=>?_;go_wp2_with fail;refine jA (gB _ _) ?_;go_wp2_with fail;refine cZ (ak s b (i) _ (i+1) _ (W.o.1.drewN _) ⟨oo,oo,oo⟩) fun nq=>?_;go_wp2_with fail;refine jA (eY _ _) ?_;go_wp2_with fail;refine pmb (fD s b (i+1) _ ((W.o.1.drewN _).iP _ (i+1) oo oo)) fun w1 aj=>?_;have W1:Hid (aB b s (mW s (i+1)) w w1):=((W.o.drewN _).iP _ (i+1) oo oo).trans aj;clear aj;go_wp2_with fail
    go_end0
    refine⟨rfl,?_⟩;rw[HV.o];exact W1.o
  .cases hd:fG (pk s (i+2))
   .have HV:Hid (iq s i=i):=by show iq s i=i;simp[iq,E.o,mX,hsg,hd]
    go_in;go_wp2_with fail;refine cZ (ak s b (i) _ (i) _ (W.o.1) ⟨oo,oo,oo⟩) fun nq=>?_;go_wp2_with fail;refine cZ (ak s b (i) _ (i) _ (W.o.1.drewN _) ⟨oo,oo,oo⟩) fun nq=>?_;go_wp2_with fail;refine cZ (ak s b (i) _ (i+1) _ (W.o.1.drewN _) ⟨oo,oo,oo⟩) fun nq=>?_;go_wp2_with fail;refine jA (gB _ _) ?_;go_wp2_with fail;refine cZ (ak s b (i) _ (i+2) _ (W.o.1.drewN _) ⟨oo,oo,oo⟩) fun nq=>?_;go_wp2_with fail;refine jA (eY _ _) ?_;go_wp2_with fail;go_end0
    refine⟨rfl,?_⟩;rw[HV.o];exact W.o.drewN _
   .have hlt:i+2<s.size:=dY (by have:=kM hd;omega);have HV:Hid (iq s i=mW s (i+2)):=by show iq s i=_;simp[iq,E.o,mX,hsg,hd]
    go_in;go_wp2_with fail;refine cZ (ak s b (i) _ (i) _ (W.o.1) ⟨oo,oo,oo⟩) fun nq=>?_;go_wp2_with fail;refine cZ (ak s b (i) _ (i) _ (W.o.1.drewN _) ⟨oo,oo,oo⟩) fun nq=>?_;go_wp2_with fail;refine cZ (ak s b (i) _ (i+1) _ (W.o.1.drewN _) ⟨oo,oo,oo⟩) fun nq=>?_;go_wp2_with fail;refine jA (gB _ _) ?_;go_wp2_with fail;refine cZ (ak s b (i) _ (i+2) _ (W.o.1.drewN _) ⟨oo,oo,oo⟩) fun nq=>?_;go_wp2_with fail;refine jA (eY _ _) ?_;go_wp2_with fail;refine pmb (fD s b (i+2) _ ((W.o.1.drewN _).iP _ (i+2) oo oo)) fun w1 aj=>?_;have W1:Hid (aB b s (mW s (i+2)) w w1):=((W.o.drewN _).iP _ (i+2) oo oo).trans aj;clear aj;go_wp2_with fail
    go_end0
    refine⟨rfl,?_⟩;rw[HV.o];exact W1.o
 .have HV:Hid (iq s i=i):=by
   show iq s i=i;have g1:pk s i≠101:=by simpa using h1
   have g2:pk s i≠69:=by simpa using h2
   simp[iq,g1,g2]
  go_in;go_wp2_with fail;refine cZ (ak s b (i) _ (i) _ (W.o.1) ⟨oo,oo,oo⟩) fun nq=>?_;go_wp2_with fail;refine cZ (ak s b (i) _ (i) _ (W.o.1.drewN _) ⟨oo,oo,oo⟩) fun nq=>?_;go_wp2_with fail;refine bodyPost_ret (results_none rfl _ _ _) rfl ?_;refine⟨rfl,?_⟩;rw[HV.o];exact W.o.drewN _
theorem IL(s:BY)(b i:Nat)(w:WD)(h:Sc w b s i):
  Calls prog 242 #[.pointer (some ⟨b,0,none⟩)] w fun e w'=>e=.returned (.string (s.extract i (bT s i)))/\aB b s (bT s i) w w':=by
 have W:Hid (aB b s i w w):=aB.refl h;clear h;have c00:=W.o.1.c0;have c10:=W.o.1.c1;have KY:=W.o.1.f1;have KZ:=W.o.1.lt;have cs0:=W.o.1.len;have La:=W.o.1.le;have hge:=afK s i;have hle:=yX W.o.1.le;cases hsg:ou (pk s i)
 .have hk:Hid (mX s i=i):=by show mX s i=i;simp[mX,hsg]
  have hd0:=GX (s:=s) (i:=i) oo;generalize hkk:mW s (i)=k at hd0;have HK:=hid hkk;clear hkk;cases e46:(pk s k==46)
  .have HV:Hid (bT s i=iq s k):=by show bT s i=_;simp only[bT,jL,hk.o,HK.o];rw[if_neg (fun h=>by simp[h.1]at e46)]
   go_in;go_wp2_with fail;refine cZ (ak s b (i) _ (i) _ (W.o.1) ⟨oo,oo,oo⟩) fun nq=>?_;go_wp2_with fail;refine jA (gB _ _) ?_;go_wp2_with fail;refine pmb (fD s b i _ (W.o.1.drewN _)) fun w1 aj=>?_;have W1':Hid (aB b s (mW s i) w w1):=(W.o.drewN _).trans aj;clear aj;have W1:Hid (aB b s k w w1):=by have:=W1'.o;rw[HK.o]at this;exact this
   clear W1';have c01:=W1.o.1.c0;have c11:=W1.o.1.c1;have cf1:=W1.o.1.f1;have cl1:=W1.o.1.lt;have cs1:=W1.o.1.len;have ce1:=W1.o.1.le;go_wp2_with fail;refine cZ (ak s b (k) _ (k) _ (W1.o.1) ⟨oo,oo,oo⟩) fun nq=>?_;go_wp2_with fail;refine pmb (jG s b k _ (W1.o.1.drewN _)) fun w3 aj=>?_;have W3':Hid (aB b s (iq s k) w w3):=(W1.o.drewN _).trans aj;clear aj;have W3:Hid (aB b s (bT s i) w w3):=by have:=W3'.o;rw[<-HV.o]at this;exact this
   clear W3';have c03:=W3.o.1.c0;have c13:=W3.o.1.c1;have cf3:=W3.o.1.f1;have cl3:=W3.o.1.lt;have cs3:=W3.o.1.len;have ce3:=W3.o.1.le;go_wp2_with fail;go_quiet (fail)
   go_wp2_with fail;go_ret;exact⟨rfl,W3.o.drewN _⟩
  .cases edg:fG (pk s (k+1));focus
    have HV:Hid (bT s i=iq s k):=by show bT s i=_;simp only[bT,jL,hk.o,HK.o];rw[if_neg (fun h=>by simp[h.2]at edg)]
    go_in;go_wp2_with fail;refine cZ (ak s b (i) _ (i) _ (W.o.1) ⟨oo,oo,oo⟩) fun nq=>?_;go_wp2_with fail;refine jA (gB _ _) ?_;go_wp2_with fail;refine pmb (fD s b i _ (W.o.1.drewN _)) fun w1 aj=>?_;have W1':Hid (aB b s (mW s i) w w1):=(W.o.drewN _).trans aj;clear aj;have W1:Hid (aB b s k w w1):=by have:=W1'.o;rw[HK.o]at this;exact this
    clear W1';have c01:=W1.o.1.c0;have c11:=W1.o.1.c1;have cf1:=W1.o.1.f1;have cl1:=W1.o.1.lt;have cs1:=W1.o.1.len;have ce1:=W1.o.1.le;go_wp2_with fail;refine cZ (ak s b (k) _ (k) _ (W1.o.1) ⟨oo,oo,oo⟩) fun nq=>?_;go_wp2_with fail;refine cZ (ak s b (k) _ (k+1) _ (W1.o.1.drewN _) ⟨oo,oo,oo⟩) fun nq=>?_;go_wp2_with fail;refine jA (eY _ _) ?_;go_wp2_with fail;refine pmb (jG s b k _ (W1.o.1.drewN _)) fun w3 aj=>?_;have W3':Hid (aB b s (iq s k) w w3):=(W1.o.drewN _).trans aj
   rotate_left;focus
    have hlt:k+1<s.size:=dY (by have:=kM edg;omega);have HV:Hid (bT s i=iq s (mW s (k+1))):=by show bT s i=_;simp only[bT,jL,hk.o,HK.o];rw[if_pos ⟨by simpa using e46,edg⟩]
    go_in;go_wp2_with fail;refine cZ (ak s b (i) _ (i) _ (W.o.1) ⟨oo,oo,oo⟩) fun nq=>?_;go_wp2_with fail;refine jA (gB _ _) ?_;go_wp2_with fail;refine pmb (fD s b i _ (W.o.1.drewN _)) fun w1 aj=>?_;have W1':Hid (aB b s (mW s i) w w1):=(W.o.drewN _).trans aj;clear aj;have W1:Hid (aB b s k w w1):=by have:=W1'.o;rw[HK.o]at this;exact this
    clear W1';have c01:=W1.o.1.c0;have c11:=W1.o.1.c1;have cf1:=W1.o.1.f1;have cl1:=W1.o.1.lt;have cs1:=W1.o.1.len;have ce1:=W1.o.1.le;go_wp2_with fail;refine cZ (ak s b (k) _ (k) _ (W1.o.1) ⟨oo,oo,oo⟩) fun nq=>?_;go_wp2_with fail;refine cZ (ak s b (k) _ (k+1) _ (W1.o.1.drewN _) ⟨oo,oo,oo⟩) fun nq=>?_;go_wp2_with fail;refine jA (eY _ _) ?_;go_wp2_with fail;refine pmb (fD s b (k+1) _ ((W1.o.1.drewN _).iP _ (k+1) oo oo)) fun w2 aj=>?_;have W2:Hid (aB b s (mW s (k+1)) w w2):=((W1.o.drewN _).iP _ (k+1) oo oo).trans aj;clear aj;go_wp2_with fail;refine pmb (jG s b (mW s (k+1)) _ W2.o.1) fun w3 aj=>?_;have W3':Hid (aB b s (iq s (mW s (k+1))) w w3):=W2.o.trans aj
   rotate_left;all_goals
    clear aj;have W3:Hid (aB b s (bT s i) w w3):=by have:=W3'.o;rw[<-HV.o]at this;exact this
    clear W3';have c03:=W3.o.1.c0;have c13:=W3.o.1.c1;have cf3:=W3.o.1.f1;have cl3:=W3.o.1.lt;have cs3:=W3.o.1.len;have ce3:=W3.o.1.le;go_wp2_with fail;go_quiet (fail)
    go_wp2_with fail;go_ret;exact⟨rfl,W3.o.drewN _⟩
 .have hk:Hid (mX s i=i+1):=by show mX s i=i+1;simp[mX,hsg]
  have hlt0:i<s.size:=dY (Yk hsg);have hd0:=GX (s:=s) (i:=i+1) oo;generalize hkk:mW s (i+1)=k at hd0;have HK:=hid hkk;clear hkk;cases e46:(pk s k==46)
  .have HV:Hid (bT s i=iq s k):=by show bT s i=_;simp only[bT,jL,hk.o,HK.o];rw[if_neg (fun h=>by simp[h.1]at e46)]
   go_in;go_wp2_with fail;refine cZ (ak s b (i) _ (i) _ (W.o.1) ⟨oo,oo,oo⟩) fun nq=>?_;go_wp2_with fail;refine jA (gB _ _) ?_;go_wp2_with fail;refine pmb (fD s b (i+1) _ ((W.o.1.drewN _).iP _ (i+1) oo oo)) fun w1 aj=>?_;have W1':Hid (aB b s (mW s (i+1)) w w1):=((W.o.drewN _).iP _ (i+1) oo oo).trans aj;clear aj;have W1:Hid (aB b s k w w1):=by have:=W1'.o;rw[HK.o]at this;exact this
   clear W1';have c01:=W1.o.1.c0;have c11:=W1.o.1.c1;have cf1:=W1.o.1.f1;have cl1:=W1.o.1.lt;have cs1:=W1.o.1.len;have ce1:=W1.o.1.le;go_wp2_with fail;refine cZ (ak s b (k) _ (k) _ (W1.o.1) ⟨oo,oo,oo⟩) fun nq=>?_;go_wp2_with fail;refine pmb (jG s b k _ (W1.o.1.drewN _)) fun w3 aj=>?_;have W3':Hid (aB b s (iq s k) w w3):=(W1.o.drewN _).trans aj;clear aj;have W3:Hid (aB b s (bT s i) w w3):=by have:=W3'.o;rw[<-HV.o]at this;exact this
   clear W3';have c03:=W3.o.1.c0;have c13:=W3.o.1.c1;have cf3:=W3.o.1.f1;have cl3:=W3.o.1.lt;have cs3:=W3.o.1.len;have ce3:=W3.o.1.le;go_wp2_with fail;go_quiet (fail)
   go_wp2_with fail;go_ret;exact⟨rfl,W3.o.drewN _⟩
  .cases edg:fG (pk s (k+1));focus
    have HV:Hid (bT s i=iq s k):=by show bT s i=_;simp only[bT,jL,hk.o,HK.o];rw[if_neg (fun h=>by simp[h.2]at edg)]
    go_in;go_wp2_with fail;refine cZ (ak s b (i) _ (i) _ (W.o.1) ⟨oo,oo,oo⟩) fun nq=>?_;go_wp2_with fail;refine jA (gB _ _) ?_;go_wp2_with fail;refine pmb (fD s b (i+1) _ ((W.o.1.drewN _).iP _ (i+1) oo oo)) fun w1 aj=>?_;have W1':Hid (aB b s (mW s (i+1)) w w1):=((W.o.drewN _).iP _ (i+1) oo oo).trans aj;clear aj;have W1:Hid (aB b s k w w1):=by have:=W1'.o;rw[HK.o]at this;exact this
    clear W1';have c01:=W1.o.1.c0;have c11:=W1.o.1.c1;have cf1:=W1.o.1.f1;have cl1:=W1.o.1.lt;have cs1:=W1.o.1.len;have ce1:=W1.o.1.le;go_wp2_with fail;refine cZ (ak s b (k) _ (k) _ (W1.o.1) ⟨oo,oo,oo⟩) fun nq=>?_;go_wp2_with fail;refine cZ (ak s b (k) _ (k+1) _ (W1.o.1.drewN _) ⟨oo,oo,oo⟩) fun nq=>?_;go_wp2_with fail;refine jA (eY _ _) ?_;go_wp2_with fail;refine pmb (jG s b k _ (W1.o.1.drewN _)) fun w3 aj=>?_;have W3':Hid (aB b s (iq s k) w w3):=(W1.o.drewN _).trans aj
   rotate_left;focus
    have hlt:k+1<s.size:=dY (by have:=kM edg;omega);have HV:Hid (bT s i=iq s (mW s (k+1))):=by show bT s i=_;simp only[bT,jL,hk.o,HK.o];rw[if_pos ⟨by simpa using e46,edg⟩]
    go_in;go_wp2_with fail;refine cZ (ak s b (i) _ (i) _ (W.o.1) ⟨oo,oo,oo⟩) fun nq=>?_;go_wp2_with fail;refine jA (gB _ _) ?_;go_wp2_with fail;refine pmb (fD s b (i+1) _ ((W.o.1.drewN _).iP _ (i+1) oo oo)) fun w1 aj=>?_;have W1':Hid (aB b s (mW s (i+1)) w w1):=((W.o.drewN _).iP _ (i+1) oo oo).trans aj;clear aj;have W1:Hid (aB b s k w w1):=by have:=W1'.o;rw[HK.o]at this;exact this
    clear W1';have c01:=W1.o.1.c0;have c11:=W1.o.1.c1;have cf1:=W1.o.1.f1;have cl1:=W1.o.1.lt;have cs1:=W1.o.1.len;have ce1:=W1.o.1.le;go_wp2_with fail;refine cZ (ak s b (k) _ (k) _ (W1.o.1) ⟨oo,oo,oo⟩) fun nq=>?_;go_wp2_with fail;refine cZ (ak s b (k) _ (k+1) _ (W1.o.1.drewN _) ⟨oo,oo,oo⟩) fun nq=>?_;go_wp2_with fail;refine jA (eY _ _) ?_;go_wp2_with fail;refine pmb (fD s b (k+1) _ ((W1.o.1.drewN _).iP _ (k+1) oo oo)) fun w2 aj=>?_;have W2:Hid (aB b s (mW s (k+1)) w w2):=((W1.o.drewN _).iP _ (k+1) oo oo).trans aj;clear aj;go_wp2_with fail;refine pmb (jG s b (mW s (k+1)) _ W2.o.1) fun w3 aj=>?_;have W3':Hid (aB b s (iq s (mW s (k+1))) w w3):=W2.o.trans aj
   rotate_left;all_goals
    clear aj;have W3:Hid (aB b s (bT s i) w w3):=by have:=W3'.o;rw[<-HV.o]at this;exact this
    clear W3';have c03:=W3.o.1.c0;have c13:=W3.o.1.c1;have cf3:=W3.o.1.f1;have cl3:=W3.o.1.lt;have cs3:=W3.o.1.len;have ce3:=W3.o.1.le;go_wp2_with fail;go_quiet (fail)
    go_wp2_with fail;go_ret;exact⟨rfl,W3.o.drewN _⟩
structure gX(w:WD)(R:Nat):Prop where
 blk:w.heap[R]?=some (.cells #[.int .i64 0,.string ⟨#[]⟩,.string ⟨#[]⟩] 93 (0,0))
theorem gX.new(w:WD):gX (w.alloc (.cells #[.int .i64 0,.string ⟨#[]⟩,.string ⟨#[]⟩] 93 (0,0))) w.heap.size:=⟨heap_alloc_new w _⟩
theorem gX.nh(w:WD):Hid (gX (w.alloc (.cells #[.int .i64 0,.string ⟨#[]⟩,.string ⟨#[]⟩] 93 (0,0))) w.heap.size):=gX.new w
theorem gX.lt{w:WD}{R:Nat}(h:gX w R):R<w.heap.size:=(Ay h.blk)
theorem gX.c0{w:WD}{R:Nat}(h:gX w R):w.cell? ⟨R,0,none⟩=some (.int .i64 0):=by unfold World.cell?;rw[h.blk];rfl
theorem gX.c1{w:WD}{R:Nat}(h:gX w R):w.cell? ⟨R,1,none⟩=some (.string ⟨#[]⟩):=by unfold World.cell?;rw[h.blk];rfl
theorem gX.c2{w:WD}{R:Nat}(h:gX w R):w.cell? ⟨R,2,none⟩=some (.string ⟨#[]⟩):=by unfold World.cell?;rw[h.blk];rfl
theorem gX.f{w:WD}{R:Nat}(h:gX w R)(o:Nat):w.frozen? ⟨R,o,none⟩=false:=by unfold World.frozen?;rw[h.blk];simp
theorem gX.turn{w w':WD}{R b:Nat}(h:gX w R)(ht:Turn b w w')(hb:R≠b):gX w' R:=⟨by rw[ht.block R h.lt hb];exact h.blk⟩
theorem gX.drewN{w:WD}{R:Nat}(h:gX w R)(n:Nat):gX (w.drewN n) R:=⟨h.blk⟩
theorem gX.set{w:WD}{R b o:Nat}(h:gX w R)(hb:R≠b)(v:Av):gX (w.setCell ⟨b,o,none⟩ v) R:=⟨by rw[Below.heap_setCell _ _ _ _ (by exact hb)];exact h.blk⟩
theorem aB.cu{b k:Nat}{s:BY}{w w1:WD}{R:Nat}(h:aB b s k w w1)(hb:b<w.heap.size)(hR:w.heap.size<=R)(o:Nat)(v:Av):aB b s k w (w1.setCell ⟨R,o,none⟩ v):=by
 have hp:=h.1.pos;have hsz:=h.2.size;refine⟨⟨?_,?_,h.1.pos,h.1.len,h.1.le⟩,⟨h.2.os,h.2.tape,h.2.output,by simp[World.setCell];exact h.2.size,fun j hj hjb=>?_⟩⟩
 .rw[Below.heap_setCell _ _ _ _ (by show b≠R;omega)];exact h.1.blk
 .obtain⟨m,hm⟩:=h.1.glob;exact⟨m,by rw[<-hm];exact World.cell?_of_block (w:=w1) (Below.heap_setCell _ _ _ _ (by show(0:Nat)≠R;omega))⟩
 .rw[Below.heap_setCell _ _ _ _ (by show j≠R;omega)];exact h.2.block j hj hjb
def bF(t:Tok):Av:=.agg #[.int .i64 t.kind,.string t.word,.string t.unit]
theorem Nh(s:BY)(b i:Nat)(w:WD)(h:Sc w b s i):
  Calls prog 182 #[.pointer (some ⟨b,0,none⟩)] w fun e w'=>e=.returned (bF (Sp.numeric s i).1)/\aB b s (Sp.numeric s i).2 w w':=by
 have W:=aB.nh h;have hbw:b<w.heap.size:=h.lt;clear h;cases h37:(pk s (bT s i)==37)
 .have n37:¬pk s (bT s i)=37:=by simpa using h37
  cases hbg:iG s (bT s i)
  .have HV:Hid (Sp.numeric s i=(Tok.w 5 (s.extract i (bT s i)),bT s i)):=by
    show _=_;unfold Sp.numeric;dsimp only;rw[if_neg n37,if_neg (by simp[hbg])]
   clear n37;go_in;go_wp2_with fail;refine pmb (IL s b i _ W.o.1) fun w1 aj=>?_;have W1:=hid (W.o.trans aj);have R1:Hid (gX w1 w.heap.size):=(gX.new w).turn aj.2 oo;clear aj;have c01:=W1.o.1.c0;have c11:=W1.o.1.c1;have cf1:=W1.o.1.f1;have cl1:=W1.o.1.lt;have cs1:=W1.o.1.len;have ce1:=W1.o.1.le;go_wp2_with fail;refine cZ (ak s b (bT s i) _ (bT s i) _ (W1.o.1) ⟨oo,oo,oo⟩) fun nq=>?_;go_wp2_with fail;refine cZ (fP s b (bT s i) _ (bT s i) _ (W1.o.1.drewN _) ⟨oo,oo,oo⟩) fun nq=>?_;have r0:=R1.o.c0;have r1:=R1.o.c1;have r2:=R1.o.c2;have rf:=R1.o.f;have rl:=R1.o.lt;go_wp2_with fail;rw[HV.o]
   exact bodyPost_ret (v:=bF (Tok.w 5 (s.extract i (bT s i)))) (by simp[results,Tryz.results182,go_sem,bF,Tok.w,r0,r1,r2];rfl) rfl ⟨rfl,((((W1.o.drewN _)).cu hbw nl _ _).cu hbw nl _ _).cu hbw nl _ _⟩
  .have HV:Hid (Sp.numeric s i=(⟨7,s.extract i (bT s i),(Sp.name s (bT s i)).1⟩,(Sp.name s (bT s i)).2)):=by
    show _=_;unfold Sp.numeric;dsimp only;rw[if_neg n37,if_pos hbg]
   clear n37;go_in;go_wp2_with fail;refine pmb (IL s b i _ W.o.1) fun w1 aj=>?_;have W1:=hid (W.o.trans aj);have R1:Hid (gX w1 w.heap.size):=(gX.new w).turn aj.2 oo;clear aj;go_wp2_with fail;refine cZ (ak s b (bT s i) _ (bT s i) _ (W1.o.1) ⟨oo,oo,oo⟩) fun nq=>?_;go_wp2_with fail;refine cZ (fP s b (bT s i) _ (bT s i) _ (W1.o.1.drewN _) ⟨oo,oo,oo⟩) fun nq=>?_;go_wp2_with fail;refine pmb (Ar s b (bT s i) _ (W1.o.1.drewN _)) fun w2 aj=>?_;have W2:Hid (aB b s (Sp.name s (bT s i)).2 w w2):=(W1.o.drewN _).trans aj;have R2:Hid (gX w2 w.heap.size):=(R1.o.drewN _).turn aj.2 oo;clear aj;have r0:=R2.o.c0;have r1:=R2.o.c1;have r2:=R2.o.c2;have rf:=R2.o.f;have rl:=R2.o.lt;go_wp2_with fail;rw[HV.o]
   exact bodyPost_ret (v:=bF ⟨7,s.extract i (bT s i),(Sp.name s (bT s i)).1⟩) (by simp[results,Tryz.results182,go_sem,bF,r0,r1,r2]) rfl ⟨rfl,((W2.o.cu hbw nl _ _).cu hbw nl _ _).cu hbw nl _ _⟩
 .have hlt:bT s i<s.size:=dY (by have:pk s (bT s i)=37:=(by simpa using h37);omega);have HV:Hid (Sp.numeric s i=(Tok.w 6 (s.extract i (bT s i)),bT s i+1)):=by
   show _=_;unfold Sp.numeric;dsimp only;rw[if_pos (by simpa using h37)]
  go_in;go_wp2_with fail;refine pmb (IL s b i _ W.o.1) fun w1 aj=>?_;have W1:=hid (W.o.trans aj);have R1:Hid (gX w1 w.heap.size):=(gX.new w).turn aj.2 oo;clear aj;have c01:=W1.o.1.c0;have c11:=W1.o.1.c1;have cf1:=W1.o.1.f1;have cl1:=W1.o.1.lt;have cs1:=W1.o.1.len;have ce1:=W1.o.1.le;go_wp2_with fail;refine cZ (ak s b (bT s i) _ (bT s i) _ (W1.o.1) ⟨oo,oo,oo⟩) fun nq=>?_;have r0:=R1.o.c0;have r1:=R1.o.c1;have r2:=R1.o.c2;have rf:=R1.o.f;have rl:=R1.o.lt;go_wp2_with fail;rw[HV.o];exact bodyPost_ret (v:=bF (Tok.w 6 (s.extract i (bT s i)))) (by simp[results,Tryz.results182,go_sem,bF,Tok.w,r0,r1,r2];rfl) rfl ⟨rfl,(((((W1.o.drewN _).iP _ (bT s i+1) oo oo)).cu hbw nl _ _).cu hbw nl _ _).cu hbw nl _ _⟩
