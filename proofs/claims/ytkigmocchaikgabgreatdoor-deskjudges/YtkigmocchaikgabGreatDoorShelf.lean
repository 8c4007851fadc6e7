
import Derived.Shelf.Strings.Builder1
import Derived.Shelf.Small.Wraps
import Derived.Shelf.Strings.BuilderF
import Derived.Shelf.Strings.BuilderK
import Derived.Shelf.Strconv.Atoi
import Derived.Shelf.Strconv.Itoa0
import Derived.Shelf.Strconv.Itoa1
import Derived.Shelf.LaysM
import Derived.Shelf.Strconv.Itoa2
import Derived.Shelf.Strconv.Itoa3
import Derived.Shelf.Strconv.AtoiErrFast
import Derived.Shelf.Strconv.ParseIntEmpty
import Derived.Shelf.Strconv.AtoiFail
import Derived.Shelf.Strconv.Clone
import Derived.Shelf.Strconv.SyntaxError
import Derived.Shelf.LaysC
import Derived.Shelf.Strconv.ToError
import Derived.Shelf.Strconv.Lower
import Derived.Shelf.Strconv.ParseUint10
import Derived.Shelf.Strconv.ParseUint10Empty
import Derived.Shelf.Strconv.ParseUint10Any
import Derived.Shelf.Strconv.ParseInt10
import Derived.Shelf.Strconv.AtoiLong
import Derived.Shelf.Strconv.AtoiInnerAll
import Derived.Shelf.Strconv.RangeError
import Derived.Shelf.Strconv.ToErrorRange
import Derived.Shelf.Strconv.AtoiAll
import Derived.Shelf.Strconv.ErrVarAll
import Derived.Ground.MpProg
import Derived.Shelf.Pu.ParseUintPublic10
import Derived.Shelf.Pu.ErrVarParseUint
import Derived.Shelf.Strings.Search1
import Derived.Shelf.Strings.Search2
import Derived.Shelf.Strings.Search3
import Derived.Shelf.Strings.Count
import Derived.Shelf.Strings.Shaped
import Derived.Shelf.Strings.Prefix
import Derived.Shelf.Strings.Split
import Derived.Shelf.Unicode.DecodeSlow
import Derived.Test.YtkigmocchaikgabGreatDoorProg
namespace Go.Proofs
open Go.Shelf
def Tryz.lays169_ren:Go.Shelf.Ren:=⟨fun | 169=>50 | n=>n,fun | 70=>81 | 9=>9 | 0=>0 | 72=>83 | 37=>67 | 127=>127 | 3=>3 | 5=>5 | n=>n,fun | n=>n⟩
theorem Tryz.lays169:Go.Proofs.Lays.n169 Tryz.prog Tryz.lays169_ren:={
  mixed:=by kernel_rfl
  f169:=Tryz.func50.trans (congrArg some (by kernel_rfl))
  t0:=Tryz.underlying0
  a0:=Tryz.isAgg0
  z0:=Tryz.sizeOf0
  v0:=Tryz.zeroValue0
  t3:=Tryz.underlying3
  a3:=Tryz.isAgg3
  z3:=Tryz.sizeOf3
  v3:=Tryz.zeroValue3
  t9:=Tryz.underlying9
  a9:=Tryz.isAgg9
  z9:=Tryz.sizeOf9
  v9:=Tryz.zeroValue9
  t37:=Tryz.underlying67
  a37:=Tryz.isAgg67
  z37:=Tryz.sizeOf67
  v37:=Tryz.zeroValue67
  t70:=Tryz.underlying81
  a70:=Tryz.isAgg81
  z70:=Tryz.sizeOf81
  v70:=Tryz.zeroValue81
  t72:=Tryz.underlying83
  a72:=Tryz.isAgg83
  z72:=Tryz.sizeOf83
  v72:=Tryz.zeroValue83
  t127:=Tryz.underlying127
  a127:=Tryz.isAgg127
  z127:=Tryz.sizeOf127
  v127:=Tryz.zeroValue127 }
theorem Tryz.Builder_Extra_169:Builder.Extra Tryz.prog Tryz.lays169_ren:={
  sizeBuilder:=by kernel_rfl
  liesBuilder:=by kernel_rfl
  t5:=Tryz.underlying5
  a5:=Tryz.isAgg5
  z5:=Tryz.sizeOf5
  v5:=Tryz.zeroValue5
  infoByte:=by kernel_rfl
  cellsByte:=by kernel_rfl
  sizeByte:=by kernel_rfl
  neB5:=by decide }
def Tryz.lays103_ren:Go.Shelf.Ren:=⟨fun | 103=>175 | 210=>196 | 206=>176 | n=>n,fun | 9=>9 | 4=>4 | 24=>198 | 3=>3 | n=>n,fun | n=>n⟩
theorem Tryz.lays103:Go.Proofs.Lays.n103 Tryz.prog Tryz.lays103_ren:={
  mixed:=by kernel_rfl
  f103:=Tryz.func175.trans (congrArg some (by kernel_rfl))
  f206:=Tryz.func176.trans (congrArg some (by kernel_rfl))
  f210:=Tryz.func196.trans (congrArg some (by kernel_rfl))
  t3:=Tryz.underlying3
  a3:=Tryz.isAgg3
  z3:=Tryz.sizeOf3
  v3:=Tryz.zeroValue3
  t4:=Tryz.underlying4
  a4:=Tryz.isAgg4
  z4:=Tryz.sizeOf4
  v4:=Tryz.zeroValue4
  t9:=Tryz.underlying9
  a9:=Tryz.isAgg9
  z9:=Tryz.sizeOf9
  v9:=Tryz.zeroValue9
  t24:=Tryz.underlying198
  a24:=Tryz.isAgg198
  z24:=Tryz.sizeOf198
  v24:=Tryz.zeroValue198 }
open Go.RowKit in
theorem Tryz.strings_CutPrefix (s p:ByteArray) (w:World) :
    Calls Tryz.prog 175 #[.string s,.string p] w fun e w'=>e=.returned (.tuple #[.string ⟨(Lib.trimPrefix s.data.toList p.data.toList).toArray⟩,.bool (Lib.hasPrefix s.data.toList p.data.toList)])∧w'=w:=Any.strings_CutPrefix Tryz.lays103 s p w
open Go.RowKit in
theorem Tryz.Builder_String_any_k (B b:Nat) (l:List UInt8) (w:World) (h:Lib.IsBuilderF 83 5 B b (Lib.byteCells l) w) (hBw:B≤w.heap.size) :
    Calls Tryz.prog 50 #[.pointer (some ⟨b,0,none⟩)] w fun e w'=>e=.returned (.string ⟨l.toArray⟩)∧(Lib.IsBuilderF 83 5 B b (Lib.byteCells l) w'∧Below B w w'∧Lib.OthersKept 5 (some b) w w'):=Any.Builder_String_any_k Tryz.lays169 Tryz.Builder_Extra_169 B b l w h hBw
def Tryz.lays283_ren:Go.Shelf.Ren:=⟨fun | 283=>110 | n=>n,fun | 3=>3 | 9=>9 | 4=>4 | n=>n,fun | n=>n⟩
theorem Tryz.lays283:Go.Proofs.Lays.n283 Tryz.prog Tryz.lays283_ren:={
  mixed:=by kernel_rfl
  f283:=Tryz.func110.trans (congrArg some (by kernel_rfl))
  t3:=Tryz.underlying3
  a3:=Tryz.isAgg3
  z3:=Tryz.sizeOf3
  v3:=Tryz.zeroValue3
  t4:=Tryz.underlying4
  a4:=Tryz.isAgg4
  z4:=Tryz.sizeOf4
  v4:=Tryz.zeroValue4
  t9:=Tryz.underlying9
  a9:=Tryz.isAgg9
  z9:=Tryz.sizeOf9
  v9:=Tryz.zeroValue9 }
open Go.Lib in
theorem Tryz.internal_strconv_small (i:Nat) (h:i<100) (w:World) :
    Calls Tryz.prog 110 #[.int .i64 i] w fun e w'=>e=.returned (.string ⟨(Lib.decDigits i).toArray⟩)∧w'=w:=Any.internal_strconv_small Tryz.lays283 i h w
def Tryz.laysM284_ren:Go.Shelf.Ren:=⟨fun | 284=>111 | 129=>159 | 317=>158 | 318=>160 | n=>n,fun | 53=>41 | 3=>3 | 212=>184 | 0=>0 | 4=>4 | 46=>171 | 5=>5 | 9=>9 | n=>n,fun | 17=>0 | n=>n⟩
theorem Tryz.laysM284:Go.Proofs.LaysM.n284 Tryz.prog Tryz.laysM284_ren:={
  mixed:=by kernel_rfl
  f129:=Tryz.func159.trans (congrArg some (by kernel_rfl))
  f284:=Tryz.func111.trans (congrArg some (by kernel_rfl))
  f317:=Tryz.func158.trans (congrArg some (by kernel_rfl))
  f318:=Tryz.func160.trans (congrArg some (by kernel_rfl))
  t0:=Tryz.underlying0
  a0:=Tryz.isAgg0
  z0:=Tryz.sizeOf0
  v0:=Tryz.zeroValue0
  t3:=Tryz.underlying3
  a3:=Tryz.isAgg3
  z3:=Tryz.sizeOf3
  v3:=Tryz.zeroValue3
  t4:=Tryz.underlying4
  a4:=Tryz.isAgg4
  z4:=Tryz.sizeOf4
  v4:=Tryz.zeroValue4
  t5:=Tryz.underlying5
  a5:=Tryz.isAgg5
  z5:=Tryz.sizeOf5
  v5:=Tryz.zeroValue5
  t9:=Tryz.underlying9
  a9:=Tryz.isAgg9
  z9:=Tryz.sizeOf9
  v9:=Tryz.zeroValue9
  t46:=Tryz.underlying171
  a46:=Tryz.isAgg171
  z46:=Tryz.sizeOf171
  v46:=Tryz.zeroValue171
  t53:=Tryz.underlying41
  a53:=Tryz.isAgg41
  z53:=Tryz.sizeOf41
  v53:=Tryz.zeroValue41
  t212:=Tryz.underlying184
  a212:=Tryz.isAgg184
  z212:=Tryz.sizeOf184
  v212:=Tryz.zeroValue184
  g17:=by kernel_rfl
  i0:=by kernel_rfl
  i3:=by kernel_rfl
  i4:=by kernel_rfl
  i5:=by kernel_rfl
  i9:=by kernel_rfl
  i46:=by kernel_rfl
  i53:=by kernel_rfl
  i212:=by kernel_rfl
  m17:=by kernel_rfl }
open Go.Lib in
theorem Tryz.internal_strconv_numDigits (u:Nat) (h1:1≤u) (h2:u<18446744073709551616) (w:World) (htab:Lib.TabIs Tryz.prog w "internal/strconv.uint64pow10" .u64 Lib.pow10Tab) :
    Calls Tryz.prog 111 #[.int .u64 u] w fun e w'=>e=.returned (.int .i64 (Lib.nDigits u))∧w'=w:=Any.internal_strconv_numDigits Tryz.laysM284 u h1 h2 w htab
def Tryz.lays285_ren:Go.Shelf.Ren:=⟨fun | 285=>112 | n=>n,fun | 37=>67 | 53=>41 | 3=>3 | 4=>4 | 51=>185 | 9=>9 | 5=>5 | 0=>0 | n=>n,fun | n=>n⟩
theorem Tryz.lays285:Go.Proofs.Lays.n285 Tryz.prog Tryz.lays285_ren:={
  mixed:=by kernel_rfl
  f285:=Tryz.func112.trans (congrArg some (by kernel_rfl))
  t0:=Tryz.underlying0
  a0:=Tryz.isAgg0
  z0:=Tryz.sizeOf0
  v0:=Tryz.zeroValue0
  t3:=Tryz.underlying3
  a3:=Tryz.isAgg3
  z3:=Tryz.sizeOf3
  v3:=Tryz.zeroValue3
  t4:=Tryz.underlying4
  a4:=Tryz.isAgg4
  z4:=Tryz.sizeOf4
  v4:=Tryz.zeroValue4
  t5:=Tryz.underlying5
  a5:=Tryz.isAgg5
  z5:=Tryz.sizeOf5
  v5:=Tryz.zeroValue5
  t9:=Tryz.underlying9
  a9:=Tryz.isAgg9
  z9:=Tryz.sizeOf9
  v9:=Tryz.zeroValue9
  t37:=Tryz.underlying67
  a37:=Tryz.isAgg67
  z37:=Tryz.sizeOf67
  v37:=Tryz.zeroValue67
  t51:=Tryz.underlying185
  a51:=Tryz.isAgg185
  z51:=Tryz.sizeOf185
  v51:=Tryz.zeroValue185
  t53:=Tryz.underlying41
  a53:=Tryz.isAgg41
  z53:=Tryz.sizeOf41
  v53:=Tryz.zeroValue41 }
open Go.RowKit Go.Sort Go.Lib in
theorem Tryz.internal_strconv_formatBase10 (blk off cap:Nat) (u:Nat) (d:Array UInt8) (w:World) (hH:Holds (fun (b:UInt8)=>Value.int .u8 (b.toNat:Int)) w blk off d) (hu:u<10 ^ d.size) (hu64:u<18446744073709551616) (hsz:d.size<4611686018427387904) :
    Calls Tryz.prog 112 #[.slice (some ⟨blk,off,none⟩) d.size cap,.int .u64 u] w fun e w' =>
      e=.returned (.tuple #[])∧∃ (n v':Nat) (dk:Array UInt8),w'=(putRow (fun (b:UInt8)=>Value.int .u8 (b.toNat:Int)) w blk off dk).drewN n∧FmtInv d.size u 0 v' dk:=Any.internal_strconv_formatBase10 Tryz.lays285 blk off cap u d w hH hu hu64 hsz
def Tryz.laysM171_ren:Go.Shelf.Ren:=⟨fun | 171=>9 | 243=>24 | 246=>60 | 283=>110 | 284=>111 | 285=>112 | 286=>113 | 129=>159 | 317=>158 | 318=>160 | 319=>161 | 320=>162 | 337=>187 | 338=>188 | n=>n,fun | 3=>3 | 9=>9 | 2=>2 | 4=>4 | 171=>140 | 0=>0 | 53=>41 | 37=>67 | 5=>5 | 173=>143 | 212=>184 | 51=>185 | 20=>20 | 213=>186 | 46=>171 | 232=>217 | 233=>218 | n=>n,fun | 17=>0 | 18=>2 | 19=>3 | n=>n⟩
theorem Tryz.laysM171:Go.Proofs.LaysM.n171 Tryz.prog Tryz.laysM171_ren:={
  mixed:=by kernel_rfl
  f129:=Tryz.func159.trans (congrArg some (by kernel_rfl))
  f171:=Tryz.func9.trans (congrArg some (by kernel_rfl))
  f243:=Tryz.func24.trans (congrArg some (by kernel_rfl))
  f246:=Tryz.func60.trans (congrArg some (by kernel_rfl))
  f283:=Tryz.func110.trans (congrArg some (by kernel_rfl))
  f284:=Tryz.func111.trans (congrArg some (by kernel_rfl))
  f285:=Tryz.func112.trans (congrArg some (by kernel_rfl))
  f286:=Tryz.func113.trans (congrArg some (by kernel_rfl))
  f317:=Tryz.func158.trans (congrArg some (by kernel_rfl))
  f318:=Tryz.func160.trans (congrArg some (by kernel_rfl))
  f319:=Tryz.func161.trans (congrArg some (by kernel_rfl))
  f320:=Tryz.func162.trans (congrArg some (by kernel_rfl))
  f337:=Tryz.func187.trans (congrArg some (by kernel_rfl))
  f338:=Tryz.func188.trans (congrArg some (by kernel_rfl))
  t0:=Tryz.underlying0
  a0:=Tryz.isAgg0
  z0:=Tryz.sizeOf0
  v0:=Tryz.zeroValue0
  t2:=Tryz.underlying2
  a2:=Tryz.isAgg2
  z2:=Tryz.sizeOf2
  v2:=Tryz.zeroValue2
  t3:=Tryz.underlying3
  a3:=Tryz.isAgg3
  z3:=Tryz.sizeOf3
  v3:=Tryz.zeroValue3
  t4:=Tryz.underlying4
  a4:=Tryz.isAgg4
  z4:=Tryz.sizeOf4
  v4:=Tryz.zeroValue4
  t5:=Tryz.underlying5
  a5:=Tryz.isAgg5
  z5:=Tryz.sizeOf5
  v5:=Tryz.zeroValue5
  t9:=Tryz.underlying9
  a9:=Tryz.isAgg9
  z9:=Tryz.sizeOf9
  v9:=Tryz.zeroValue9
  t20:=Tryz.underlying20
  a20:=Tryz.isAgg20
  z20:=Tryz.sizeOf20
  v20:=Tryz.zeroValue20
  t37:=Tryz.underlying67
  a37:=Tryz.isAgg67
  z37:=Tryz.sizeOf67
  v37:=Tryz.zeroValue67
  t46:=Tryz.underlying171
  a46:=Tryz.isAgg171
  z46:=Tryz.sizeOf171
  v46:=Tryz.zeroValue171
  t51:=Tryz.underlying185
  a51:=Tryz.isAgg185
  z51:=Tryz.sizeOf185
  v51:=Tryz.zeroValue185
  t53:=Tryz.underlying41
  a53:=Tryz.isAgg41
  z53:=Tryz.sizeOf41
  v53:=Tryz.zeroValue41
  t171:=Tryz.underlying140
  a171:=Tryz.isAgg140
  z171:=Tryz.sizeOf140
  v171:=Tryz.zeroValue140
  t173:=Tryz.underlying143
  a173:=Tryz.isAgg143
  z173:=Tryz.sizeOf143
  v173:=Tryz.zeroValue143
  t212:=Tryz.underlying184
  a212:=Tryz.isAgg184
  z212:=Tryz.sizeOf184
  v212:=Tryz.zeroValue184
  t213:=Tryz.underlying186
  a213:=Tryz.isAgg186
  z213:=Tryz.sizeOf186
  t232:=Tryz.underlying217
  a232:=Tryz.isAgg217
  z232:=Tryz.sizeOf217
  v232:=Tryz.zeroValue217
  t233:=Tryz.underlying218
  a233:=Tryz.isAgg218
  z233:=Tryz.sizeOf218
  v233:=Tryz.zeroValue218
  g17:=by kernel_rfl
  g18:=by kernel_rfl
  g19:=by kernel_rfl
  i0:=by kernel_rfl
  i2:=by kernel_rfl
  i3:=by kernel_rfl
  i4:=by kernel_rfl
  i5:=by kernel_rfl
  i9:=by kernel_rfl
  i20:=by kernel_rfl
  i37:=by kernel_rfl
  i46:=by kernel_rfl
  i51:=by kernel_rfl
  i53:=by kernel_rfl
  i171:=by kernel_rfl
  i173:=by kernel_rfl
  i212:=by kernel_rfl
  i232:=by kernel_rfl
  i233:=by kernel_rfl
  m17:=by kernel_rfl
  m18:=by kernel_rfl
  m19:=by kernel_rfl }
open Go.RowKit Go.Sort Go.Lib in
theorem Tryz.strconv_Itoa (n:Int) (h0:-9223372036854775808≤n) (h1:n≤9223372036854775807) (w:World) (htab:Lib.TabIs Tryz.prog w "internal/strconv.uint64pow10" .u64 Lib.pow10Tab) :
    Calls Tryz.prog 9 #[.int .i64 n] w fun e w'=>e=.returned (.string ⟨(Lib.itoa n).toArray⟩)∧∃ k os,w'=grow (w.drewN k) os:=Any.strconv_Itoa Tryz.laysM171 n h0 h1 w htab
def Tryz.laysC172_ren:Go.Shelf.Ren:=⟨fun | 172=>178 | 244=>199 | 245=>198 | 247=>219 | 279=>215 | 280=>216 | 281=>217 | 282=>218 | 287=>197 | 316=>221 | 171=>9 | 205=>222 | 321=>213 | 322=>214 | 243=>24 | 246=>60 | 283=>110 | 284=>111 | 285=>112 | 286=>113 | 129=>159 | 317=>158 | 318=>160 | 319=>161 | 320=>162 | 337=>187 | 338=>188 | n=>n,fun | 9=>9 | 3=>3 | 75=>87 | 76=>88 | 4=>4 | 5=>5 | 167=>226 | 37=>67 | 0=>0 | 85=>231 | 2=>2 | 168=>228 | 53=>41 | 175=>200 | 46=>171 | 210=>236 | 127=>127 | 145=>240 | 143=>238 | 21=>21 | 171=>140 | 173=>143 | 212=>184 | 51=>185 | 20=>20 | 213=>186 | 232=>217 | 233=>218 | 80=>95 | n=>n,fun | 15=>6 | 16=>7 | 17=>0 | 18=>2 | 19=>3 | n=>n⟩
theorem Tryz.laysC172:Go.Proofs.LaysC.n172 Tryz.prog Tryz.laysC172_ren:={
  mixed:=by kernel_rfl
  f129:=Tryz.func159.trans (congrArg some (by kernel_rfl))
  f171:=Tryz.func9.trans (congrArg some (by kernel_rfl))
  f172:=Tryz.func178.trans (congrArg some (by kernel_rfl))
  f205:=Tryz.func222.trans (congrArg some (by kernel_rfl))
  f243:=Tryz.func24.trans (congrArg some (by kernel_rfl))
  f244:=Tryz.func199.trans (congrArg some (by kernel_rfl))
  f245:=Tryz.func198.trans (congrArg some (by kernel_rfl))
  f246:=Tryz.func60.trans (congrArg some (by kernel_rfl))
  f247:=Tryz.func219.trans (congrArg some (by kernel_rfl))
  f279:=Tryz.func215.trans (congrArg some (by kernel_rfl))
  f280:=Tryz.func216.trans (congrArg some (by kernel_rfl))
  f281:=Tryz.func217.trans (congrArg some (by kernel_rfl))
  f282:=Tryz.func218.trans (congrArg some (by kernel_rfl))
  f283:=Tryz.func110.trans (congrArg some (by kernel_rfl))
  f284:=Tryz.func111.trans (congrArg some (by kernel_rfl))
  f285:=Tryz.func112.trans (congrArg some (by kernel_rfl))
  f286:=Tryz.func113.trans (congrArg some (by kernel_rfl))
  f287:=Tryz.func197.trans (congrArg some (by kernel_rfl))
  f316:=Tryz.func221.trans (congrArg some (by kernel_rfl))
  f317:=Tryz.func158.trans (congrArg some (by kernel_rfl))
  f318:=Tryz.func160.trans (congrArg some (by kernel_rfl))
  f319:=Tryz.func161.trans (congrArg some (by kernel_rfl))
  f320:=Tryz.func162.trans (congrArg some (by kernel_rfl))
  f321:=Tryz.func213.trans (congrArg some (by kernel_rfl))
  f322:=Tryz.func214.trans (congrArg some (by kernel_rfl))
  f337:=Tryz.func187.trans (congrArg some (by kernel_rfl))
  f338:=Tryz.func188.trans (congrArg some (by kernel_rfl))
  t0:=Tryz.underlying0
  a0:=Tryz.isAgg0
  z0:=Tryz.sizeOf0
  v0:=Tryz.zeroValue0
  t2:=Tryz.underlying2
  a2:=Tryz.isAgg2
  z2:=Tryz.sizeOf2
  v2:=Tryz.zeroValue2
  t3:=Tryz.underlying3
  a3:=Tryz.isAgg3
  z3:=Tryz.sizeOf3
  v3:=Tryz.zeroValue3
  t4:=Tryz.underlying4
  a4:=Tryz.isAgg4
  z4:=Tryz.sizeOf4
  v4:=Tryz.zeroValue4
  t5:=Tryz.underlying5
  a5:=Tryz.isAgg5
  z5:=Tryz.sizeOf5
  v5:=Tryz.zeroValue5
  t9:=Tryz.underlying9
  a9:=Tryz.isAgg9
  z9:=Tryz.sizeOf9
  v9:=Tryz.zeroValue9
  t20:=Tryz.underlying20
  a20:=Tryz.isAgg20
  z20:=Tryz.sizeOf20
  v20:=Tryz.zeroValue20
  t21:=Tryz.underlying21
  a21:=Tryz.isAgg21
  z21:=Tryz.sizeOf21
  v21:=Tryz.zeroValue21
  t37:=Tryz.underlying67
  a37:=Tryz.isAgg67
  z37:=Tryz.sizeOf67
  v37:=Tryz.zeroValue67
  t46:=Tryz.underlying171
  a46:=Tryz.isAgg171
  z46:=Tryz.sizeOf171
  v46:=Tryz.zeroValue171
  t51:=Tryz.underlying185
  a51:=Tryz.isAgg185
  z51:=Tryz.sizeOf185
  v51:=Tryz.zeroValue185
  t53:=Tryz.underlying41
  a53:=Tryz.isAgg41
  z53:=Tryz.sizeOf41
  v53:=Tryz.zeroValue41
  t75:=Tryz.underlying87
  a75:=Tryz.isAgg87
  z75:=Tryz.sizeOf87
  v75:=Tryz.zeroValue87
  t76:=Tryz.underlying88
  a76:=Tryz.isAgg88
  z76:=Tryz.sizeOf88
  v76:=Tryz.zeroValue88
  t85:=Tryz.underlying231
  a85:=Tryz.isAgg231
  z85:=Tryz.sizeOf231
  v85:=Tryz.zeroValue231
  t127:=Tryz.underlying127
  a127:=Tryz.isAgg127
  z127:=Tryz.sizeOf127
  v127:=Tryz.zeroValue127
  t143:=Tryz.underlying238
  a143:=Tryz.isAgg238
  z143:=Tryz.sizeOf238
  v143:=Tryz.zeroValue238
  t145:=Tryz.underlying240
  a145:=Tryz.isAgg240
  z145:=Tryz.sizeOf240
  v145:=Tryz.zeroValue240
  t167:=Tryz.underlying226
  a167:=Tryz.isAgg226
  z167:=Tryz.sizeOf226
  v167:=Tryz.zeroValue226
  t168:=Tryz.underlying228
  a168:=Tryz.isAgg228
  z168:=Tryz.sizeOf228
  v168:=Tryz.zeroValue228
  t171:=Tryz.underlying140
  a171:=Tryz.isAgg140
  z171:=Tryz.sizeOf140
  v171:=Tryz.zeroValue140
  t173:=Tryz.underlying143
  a173:=Tryz.isAgg143
  z173:=Tryz.sizeOf143
  v173:=Tryz.zeroValue143
  t175:=Tryz.underlying200
  a175:=Tryz.isAgg200
  z175:=Tryz.sizeOf200
  v175:=Tryz.zeroValue200
  t210:=Tryz.underlying236
  a210:=Tryz.isAgg236
  z210:=Tryz.sizeOf236
  v210:=Tryz.zeroValue236
  t212:=Tryz.underlying184
  a212:=Tryz.isAgg184
  z212:=Tryz.sizeOf184
  v212:=Tryz.zeroValue184
  t213:=Tryz.underlying186
  a213:=Tryz.isAgg186
  z213:=Tryz.sizeOf186
  t232:=Tryz.underlying217
  a232:=Tryz.isAgg217
  z232:=Tryz.sizeOf217
  v232:=Tryz.zeroValue217
  t233:=Tryz.underlying218
  a233:=Tryz.isAgg218
  z233:=Tryz.sizeOf218
  v233:=Tryz.zeroValue218
  g15:=by kernel_rfl
  g16:=by kernel_rfl
  g17:=by kernel_rfl
  g18:=by kernel_rfl
  g19:=by kernel_rfl
  t80:=Tryz.underlying95
  a80:=Tryz.isAgg95
  z80:=Tryz.sizeOf95
  v80:=Tryz.zeroValue95
  i0:=by kernel_rfl
  i2:=by kernel_rfl
  i3:=by kernel_rfl
  i4:=by kernel_rfl
  i5:=by kernel_rfl
  i9:=by kernel_rfl
  i20:=by kernel_rfl
  i21:=by kernel_rfl
  i37:=by kernel_rfl
  i46:=by kernel_rfl
  i51:=by kernel_rfl
  i53:=by kernel_rfl
  i75:=by kernel_rfl
  i76:=by kernel_rfl
  i80:=by kernel_rfl
  i85:=by kernel_rfl
  i127:=by kernel_rfl
  i143:=by kernel_rfl
  i145:=by kernel_rfl
  i167:=by kernel_rfl
  i168:=by kernel_rfl
  i171:=by kernel_rfl
  i173:=by kernel_rfl
  i175:=by kernel_rfl
  i210:=by kernel_rfl
  i212:=by kernel_rfl
  i232:=by kernel_rfl
  i233:=by kernel_rfl
  m15:=by kernel_rfl
  m16:=by kernel_rfl
  m17:=by kernel_rfl
  m18:=by kernel_rfl
  m19:=by kernel_rfl
  c0:=by kernel_rfl
  c2:=by kernel_rfl
  c3:=by kernel_rfl
  c4:=by kernel_rfl
  c5:=by kernel_rfl
  c9:=by kernel_rfl
  c20:=by kernel_rfl
  c21:=by kernel_rfl
  c37:=by kernel_rfl
  c46:=by kernel_rfl
  c51:=by kernel_rfl
  c53:=by kernel_rfl
  c75:=by kernel_rfl
  c76:=by kernel_rfl
  c80:=by kernel_rfl
  c85:=by kernel_rfl
  c127:=by kernel_rfl
  c143:=by kernel_rfl
  c145:=by kernel_rfl
  c167:=by kernel_rfl
  c168:=by kernel_rfl
  c171:=by kernel_rfl
  c173:=by kernel_rfl
  c175:=by kernel_rfl
  c210:=by kernel_rfl
  c212:=by kernel_rfl
  c213:=by kernel_rfl
  c232:=by kernel_rfl
  c233:=by kernel_rfl }
open Go.RowKit in
theorem Tryz.strconv_Atoi_ok (s:ByteArray) (hmax:s.size≤9223372036854775806) (v:Int) (h:Lib.atoiAll s.data.toList=.ok v) (w:World) :
    Calls Tryz.prog 178 #[.string s] w fun e w'=>e=.returned (.tuple #[.int .i64 v,.nilIface])∧(w'=w∨∃ t,w'=Lib.bytesWorld w 5 t):=Any.strconv_Atoi_ok Tryz.laysC172 s hmax v h w
open Go.RowKit in
theorem Tryz.strconv_Atoi_syntax (s:ByteArray) (hlim:s.size≤281474976710656) (h:Lib.atoiAll s.data.toList=.«syntax») (ev:Value) (w:World) (hv:w.cell? ⟨6,0,none⟩=some ev) (hev:ev=.nilIface∨∃ te pe,ev=.iface te pe) :
    Calls Tryz.prog 178 #[.string s] w fun e w'=>∃ N,e=.returned (.tuple #[.int .i64 (0),.iface 228 (.pointer (some ⟨N,0,none⟩))])∧w.heap.size≤N∧w'.heap[N]?=some (.cells #[.string ⟨#[65,116,111,105]⟩,.string s,ev] 236 (0,0))∧Below w.heap.size w w':=Any.strconv_Atoi_syntax Tryz.laysC172 s hlim h ev w hv hev
open Go.RowKit in
theorem Tryz.strconv_Atoi_range (s:ByteArray) (hlim:s.size≤281474976710656) (h:Lib.atoiAll s.data.toList=.range) (ev:Value) (w:World) (hv:w.cell? ⟨7,0,none⟩=some ev) (hev:ev=.nilIface∨∃ te pe,ev=.iface te pe) :
    Calls Tryz.prog 178 #[.string s] w fun e w'=>∃ N,e=.returned (.tuple #[.int .i64 (Lib.atoiSat s.data.toList),.iface 228 (.pointer (some ⟨N,0,none⟩))])∧w.heap.size≤N∧w'.heap[N]?=some (.cells #[.string ⟨#[65,116,111,105]⟩,.string s,ev] 236 (0,0))∧Below w.heap.size w w':=Any.strconv_Atoi_range Tryz.laysC172 s hlim h ev w hv hev
def Tryz.laysPu14_ren:Go.Shelf.Ren:=⟨fun | 14=>177 | 16=>197 | 17=>198 | 19=>213 | 20=>214 | 21=>215 | 22=>216 | 23=>217 | 24=>218 | 25=>221 | 27=>9 | 26=>222 | 28=>24 | 29=>60 | 30=>110 | 31=>111 | 32=>112 | 33=>113 | 35=>159 | 34=>158 | 36=>160 | 37=>161 | 38=>162 | 39=>187 | 40=>188 | n=>n,fun | 9=>9 | 3=>3 | 22=>41 | 24=>87 | 25=>200 | 4=>4 | 34=>226 | 5=>5 | 36=>171 | 37=>67 | 0=>0 | 39=>228 | 21=>21 | 44=>236 | 47=>127 | 50=>240 | 48=>238 | 2=>2 | 52=>140 | 55=>143 | 59=>184 | 60=>185 | 20=>20 | 61=>186 | 65=>217 | 66=>218 | 67=>95 | n=>n,fun | 0=>6 | 1=>7 | 2=>0 | 3=>2 | 4=>3 | n=>n⟩
theorem Tryz.laysPu14:Go.Proofs.LaysPu.n14 Tryz.prog Tryz.laysPu14_ren:={
  mixed:=by kernel_rfl
  f14:=Tryz.func177.trans (congrArg some (by kernel_rfl))
  f16:=Tryz.func197.trans (congrArg some (by kernel_rfl))
  f17:=Tryz.func198.trans (congrArg some (by kernel_rfl))
  f19:=Tryz.func213.trans (congrArg some (by kernel_rfl))
  f20:=Tryz.func214.trans (congrArg some (by kernel_rfl))
  f21:=Tryz.func215.trans (congrArg some (by kernel_rfl))
  f22:=Tryz.func216.trans (congrArg some (by kernel_rfl))
  f23:=Tryz.func217.trans (congrArg some (by kernel_rfl))
  f24:=Tryz.func218.trans (congrArg some (by kernel_rfl))
  f25:=Tryz.func221.trans (congrArg some (by kernel_rfl))
  f26:=Tryz.func222.trans (congrArg some (by kernel_rfl))
  f27:=Tryz.func9.trans (congrArg some (by kernel_rfl))
  f28:=Tryz.func24.trans (congrArg some (by kernel_rfl))
  f29:=Tryz.func60.trans (congrArg some (by kernel_rfl))
  f30:=Tryz.func110.trans (congrArg some (by kernel_rfl))
  f31:=Tryz.func111.trans (congrArg some (by kernel_rfl))
  f32:=Tryz.func112.trans (congrArg some (by kernel_rfl))
  f33:=Tryz.func113.trans (congrArg some (by kernel_rfl))
  f34:=Tryz.func158.trans (congrArg some (by kernel_rfl))
  f35:=Tryz.func159.trans (congrArg some (by kernel_rfl))
  f36:=Tryz.func160.trans (congrArg some (by kernel_rfl))
  f37:=Tryz.func161.trans (congrArg some (by kernel_rfl))
  f38:=Tryz.func162.trans (congrArg some (by kernel_rfl))
  f39:=Tryz.func187.trans (congrArg some (by kernel_rfl))
  f40:=Tryz.func188.trans (congrArg some (by kernel_rfl))
  t0:=Tryz.underlying0
  a0:=Tryz.isAgg0
  z0:=Tryz.sizeOf0
  v0:=Tryz.zeroValue0
  i0:=by kernel_rfl
  t2:=Tryz.underlying2
  a2:=Tryz.isAgg2
  z2:=Tryz.sizeOf2
  v2:=Tryz.zeroValue2
  i2:=by kernel_rfl
  t3:=Tryz.underlying3
  a3:=Tryz.isAgg3
  z3:=Tryz.sizeOf3
  v3:=Tryz.zeroValue3
  i3:=by kernel_rfl
  t4:=Tryz.underlying4
  a4:=Tryz.isAgg4
  z4:=Tryz.sizeOf4
  v4:=Tryz.zeroValue4
  i4:=by kernel_rfl
  t5:=Tryz.underlying5
  a5:=Tryz.isAgg5
  z5:=Tryz.sizeOf5
  v5:=Tryz.zeroValue5
  i5:=by kernel_rfl
  t9:=Tryz.underlying9
  a9:=Tryz.isAgg9
  z9:=Tryz.sizeOf9
  v9:=Tryz.zeroValue9
  i9:=by kernel_rfl
  t20:=Tryz.underlying20
  a20:=Tryz.isAgg20
  z20:=Tryz.sizeOf20
  v20:=Tryz.zeroValue20
  i20:=by kernel_rfl
  t21:=Tryz.underlying21
  a21:=Tryz.isAgg21
  z21:=Tryz.sizeOf21
  v21:=Tryz.zeroValue21
  i21:=by kernel_rfl
  t22:=Tryz.underlying41
  a22:=Tryz.isAgg41
  z22:=Tryz.sizeOf41
  v22:=Tryz.zeroValue41
  i22:=by kernel_rfl
  t24:=Tryz.underlying87
  a24:=Tryz.isAgg87
  z24:=Tryz.sizeOf87
  v24:=Tryz.zeroValue87
  i24:=by kernel_rfl
  t25:=Tryz.underlying200
  a25:=Tryz.isAgg200
  z25:=Tryz.sizeOf200
  v25:=Tryz.zeroValue200
  i25:=by kernel_rfl
  t34:=Tryz.underlying226
  a34:=Tryz.isAgg226
  z34:=Tryz.sizeOf226
  v34:=Tryz.zeroValue226
  i34:=by kernel_rfl
  c34:=by kernel_rfl
  t36:=Tryz.underlying171
  a36:=Tryz.isAgg171
  z36:=Tryz.sizeOf171
  v36:=Tryz.zeroValue171
  i36:=by kernel_rfl
  t37:=Tryz.underlying67
  a37:=Tryz.isAgg67
  z37:=Tryz.sizeOf67
  v37:=Tryz.zeroValue67
  i37:=by kernel_rfl
  t39:=Tryz.underlying228
  a39:=Tryz.isAgg228
  z39:=Tryz.sizeOf228
  v39:=Tryz.zeroValue228
  i39:=by kernel_rfl
  t44:=Tryz.underlying236
  a44:=Tryz.isAgg236
  z44:=Tryz.sizeOf236
  v44:=Tryz.zeroValue236
  i44:=by kernel_rfl
  t47:=Tryz.underlying127
  a47:=Tryz.isAgg127
  z47:=Tryz.sizeOf127
  v47:=Tryz.zeroValue127
  i47:=by kernel_rfl
  t48:=Tryz.underlying238
  a48:=Tryz.isAgg238
  z48:=Tryz.sizeOf238
  v48:=Tryz.zeroValue238
  i48:=by kernel_rfl
  t50:=Tryz.underlying240
  a50:=Tryz.isAgg240
  z50:=Tryz.sizeOf240
  v50:=Tryz.zeroValue240
  i50:=by kernel_rfl
  t52:=Tryz.underlying140
  a52:=Tryz.isAgg140
  z52:=Tryz.sizeOf140
  v52:=Tryz.zeroValue140
  i52:=by kernel_rfl
  t55:=Tryz.underlying143
  a55:=Tryz.isAgg143
  z55:=Tryz.sizeOf143
  v55:=Tryz.zeroValue143
  i55:=by kernel_rfl
  t59:=Tryz.underlying184
  a59:=Tryz.isAgg184
  z59:=Tryz.sizeOf184
  v59:=Tryz.zeroValue184
  i59:=by kernel_rfl
  t60:=Tryz.underlying185
  a60:=Tryz.isAgg185
  z60:=Tryz.sizeOf185
  v60:=Tryz.zeroValue185
  i60:=by kernel_rfl
  t61:=Tryz.underlying186
  a61:=Tryz.isAgg186
  z61:=Tryz.sizeOf186
  t65:=Tryz.underlying217
  a65:=Tryz.isAgg217
  z65:=Tryz.sizeOf217
  v65:=Tryz.zeroValue217
  i65:=by kernel_rfl
  t66:=Tryz.underlying218
  a66:=Tryz.isAgg218
  z66:=Tryz.sizeOf218
  v66:=Tryz.zeroValue218
  i66:=by kernel_rfl
  t67:=Tryz.underlying95
  a67:=Tryz.isAgg95
  z67:=Tryz.sizeOf95
  v67:=Tryz.zeroValue95
  i67:=by kernel_rfl
  g0:=by kernel_rfl
  m0:=by kernel_rfl
  g1:=by kernel_rfl
  m1:=by kernel_rfl
  g2:=by kernel_rfl
  m2:=by kernel_rfl
  g3:=by kernel_rfl
  m3:=by kernel_rfl
  g4:=by kernel_rfl
  m4:=by kernel_rfl }
open Go.RowKit in
theorem Tryz.strconv_ParseUint_10_at64_ok (s:ByteArray) (hmax:s.size≤9223372036854775806) (u:Nat) (h:Lib.parseUintB 64 s.data.toList=.ok u) (w:World) :
    Calls Tryz.prog 177 #[.string s,.int .i64 10,.int .i64 64] w fun e w'=>e=.returned (.tuple #[.int .u64 u,.nilIface])∧(w'=w∨w'=Lib.bytesWorld w 5 s):=Any.strconv_ParseUint_10_at64_ok Tryz.laysPu14 s hmax u h w
open Go.RowKit in
theorem Tryz.strconv_ParseUint_10_at64_syntax (s:ByteArray) (hlim:s.size≤281474976710656) (h:Lib.parseUintB 64 s.data.toList=.«syntax») (ev:Value) (w:World) (hv:w.cell? ⟨6,0,none⟩=some ev) (hev:ev=.nilIface∨∃ te pe,ev=.iface te pe) :
    Calls Tryz.prog 177 #[.string s,.int .i64 10,.int .i64 64] w fun e w'=>∃ N,e=.returned (.tuple #[.int .u64 0,.iface 228 (.pointer (some ⟨N,0,none⟩))])∧w.heap.size≤N∧w'.heap[N]?=some (.cells #[.string ⟨#[80,97,114,115,101,85,105,110,116]⟩,.string s,ev] 236 (0,0))∧Below w.heap.size w w':=Any.strconv_ParseUint_10_at64_syntax Tryz.laysPu14 s hlim h ev w hv hev
open Go.RowKit in
theorem Tryz.strconv_ParseUint_10_at64_range (s:ByteArray) (hlim:s.size≤281474976710656) (h:Lib.parseUintB 64 s.data.toList=.range) (ev:Value) (w:World) (hv:w.cell? ⟨7,0,none⟩=some ev) (hev:ev=.nilIface∨∃ te pe,ev=.iface te pe) :
    Calls Tryz.prog 177 #[.string s,.int .i64 10,.int .i64 64] w fun e w'=>∃ N,e=.returned (.tuple #[.int .u64 18446744073709551615,.iface 228 (.pointer (some ⟨N,0,none⟩))])∧w.heap.size≤N∧w'.heap[N]?=some (.cells #[.string ⟨#[80,97,114,115,101,85,105,110,116]⟩,.string s,ev] 236 (0,0))∧Below w.heap.size w w':=Any.strconv_ParseUint_10_at64_range Tryz.laysPu14 s hlim h ev w hv hev
def Tryz.lays99_ren:Go.Shelf.Ren:=⟨fun | 99=>136 | 206=>176 | n=>n,fun | 9=>9 | 4=>4 | 3=>3 | n=>n,fun | n=>n⟩
theorem Tryz.lays99:Go.Proofs.Lays.n99 Tryz.prog Tryz.lays99_ren:={
  mixed:=by kernel_rfl
  f99:=Tryz.func136.trans (congrArg some (by kernel_rfl))
  f206:=Tryz.func176.trans (congrArg some (by kernel_rfl))
  t3:=Tryz.underlying3
  a3:=Tryz.isAgg3
  z3:=Tryz.sizeOf3
  v3:=Tryz.zeroValue3
  t4:=Tryz.underlying4
  a4:=Tryz.isAgg4
  z4:=Tryz.sizeOf4
  v4:=Tryz.zeroValue4
  t9:=Tryz.underlying9
  a9:=Tryz.isAgg9
  z9:=Tryz.sizeOf9
  v9:=Tryz.zeroValue9 }
open Go.RowKit Go.Lib in
theorem Tryz.strings_HasPrefix (s p:ByteArray) (w:World) :
    Calls Tryz.prog 136 #[.string s,.string p] w fun e w'=>e=.returned (.bool (Lib.hasPrefix s.data.toList p.data.toList))∧w'=w:=Any.strings_HasPrefix Tryz.lays99 s p w
def Tryz.lays102_ren:Go.Shelf.Ren:=⟨fun | 102=>43 | 209=>89 | 207=>134 | n=>n,fun | 9=>9 | 4=>4 | 3=>3 | n=>n,fun | n=>n⟩
theorem Tryz.lays102:Go.Proofs.Lays.n102 Tryz.prog Tryz.lays102_ren:={
  mixed:=by kernel_rfl
  f102:=Tryz.func43.trans (congrArg some (by kernel_rfl))
  f207:=Tryz.func134.trans (congrArg some (by kernel_rfl))
  f209:=Tryz.func89.trans (congrArg some (by kernel_rfl))
  t3:=Tryz.underlying3
  a3:=Tryz.isAgg3
  z3:=Tryz.sizeOf3
  v3:=Tryz.zeroValue3
  t4:=Tryz.underlying4
  a4:=Tryz.isAgg4
  z4:=Tryz.sizeOf4
  v4:=Tryz.zeroValue4
  t9:=Tryz.underlying9
  a9:=Tryz.isAgg9
  z9:=Tryz.sizeOf9
  v9:=Tryz.zeroValue9 }
open Go.RowKit Go.Lib in
theorem Tryz.strings_TrimSuffix (s p:ByteArray) (w:World) (hs:s.size≤9223372036854775807) :
    Calls Tryz.prog 43 #[.string s,.string p] w fun e w'=>e=.returned (.string ⟨(Lib.trimSuffix s.data.toList p.data.toList).toArray⟩)∧w'=w:=Any.strings_TrimSuffix Tryz.lays102 s p w hs
def Tryz.lays146_ren:Go.Shelf.Ren:=⟨fun | 146=>42 | 221=>88 | 268=>131 | 138=>132 | 143=>133 | 195=>171 | 197=>172 | 218=>173 | 219=>174 | 260=>191 | 217=>192 | 225=>193 | 224=>194 | 267=>195 | 266=>211 | 314=>212 | n=>n,fun | 9=>9 | 31=>61 | 3=>3 | 4=>4 | 0=>0 | 105=>195 | 21=>21 | 5=>5 | 46=>171 | 119=>220 | 139=>223 | 138=>222 | 146=>224 | 51=>185 | n=>n,fun | 1=>1 | 3=>4 | 4=>5 | n=>n⟩
theorem Tryz.lays146:Go.Proofs.Lays.n146 Tryz.prog Tryz.lays146_ren:={
  mixed:=by kernel_rfl
  f138:=Tryz.func132.trans (congrArg some (by kernel_rfl))
  f143:=Tryz.func133.trans (congrArg some (by kernel_rfl))
  f146:=Tryz.func42.trans (congrArg some (by kernel_rfl))
  f195:=Tryz.func171.trans (congrArg some (by kernel_rfl))
  f197:=Tryz.func172.trans (congrArg some (by kernel_rfl))
  f217:=Tryz.func192.trans (congrArg some (by kernel_rfl))
  f218:=Tryz.func173.trans (congrArg some (by kernel_rfl))
  f219:=Tryz.func174.trans (congrArg some (by kernel_rfl))
  f221:=Tryz.func88.trans (congrArg some (by kernel_rfl))
  f224:=Tryz.func194.trans (congrArg some (by kernel_rfl))
  f225:=Tryz.func193.trans (congrArg some (by kernel_rfl))
  f260:=Tryz.func191.trans (congrArg some (by kernel_rfl))
  f266:=Tryz.func211.trans (congrArg some (by kernel_rfl))
  f267:=Tryz.func195.trans (congrArg some (by kernel_rfl))
  f268:=Tryz.func131.trans (congrArg some (by kernel_rfl))
  f314:=Tryz.func212.trans (congrArg some (by kernel_rfl))
  t0:=Tryz.underlying0
  a0:=Tryz.isAgg0
  z0:=Tryz.sizeOf0
  v0:=Tryz.zeroValue0
  t3:=Tryz.underlying3
  a3:=Tryz.isAgg3
  z3:=Tryz.sizeOf3
  v3:=Tryz.zeroValue3
  t4:=Tryz.underlying4
  a4:=Tryz.isAgg4
  z4:=Tryz.sizeOf4
  v4:=Tryz.zeroValue4
  t5:=Tryz.underlying5
  a5:=Tryz.isAgg5
  z5:=Tryz.sizeOf5
  v5:=Tryz.zeroValue5
  t9:=Tryz.underlying9
  a9:=Tryz.isAgg9
  z9:=Tryz.sizeOf9
  v9:=Tryz.zeroValue9
  t21:=Tryz.underlying21
  a21:=Tryz.isAgg21
  z21:=Tryz.sizeOf21
  v21:=Tryz.zeroValue21
  t31:=Tryz.underlying61
  a31:=Tryz.isAgg61
  z31:=Tryz.sizeOf61
  v31:=Tryz.zeroValue61
  t46:=Tryz.underlying171
  a46:=Tryz.isAgg171
  z46:=Tryz.sizeOf171
  v46:=Tryz.zeroValue171
  t51:=Tryz.underlying185
  a51:=Tryz.isAgg185
  z51:=Tryz.sizeOf185
  v51:=Tryz.zeroValue185
  t105:=Tryz.underlying195
  a105:=Tryz.isAgg195
  z105:=Tryz.sizeOf195
  v105:=Tryz.zeroValue195
  t119:=Tryz.underlying220
  a119:=Tryz.isAgg220
  z119:=Tryz.sizeOf220
  t138:=Tryz.underlying222
  a138:=Tryz.isAgg222
  z138:=Tryz.sizeOf222
  v138:=Tryz.zeroValue222
  t139:=Tryz.underlying223
  a139:=Tryz.isAgg223
  z139:=Tryz.sizeOf223
  v139:=Tryz.zeroValue223
  t146:=Tryz.underlying224
  a146:=Tryz.isAgg224
  z146:=Tryz.sizeOf224
  v146:=Tryz.zeroValue224
  g1:=by kernel_rfl
  g3:=by kernel_rfl
  g4:=by kernel_rfl }
open Go.RowKit Go.Lib in
theorem Tryz.strings_Split (s sep:ByteArray) (m:Int) (w:World) (hs:s.size<4294967281) (hm:w.cell? ⟨1,0,none⟩=some (.int .i64 m)) (h1:1≤sep.size) :
    Calls Tryz.prog 42 #[.string s,.string sep] w fun e w' =>
      e=.returned (.slice (some ⟨w.heap.size,0,none⟩) (Lib.countB s sep+1) (Lib.countB s sep+1))∧w'=w.alloc (.cells ((Lib.splitB sep 0 (Lib.countB s sep) s).map Value.string).toArray 9):=Any.strings_Split Tryz.lays146 (by kernel_rfl) s sep m w hs hm h1
end Go.Proofs
