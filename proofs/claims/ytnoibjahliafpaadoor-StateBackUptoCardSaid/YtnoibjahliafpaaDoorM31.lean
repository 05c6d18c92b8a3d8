/-
  DERIVED: THE SHELF's CONTRACTS AT THIS DUMP, IN PLAIN WORDS (tools/lay-plain.mjs out of 'TrydShelf.lean', which tools/lay-shelf.mjs wrote): THE SAME DECLARATIONS UNDER THE SAME NAMES: 'import', 'namespace', 'open', 'def', 'theorem' AND NOTHING ELSE: no command of the shelf's: FOR A HAND-IN. Each laying: the table of numbers ('.._ren') and one theorem, a field a fact of the dump's own or the kernel's comparison; each contract: ONE APPLICATION.
-/
import Derived.Shelf.Strconv.Itoa0
import Derived.Shelf.Strconv.Itoa1
import Derived.Shelf.LaysM
import Derived.Shelf.Strconv.Itoa2
import Derived.Shelf.Strconv.ParseIntEmpty
import Derived.Shelf.Strconv.Clone
import Derived.Shelf.Strconv.SyntaxError
import Derived.Shelf.LaysC
import Derived.Shelf.Strconv.ToError
import Derived.Shelf.Strconv.Lower
import Derived.Shelf.Strconv.ParseUint10
import Derived.Shelf.Strconv.ParseUint10Empty
import Derived.Shelf.Strconv.ParseUint10Any
import Derived.Shelf.Strconv.ParseInt10
import Derived.Shelf.Strconv.RangeError
import Derived.Shelf.Strconv.ToErrorRange
import Derived.Shelf.Strconv.ParseUintEmpty
import Derived.Shelf.Strconv.ParseUint10b64
import Derived.Shelf.Strconv.ParseUint10b32
import Derived.Shelf.Strconv.ParseUint10b16
import Derived.Shelf.Strconv.ParseUint10b8
import Derived.Shelf.Strconv.ParseUint10At
import Derived.Shelf.Strconv.ParseInt10At64
import Derived.Shelf.Strconv.ParseInt10At32
import Derived.Shelf.Strconv.ParseInt10At16
import Derived.Shelf.Strconv.ParseInt10At8
import Derived.Shelf.Strconv.ParseInt10All
import Derived.Shelf.Strconv.ParseIntPublic10
import Derived.Shelf.Strconv.ErrVarParseInt
import Derived.Shelf.Strconv.AppendUint10
import Derived.Shelf.Strconv.AppendInt10
import Derived.Shelf.Strconv.AppendIntPublic10
import Derived.Test.YtnoibjahliafpaaDoorProg
set_option linter.unusedVariables false
set_option linter.unusedSimpArgs false
namespace Go.Proofs
open Go.Shelf
def Tryd.lays129_ren:Go.Shelf.Ren:=⟨fun | 129=>87 | n=>n,fun | 53=>113 | 3=>3 | 4=>4 | 46=>134 | 5=>5 | 9=>9 | n=>n,fun | n=>n⟩
theorem Tryd.lays129:Go.Proofs.Lays.n129 Tryd.prog Tryd.lays129_ren:={
 mixed:=by kernel_rfl
 f129:=Tryd.func87.trans (congrArg some (by kernel_rfl))
 t3:=Tryd.underlying3
 a3:=Tryd.isAgg3
 z3:=Tryd.sizeOf3
 v3:=Tryd.zeroValue3
 t4:=Tryd.underlying4
 a4:=Tryd.isAgg4
 z4:=Tryd.sizeOf4
 v4:=Tryd.zeroValue4
 t5:=Tryd.underlying5
 a5:=Tryd.isAgg5
 z5:=Tryd.sizeOf5
 v5:=Tryd.zeroValue5
 t9:=Tryd.underlying9
 a9:=Tryd.isAgg9
 z9:=Tryd.sizeOf9
 v9:=Tryd.zeroValue9
 t46:=Tryd.underlying134
 a46:=Tryd.isAgg134
 z46:=Tryd.sizeOf134
 v46:=Tryd.zeroValue134
 t53:=Tryd.underlying113
 a53:=Tryd.isAgg113
 z53:=Tryd.sizeOf113
 v53:=Tryd.zeroValue113 }
theorem Tryd.bits_Len64 (x:Int) (w:World) (h0:0≤x) (h1:x≤18446744073709551615):
 Calls Tryd.prog 87 #[.int .u64 x] w fun e w'=>e= .returned (.int .i64 (Lib.bitLen x.toNat))∧w'=w:=Any.bits_Len64 Tryd.lays129 x w h0 h1
def Tryd.lays317_ren:Go.Shelf.Ren:=⟨fun | 317=>86 | n=>n,fun | 3=>3 | 46=>134 | n=>n,fun | n=>n⟩
theorem Tryd.lays317:Go.Proofs.Lays.n317 Tryd.prog Tryd.lays317_ren:={
 mixed:=by kernel_rfl
 f317:=Tryd.func86.trans (congrArg some (by kernel_rfl))
 t3:=Tryd.underlying3
 a3:=Tryd.isAgg3
 z3:=Tryd.sizeOf3
 v3:=Tryd.zeroValue3
 t46:=Tryd.underlying134
 a46:=Tryd.isAgg134
 z46:=Tryd.sizeOf134
 v46:=Tryd.zeroValue134 }
open Go.Lib in
theorem Tryd.internal_strconv_log10Pow2 (x:Nat) (h:x≤64) (w:World):
 Calls Tryd.prog 86 #[.int .i64 x] w fun e w'=>e= .returned (.int .i64 (Lib.l10 x))∧w'=w:=Any.internal_strconv_log10Pow2 Tryd.lays317 x h w
def Tryd.lays318_ren:Go.Shelf.Ren:=⟨fun | 318=>88 | n=>n,fun | 3=>3 | 4=>4 | n=>n,fun | n=>n⟩
theorem Tryd.lays318:Go.Proofs.Lays.n318 Tryd.prog Tryd.lays318_ren:={
 mixed:=by kernel_rfl
 f318:=Tryd.func88.trans (congrArg some (by kernel_rfl))
 t3:=Tryd.underlying3
 a3:=Tryd.isAgg3
 z3:=Tryd.sizeOf3
 v3:=Tryd.zeroValue3
 t4:=Tryd.underlying4
 a4:=Tryd.isAgg4
 z4:=Tryd.sizeOf4
 v4:=Tryd.zeroValue4 }
open Go.Lib in
theorem Tryd.internal_strconv_bool2_int (b:Bool) (w:World):
 Calls Tryd.prog 88 #[.bool b] w fun e w'=>e= .returned (.int .i64 (if b then 1 else 0))∧w'=w:=Any.internal_strconv_bool2_int Tryd.lays318 b w
def Tryd.lays283_ren:Go.Shelf.Ren:=⟨fun | 283=>68 | n=>n,fun | 3=>3 | 9=>9 | 4=>4 | n=>n,fun | n=>n⟩
theorem Tryd.lays283:Go.Proofs.Lays.n283 Tryd.prog Tryd.lays283_ren:={
 mixed:=by kernel_rfl
 f283:=Tryd.func68.trans (congrArg some (by kernel_rfl))
 t3:=Tryd.underlying3
 a3:=Tryd.isAgg3
 z3:=Tryd.sizeOf3
 v3:=Tryd.zeroValue3
 t4:=Tryd.underlying4
 a4:=Tryd.isAgg4
 z4:=Tryd.sizeOf4
 v4:=Tryd.zeroValue4
 t9:=Tryd.underlying9
 a9:=Tryd.isAgg9
 z9:=Tryd.sizeOf9
 v9:=Tryd.zeroValue9 }
open Go.Lib in
theorem Tryd.internal_strconv_small (i:Nat) (h:i < 100) (w:World):
 Calls Tryd.prog 68 #[.int .i64 i] w fun e w'=>e= .returned (.string ⟨(Lib.decDigits i).toArray⟩)∧w'=w:=Any.internal_strconv_small Tryd.lays283 i h w
def Tryd.laysM284_ren:Go.Shelf.Ren:=⟨fun | 284=>69 | 129=>87 | 317=>86 | 318=>88 | n=>n,fun | 53=>113 | 3=>3 | 212=>166 | 0=>0 | 4=>4 | 46=>134 | 5=>5 | 9=>9 | n=>n,fun | 17=>2 | n=>n⟩
theorem Tryd.laysM284:Go.Proofs.LaysM.n284 Tryd.prog Tryd.laysM284_ren:={
 mixed:=by kernel_rfl
 f129:=Tryd.func87.trans (congrArg some (by kernel_rfl))
 f284:=Tryd.func69.trans (congrArg some (by kernel_rfl))
 f317:=Tryd.func86.trans (congrArg some (by kernel_rfl))
 f318:=Tryd.func88.trans (congrArg some (by kernel_rfl))
 t0:=Tryd.underlying0
 a0:=Tryd.isAgg0
 z0:=Tryd.sizeOf0
 v0:=Tryd.zeroValue0
 t3:=Tryd.underlying3
 a3:=Tryd.isAgg3
 z3:=Tryd.sizeOf3
 v3:=Tryd.zeroValue3
 t4:=Tryd.underlying4
 a4:=Tryd.isAgg4
 z4:=Tryd.sizeOf4
 v4:=Tryd.zeroValue4
 t5:=Tryd.underlying5
 a5:=Tryd.isAgg5
 z5:=Tryd.sizeOf5
 v5:=Tryd.zeroValue5
 t9:=Tryd.underlying9
 a9:=Tryd.isAgg9
 z9:=Tryd.sizeOf9
 v9:=Tryd.zeroValue9
 t46:=Tryd.underlying134
 a46:=Tryd.isAgg134
 z46:=Tryd.sizeOf134
 v46:=Tryd.zeroValue134
 t53:=Tryd.underlying113
 a53:=Tryd.isAgg113
 z53:=Tryd.sizeOf113
 v53:=Tryd.zeroValue113
 t212:=Tryd.underlying166
 a212:=Tryd.isAgg166
 z212:=Tryd.sizeOf166
 v212:=Tryd.zeroValue166
 g17:=by kernel_rfl
 i0:=by kernel_rfl
 i3:=by kernel_rfl
 i4:=by kernel_rfl
 i5:=by kernel_rfl
 i9:=by kernel_rfl
 i46:=by kernel_rfl
 i53:=by kernel_rfl
 i212:=by kernel_rfl
 m17:=by kernel_rfl }
open Go.Lib in
theorem Tryd.internal_strconv_numDigits (u:Nat) (h1:1≤u) (h2:u < 18446744073709551616) (w:World) (htab:Lib.TabIs Tryd.prog w "internal/strconv.uint64pow10" .u64 Lib.pow10Tab):
 Calls Tryd.prog 69 #[.int .u64 u] w fun e w'=>e= .returned (.int .i64 (Lib.nDigits u))∧w'=w:=Any.internal_strconv_numDigits Tryd.laysM284 u h1 h2 w htab
def Tryd.lays285_ren:Go.Shelf.Ren:=⟨fun | 285=>70 | n=>n,fun | 37=>81 | 53=>113 | 3=>3 | 4=>4 | 51=>167 | 9=>9 | 5=>5 | 0=>0 | n=>n,fun | n=>n⟩
theorem Tryd.lays285:Go.Proofs.Lays.n285 Tryd.prog Tryd.lays285_ren:={
 mixed:=by kernel_rfl
 f285:=Tryd.func70.trans (congrArg some (by kernel_rfl))
 t0:=Tryd.underlying0
 a0:=Tryd.isAgg0
 z0:=Tryd.sizeOf0
 v0:=Tryd.zeroValue0
 t3:=Tryd.underlying3
 a3:=Tryd.isAgg3
 z3:=Tryd.sizeOf3
 v3:=Tryd.zeroValue3
 t4:=Tryd.underlying4
 a4:=Tryd.isAgg4
 z4:=Tryd.sizeOf4
 v4:=Tryd.zeroValue4
 t5:=Tryd.underlying5
 a5:=Tryd.isAgg5
 z5:=Tryd.sizeOf5
 v5:=Tryd.zeroValue5
 t9:=Tryd.underlying9
 a9:=Tryd.isAgg9
 z9:=Tryd.sizeOf9
 v9:=Tryd.zeroValue9
 t37:=Tryd.underlying81
 a37:=Tryd.isAgg81
 z37:=Tryd.sizeOf81
 v37:=Tryd.zeroValue81
 t51:=Tryd.underlying167
 a51:=Tryd.isAgg167
 z51:=Tryd.sizeOf167
 v51:=Tryd.zeroValue167
 t53:=Tryd.underlying113
 a53:=Tryd.isAgg113
 z53:=Tryd.sizeOf113
 v53:=Tryd.zeroValue113 }
open Go.RowKit Go.Sort Go.Lib in
theorem Tryd.internal_strconv_formatBase10 (blk off cap:Nat) (u:Nat) (d:Array UInt8) (w:World) (hH:Holds (fun (b:UInt8)=>Value.int .u8 (b.toNat:Int)) w blk off d) (hu:u < 10 ^ d.size) (hu64:u < 18446744073709551616) (hsz:d.size < 4611686018427387904):
 Calls Tryd.prog 70 #[.slice (some ⟨blk,off,none⟩) d.size cap,.int .u64 u] w fun e w'=>
  e= .returned (.tuple #[])∧∃ (n v':Nat) (dk:Array UInt8),w'= (putRow (fun (b:UInt8)=>Value.int .u8 (b.toNat:Int)) w blk off dk).drewN n∧FmtInv d.size u 0 v' dk:=Any.internal_strconv_formatBase10 Tryd.lays285 blk off cap u d w hH hu hu64 hsz
def Tryd.lays247_ren:Go.Shelf.Ren:=⟨fun | 247=>50 | 287=>63 | 321=>81 | 322=>82 | n=>n,fun | 9=>9 | 3=>3 | 2=>2 | 75=>88 | 4=>4 | 167=>131 | 5=>5 | 53=>113 | 175=>132 | 46=>134 | 37=>81 | 0=>0 | 21=>21 | 80=>180 | n=>n,fun | n=>n⟩
theorem Tryd.lays247:Go.Proofs.Lays.n247 Tryd.prog Tryd.lays247_ren:={
 mixed:=by kernel_rfl
 f247:=Tryd.func50.trans (congrArg some (by kernel_rfl))
 f287:=Tryd.func63.trans (congrArg some (by kernel_rfl))
 f321:=Tryd.func81.trans (congrArg some (by kernel_rfl))
 f322:=Tryd.func82.trans (congrArg some (by kernel_rfl))
 t0:=Tryd.underlying0
 a0:=Tryd.isAgg0
 z0:=Tryd.sizeOf0
 v0:=Tryd.zeroValue0
 t2:=Tryd.underlying2
 a2:=Tryd.isAgg2
 z2:=Tryd.sizeOf2
 v2:=Tryd.zeroValue2
 t3:=Tryd.underlying3
 a3:=Tryd.isAgg3
 z3:=Tryd.sizeOf3
 v3:=Tryd.zeroValue3
 t4:=Tryd.underlying4
 a4:=Tryd.isAgg4
 z4:=Tryd.sizeOf4
 v4:=Tryd.zeroValue4
 t5:=Tryd.underlying5
 a5:=Tryd.isAgg5
 z5:=Tryd.sizeOf5
 v5:=Tryd.zeroValue5
 t9:=Tryd.underlying9
 a9:=Tryd.isAgg9
 z9:=Tryd.sizeOf9
 v9:=Tryd.zeroValue9
 t21:=Tryd.underlying21
 a21:=Tryd.isAgg21
 z21:=Tryd.sizeOf21
 v21:=Tryd.zeroValue21
 t37:=Tryd.underlying81
 a37:=Tryd.isAgg81
 z37:=Tryd.sizeOf81
 v37:=Tryd.zeroValue81
 t46:=Tryd.underlying134
 a46:=Tryd.isAgg134
 z46:=Tryd.sizeOf134
 v46:=Tryd.zeroValue134
 t53:=Tryd.underlying113
 a53:=Tryd.isAgg113
 z53:=Tryd.sizeOf113
 v53:=Tryd.zeroValue113
 t75:=Tryd.underlying88
 a75:=Tryd.isAgg88
 z75:=Tryd.sizeOf88
 v75:=Tryd.zeroValue88
 t167:=Tryd.underlying131
 a167:=Tryd.isAgg131
 z167:=Tryd.sizeOf131
 v167:=Tryd.zeroValue131
 t175:=Tryd.underlying132
 a175:=Tryd.isAgg132
 z175:=Tryd.sizeOf132
 v175:=Tryd.zeroValue132 }
open Go.RowKit in
theorem Tryd.internal_strconv_ParseInt_empty (base bits:Int) (w:World):
 Calls Tryd.prog 50 #[.string ⟨#[]⟩,.int .i64 base,.int .i64 bits] w fun e w'=>e= .returned (.tuple #[.int .i64 0,(.iface 131 (.int .i64 2))])∧w'=w:=Any.internal_strconv_ParseInt_empty Tryd.lays247 base bits w
def Tryd.laysM316_ren:Go.Shelf.Ren:=⟨fun | 316=>83 | n=>n,fun | 9=>9 | 3=>3 | 4=>4 | 37=>81 | 0=>0 | 127=>172 | 5=>5 | n=>n,fun | n=>n⟩
theorem Tryd.laysM316:Go.Proofs.LaysM.n316 Tryd.prog Tryd.laysM316_ren:={
 mixed:=by kernel_rfl
 f316:=Tryd.func83.trans (congrArg some (by kernel_rfl))
 t0:=Tryd.underlying0
 a0:=Tryd.isAgg0
 z0:=Tryd.sizeOf0
 v0:=Tryd.zeroValue0
 t3:=Tryd.underlying3
 a3:=Tryd.isAgg3
 z3:=Tryd.sizeOf3
 v3:=Tryd.zeroValue3
 t4:=Tryd.underlying4
 a4:=Tryd.isAgg4
 z4:=Tryd.sizeOf4
 v4:=Tryd.zeroValue4
 t9:=Tryd.underlying9
 a9:=Tryd.isAgg9
 z9:=Tryd.sizeOf9
 v9:=Tryd.zeroValue9
 t37:=Tryd.underlying81
 a37:=Tryd.isAgg81
 z37:=Tryd.sizeOf81
 v37:=Tryd.zeroValue81
 t127:=Tryd.underlying172
 a127:=Tryd.isAgg172
 z127:=Tryd.sizeOf172
 v127:=Tryd.zeroValue172
 t5:=Tryd.underlying5
 a5:=Tryd.isAgg5
 z5:=Tryd.sizeOf5
 v5:=Tryd.zeroValue5
 i0:=by kernel_rfl
 i3:=by kernel_rfl
 i4:=by kernel_rfl
 i5:=by kernel_rfl
 i9:=by kernel_rfl
 i37:=by kernel_rfl
 i127:=by kernel_rfl }
open Go.RowKit in
theorem Tryd.stringslite_Clone (s:ByteArray) (w:World) (hlim:s.size≤281474976710656):
 Calls Tryd.prog 83 #[.string s] w fun e w'=>e= .returned (.string s)∧Below w.heap.size w w':=Any.stringslite_Clone Tryd.laysM316 s w hlim
def Tryd.laysM279_ren:Go.Shelf.Ren:=⟨fun | 279=>64 | 316=>83 | n=>n,fun | 9=>9 | 168=>135 | 75=>88 | 210=>163 | 3=>3 | 4=>4 | 37=>81 | 0=>0 | 127=>172 | 80=>180 | 5=>5 | n=>n,fun | 15=>0 | n=>n⟩
theorem Tryd.laysM279:Go.Proofs.LaysM.n279 Tryd.prog Tryd.laysM279_ren:={
 mixed:=by kernel_rfl
 f279:=Tryd.func64.trans (congrArg some (by kernel_rfl))
 f316:=Tryd.func83.trans (congrArg some (by kernel_rfl))
 t0:=Tryd.underlying0
 a0:=Tryd.isAgg0
 z0:=Tryd.sizeOf0
 v0:=Tryd.zeroValue0
 t3:=Tryd.underlying3
 a3:=Tryd.isAgg3
 z3:=Tryd.sizeOf3
 v3:=Tryd.zeroValue3
 t4:=Tryd.underlying4
 a4:=Tryd.isAgg4
 z4:=Tryd.sizeOf4
 v4:=Tryd.zeroValue4
 t9:=Tryd.underlying9
 a9:=Tryd.isAgg9
 z9:=Tryd.sizeOf9
 v9:=Tryd.zeroValue9
 t37:=Tryd.underlying81
 a37:=Tryd.isAgg81
 z37:=Tryd.sizeOf81
 v37:=Tryd.zeroValue81
 t75:=Tryd.underlying88
 a75:=Tryd.isAgg88
 z75:=Tryd.sizeOf88
 v75:=Tryd.zeroValue88
 t127:=Tryd.underlying172
 a127:=Tryd.isAgg172
 z127:=Tryd.sizeOf172
 v127:=Tryd.zeroValue172
 t168:=Tryd.underlying135
 a168:=Tryd.isAgg135
 z168:=Tryd.sizeOf135
 v168:=Tryd.zeroValue135
 t210:=Tryd.underlying163
 a210:=Tryd.isAgg163
 z210:=Tryd.sizeOf163
 v210:=Tryd.zeroValue163
 g15:=by kernel_rfl
 t5:=Tryd.underlying5
 a5:=Tryd.isAgg5
 z5:=Tryd.sizeOf5
 v5:=Tryd.zeroValue5
 t80:=Tryd.underlying180
 a80:=Tryd.isAgg180
 z80:=Tryd.sizeOf180
 v80:=Tryd.zeroValue180
 i0:=by kernel_rfl
 i3:=by kernel_rfl
 i4:=by kernel_rfl
 i5:=by kernel_rfl
 i9:=by kernel_rfl
 i37:=by kernel_rfl
 i75:=by kernel_rfl
 i80:=by kernel_rfl
 i127:=by kernel_rfl
 i168:=by kernel_rfl
 i210:=by kernel_rfl
 m15:=by kernel_rfl }
open Go.RowKit in
theorem Tryd.strconv_syntaxError (fn s:ByteArray) (ev:Value) (w:World) (hlim:s.size≤281474976710656) (hv:w.cell? ⟨0,0,none⟩=some ev) (hev:ev= .nilIface∨∃te pe,ev= .iface te pe):
 Calls Tryd.prog 64 #[.string fn,.string s] w fun e w'=>∃N,e= .returned (.pointer (some ⟨N,0,none⟩))∧w.heap.size≤N∧w'.heap[N]? =some (.cells #[.string fn,.string s,ev] 163 (0,0))∧Below w.heap.size w w':=Any.strconv_syntaxError Tryd.laysM279 fn s ev w hlim hv hev
def Tryd.laysC245_ren:Go.Shelf.Ren:=⟨fun | 245=>51 | 279=>64 | 280=>65 | 281=>66 | 282=>67 | 316=>83 | 171=>85 | 205=>84 | 243=>96 | 246=>99 | 283=>68 | 284=>69 | 285=>70 | 286=>71 | 129=>87 | 317=>86 | 318=>88 | 319=>89 | 320=>90 | 337=>97 | 338=>98 | n=>n,fun | 9=>9 | 3=>3 | 75=>88 | 167=>131 | 4=>4 | 168=>135 | 210=>163 | 37=>81 | 0=>0 | 127=>172 | 145=>175 | 143=>173 | 2=>2 | 171=>139 | 53=>113 | 5=>5 | 173=>142 | 212=>166 | 51=>167 | 20=>20 | 213=>168 | 46=>134 | 232=>178 | 233=>179 | 80=>180 | n=>n,fun | 15=>0 | 16=>1 | 17=>2 | 18=>3 | 19=>4 | n=>n⟩
theorem Tryd.laysC245:Go.Proofs.LaysC.n245 Tryd.prog Tryd.laysC245_ren:={
 mixed:=by kernel_rfl
 f129:=Tryd.func87.trans (congrArg some (by kernel_rfl))
 f171:=Tryd.func85.trans (congrArg some (by kernel_rfl))
 f205:=Tryd.func84.trans (congrArg some (by kernel_rfl))
 f243:=Tryd.func96.trans (congrArg some (by kernel_rfl))
 f245:=Tryd.func51.trans (congrArg some (by kernel_rfl))
 f246:=Tryd.func99.trans (congrArg some (by kernel_rfl))
 f279:=Tryd.func64.trans (congrArg some (by kernel_rfl))
 f280:=Tryd.func65.trans (congrArg some (by kernel_rfl))
 f281:=Tryd.func66.trans (congrArg some (by kernel_rfl))
 f282:=Tryd.func67.trans (congrArg some (by kernel_rfl))
 f283:=Tryd.func68.trans (congrArg some (by kernel_rfl))
 f284:=Tryd.func69.trans (congrArg some (by kernel_rfl))
 f285:=Tryd.func70.trans (congrArg some (by kernel_rfl))
 f286:=Tryd.func71.trans (congrArg some (by kernel_rfl))
 f316:=Tryd.func83.trans (congrArg some (by kernel_rfl))
 f317:=Tryd.func86.trans (congrArg some (by kernel_rfl))
 f318:=Tryd.func88.trans (congrArg some (by kernel_rfl))
 f319:=Tryd.func89.trans (congrArg some (by kernel_rfl))
 f320:=Tryd.func90.trans (congrArg some (by kernel_rfl))
 f337:=Tryd.func97.trans (congrArg some (by kernel_rfl))
 f338:=Tryd.func98.trans (congrArg some (by kernel_rfl))
 t0:=Tryd.underlying0
 a0:=Tryd.isAgg0
 z0:=Tryd.sizeOf0
 v0:=Tryd.zeroValue0
 t2:=Tryd.underlying2
 a2:=Tryd.isAgg2
 z2:=Tryd.sizeOf2
 v2:=Tryd.zeroValue2
 t3:=Tryd.underlying3
 a3:=Tryd.isAgg3
 z3:=Tryd.sizeOf3
 v3:=Tryd.zeroValue3
 t4:=Tryd.underlying4
 a4:=Tryd.isAgg4
 z4:=Tryd.sizeOf4
 v4:=Tryd.zeroValue4
 t5:=Tryd.underlying5
 a5:=Tryd.isAgg5
 z5:=Tryd.sizeOf5
 v5:=Tryd.zeroValue5
 t9:=Tryd.underlying9
 a9:=Tryd.isAgg9
 z9:=Tryd.sizeOf9
 v9:=Tryd.zeroValue9
 t20:=Tryd.underlying20
 a20:=Tryd.isAgg20
 z20:=Tryd.sizeOf20
 v20:=Tryd.zeroValue20
 t37:=Tryd.underlying81
 a37:=Tryd.isAgg81
 z37:=Tryd.sizeOf81
 v37:=Tryd.zeroValue81
 t46:=Tryd.underlying134
 a46:=Tryd.isAgg134
 z46:=Tryd.sizeOf134
 v46:=Tryd.zeroValue134
 t51:=Tryd.underlying167
 a51:=Tryd.isAgg167
 z51:=Tryd.sizeOf167
 v51:=Tryd.zeroValue167
 t53:=Tryd.underlying113
 a53:=Tryd.isAgg113
 z53:=Tryd.sizeOf113
 v53:=Tryd.zeroValue113
 t75:=Tryd.underlying88
 a75:=Tryd.isAgg88
 z75:=Tryd.sizeOf88
 v75:=Tryd.zeroValue88
 t127:=Tryd.underlying172
 a127:=Tryd.isAgg172
 z127:=Tryd.sizeOf172
 v127:=Tryd.zeroValue172
 t143:=Tryd.underlying173
 a143:=Tryd.isAgg173
 z143:=Tryd.sizeOf173
 v143:=Tryd.zeroValue173
 t145:=Tryd.underlying175
 a145:=Tryd.isAgg175
 z145:=Tryd.sizeOf175
 v145:=Tryd.zeroValue175
 t167:=Tryd.underlying131
 a167:=Tryd.isAgg131
 z167:=Tryd.sizeOf131
 v167:=Tryd.zeroValue131
 t168:=Tryd.underlying135
 a168:=Tryd.isAgg135
 z168:=Tryd.sizeOf135
 v168:=Tryd.zeroValue135
 t171:=Tryd.underlying139
 a171:=Tryd.isAgg139
 z171:=Tryd.sizeOf139
 v171:=Tryd.zeroValue139
 t173:=Tryd.underlying142
 a173:=Tryd.isAgg142
 z173:=Tryd.sizeOf142
 v173:=Tryd.zeroValue142
 t210:=Tryd.underlying163
 a210:=Tryd.isAgg163
 z210:=Tryd.sizeOf163
 v210:=Tryd.zeroValue163
 t212:=Tryd.underlying166
 a212:=Tryd.isAgg166
 z212:=Tryd.sizeOf166
 v212:=Tryd.zeroValue166
 t213:=Tryd.underlying168
 a213:=Tryd.isAgg168
 z213:=Tryd.sizeOf168
 t232:=Tryd.underlying178
 a232:=Tryd.isAgg178
 z232:=Tryd.sizeOf178
 v232:=Tryd.zeroValue178
 t233:=Tryd.underlying179
 a233:=Tryd.isAgg179
 z233:=Tryd.sizeOf179
 v233:=Tryd.zeroValue179
 g15:=by kernel_rfl
 g16:=by kernel_rfl
 g17:=by kernel_rfl
 g18:=by kernel_rfl
 g19:=by kernel_rfl
 t80:=Tryd.underlying180
 a80:=Tryd.isAgg180
 z80:=Tryd.sizeOf180
 v80:=Tryd.zeroValue180
 i0:=by kernel_rfl
 i2:=by kernel_rfl
 i3:=by kernel_rfl
 i4:=by kernel_rfl
 i5:=by kernel_rfl
 i9:=by kernel_rfl
 i20:=by kernel_rfl
 i37:=by kernel_rfl
 i46:=by kernel_rfl
 i51:=by kernel_rfl
 i53:=by kernel_rfl
 i75:=by kernel_rfl
 i80:=by kernel_rfl
 i127:=by kernel_rfl
 i143:=by kernel_rfl
 i145:=by kernel_rfl
 i167:=by kernel_rfl
 i168:=by kernel_rfl
 i171:=by kernel_rfl
 i173:=by kernel_rfl
 i210:=by kernel_rfl
 i212:=by kernel_rfl
 i232:=by kernel_rfl
 i233:=by kernel_rfl
 m15:=by kernel_rfl
 m16:=by kernel_rfl
 m17:=by kernel_rfl
 m18:=by kernel_rfl
 m19:=by kernel_rfl
 c0:=by kernel_rfl
 c2:=by kernel_rfl
 c3:=by kernel_rfl
 c4:=by kernel_rfl
 c5:=by kernel_rfl
 c9:=by kernel_rfl
 c20:=by kernel_rfl
 c37:=by kernel_rfl
 c46:=by kernel_rfl
 c51:=by kernel_rfl
 c53:=by kernel_rfl
 c75:=by kernel_rfl
 c80:=by kernel_rfl
 c127:=by kernel_rfl
 c143:=by kernel_rfl
 c145:=by kernel_rfl
 c167:=by kernel_rfl
 c168:=by kernel_rfl
 c171:=by kernel_rfl
 c173:=by kernel_rfl
 c210:=by kernel_rfl
 c212:=by kernel_rfl
 c213:=by kernel_rfl
 c232:=by kernel_rfl
 c233:=by kernel_rfl }
open Go.RowKit in
theorem Tryd.strconv_toError_syntax (fn s:ByteArray) (base bits:Int) (ev:Value) (w:World) (hlim:s.size≤281474976710656) (hv:w.cell? ⟨0,0,none⟩=some ev) (hev:ev= .nilIface∨∃te pe,ev= .iface te pe):
 Calls Tryd.prog 51 #[.string fn,.string s,.int .i64 base,.int .i64 bits,.iface 131 (.int .i64 2)] w fun e w'=>∃N,e= .returned (.iface 135 (.pointer (some ⟨N,0,none⟩)))∧w.heap.size≤N∧w'.heap[N]? =some (.cells #[.string fn,.string s,ev] 163 (0,0))∧Below w.heap.size w w':=Any.strconv_toError_syntax Tryd.laysC245 fn s base bits ev w hlim hv hev
def Tryd.lays321_ren:Go.Shelf.Ren:=⟨fun | 321=>81 | n=>n,fun | 5=>5 | n=>n,fun | n=>n⟩
theorem Tryd.lays321:Go.Proofs.Lays.n321 Tryd.prog Tryd.lays321_ren:={
 mixed:=by kernel_rfl
 f321:=Tryd.func81.trans (congrArg some (by kernel_rfl))
 t5:=Tryd.underlying5
 a5:=Tryd.isAgg5
 z5:=Tryd.sizeOf5
 v5:=Tryd.zeroValue5 }
open Go.RowKit in
theorem Tryd.internal_strconv_lower (c:Int) (w:World):
 Calls Tryd.prog 81 #[.int .u8 c] w fun e w'=>e= .returned (.int .u8 (bits .or .u8 c 32))∧w'=w:=Any.internal_strconv_lower Tryd.lays321 c w
def Tryd.lays287_ren:Go.Shelf.Ren:=⟨fun | 287=>63 | 321=>81 | 322=>82 | n=>n,fun | 9=>9 | 3=>3 | 53=>113 | 75=>88 | 4=>4 | 167=>131 | 5=>5 | 46=>134 | 37=>81 | 0=>0 | 21=>21 | 80=>180 | n=>n,fun | n=>n⟩
theorem Tryd.lays287:Go.Proofs.Lays.n287 Tryd.prog Tryd.lays287_ren:={
 mixed:=by kernel_rfl
 f287:=Tryd.func63.trans (congrArg some (by kernel_rfl))
 f321:=Tryd.func81.trans (congrArg some (by kernel_rfl))
 f322:=Tryd.func82.trans (congrArg some (by kernel_rfl))
 t0:=Tryd.underlying0
 a0:=Tryd.isAgg0
 z0:=Tryd.sizeOf0
 v0:=Tryd.zeroValue0
 t3:=Tryd.underlying3
 a3:=Tryd.isAgg3
 z3:=Tryd.sizeOf3
 v3:=Tryd.zeroValue3
 t4:=Tryd.underlying4
 a4:=Tryd.isAgg4
 z4:=Tryd.sizeOf4
 v4:=Tryd.zeroValue4
 t5:=Tryd.underlying5
 a5:=Tryd.isAgg5
 z5:=Tryd.sizeOf5
 v5:=Tryd.zeroValue5
 t9:=Tryd.underlying9
 a9:=Tryd.isAgg9
 z9:=Tryd.sizeOf9
 v9:=Tryd.zeroValue9
 t21:=Tryd.underlying21
 a21:=Tryd.isAgg21
 z21:=Tryd.sizeOf21
 v21:=Tryd.zeroValue21
 t37:=Tryd.underlying81
 a37:=Tryd.isAgg81
 z37:=Tryd.sizeOf81
 v37:=Tryd.zeroValue81
 t46:=Tryd.underlying134
 a46:=Tryd.isAgg134
 z46:=Tryd.sizeOf134
 v46:=Tryd.zeroValue134
 t53:=Tryd.underlying113
 a53:=Tryd.isAgg113
 z53:=Tryd.sizeOf113
 v53:=Tryd.zeroValue113
 t75:=Tryd.underlying88
 a75:=Tryd.isAgg88
 z75:=Tryd.sizeOf88
 v75:=Tryd.zeroValue88
 t167:=Tryd.underlying131
 a167:=Tryd.isAgg131
 z167:=Tryd.sizeOf131
 v167:=Tryd.zeroValue131 }
open Go.RowKit in
theorem Tryd.internal_strconv_ParseUint_10 (t:ByteArray) (hne:t.size≠0) (hmax:t.size≤9223372036854775806) (w:World):
 Calls Tryd.prog 63 #[.string t,.int .i64 10,.int .i64 0] w fun e w'=>e= .returned (Lib.uintTuple 131 (Lib.parseUint10 0 t.data.toList))∧w'=Lib.bytesWorld w 5 t:=Any.internal_strconv_ParseUint_10 Tryd.lays287 t hne hmax w
open Go.RowKit in
theorem Tryd.internal_strconv_ParseUint_10_empty (w:World):
 Calls Tryd.prog 63 #[.string ⟨#[]⟩,.int .i64 10,.int .i64 0] w fun e w'=>e= .returned (Lib.uintTuple 131 .syntax)∧w'=w:=Any.internal_strconv_ParseUint_10_empty Tryd.lays287 w
open Go.RowKit in
theorem Tryd.internal_strconv_ParseUint_10_any (t:ByteArray) (hmax:t.size≤9223372036854775806) (w:World):
 Calls Tryd.prog 63 #[.string t,.int .i64 10,.int .i64 0] w fun e w'=>e= .returned (Lib.uintTuple 131 (Lib.parseMag t.data.toList))∧ (w'=w∨w'=Lib.bytesWorld w 5 t):=Any.internal_strconv_ParseUint_10_any Tryd.lays287 t hmax w
def Tryd.laysC247_ren:Go.Shelf.Ren:=⟨fun | 247=>50 | 287=>63 | 321=>81 | 322=>82 | n=>n,fun | 9=>9 | 3=>3 | 2=>2 | 75=>88 | 4=>4 | 167=>131 | 5=>5 | 53=>113 | 175=>132 | 46=>134 | 37=>81 | 0=>0 | 21=>21 | 80=>180 | n=>n,fun | n=>n⟩
theorem Tryd.laysC247:Go.Proofs.LaysC.n247 Tryd.prog Tryd.laysC247_ren:={
 mixed:=by kernel_rfl
 f247:=Tryd.func50.trans (congrArg some (by kernel_rfl))
 f287:=Tryd.func63.trans (congrArg some (by kernel_rfl))
 f321:=Tryd.func81.trans (congrArg some (by kernel_rfl))
 f322:=Tryd.func82.trans (congrArg some (by kernel_rfl))
 t0:=Tryd.underlying0
 a0:=Tryd.isAgg0
 z0:=Tryd.sizeOf0
 v0:=Tryd.zeroValue0
 t2:=Tryd.underlying2
 a2:=Tryd.isAgg2
 z2:=Tryd.sizeOf2
 v2:=Tryd.zeroValue2
 t3:=Tryd.underlying3
 a3:=Tryd.isAgg3
 z3:=Tryd.sizeOf3
 v3:=Tryd.zeroValue3
 t4:=Tryd.underlying4
 a4:=Tryd.isAgg4
 z4:=Tryd.sizeOf4
 v4:=Tryd.zeroValue4
 t5:=Tryd.underlying5
 a5:=Tryd.isAgg5
 z5:=Tryd.sizeOf5
 v5:=Tryd.zeroValue5
 t9:=Tryd.underlying9
 a9:=Tryd.isAgg9
 z9:=Tryd.sizeOf9
 v9:=Tryd.zeroValue9
 t21:=Tryd.underlying21
 a21:=Tryd.isAgg21
 z21:=Tryd.sizeOf21
 v21:=Tryd.zeroValue21
 t37:=Tryd.underlying81
 a37:=Tryd.isAgg81
 z37:=Tryd.sizeOf81
 v37:=Tryd.zeroValue81
 t46:=Tryd.underlying134
 a46:=Tryd.isAgg134
 z46:=Tryd.sizeOf134
 v46:=Tryd.zeroValue134
 t53:=Tryd.underlying113
 a53:=Tryd.isAgg113
 z53:=Tryd.sizeOf113
 v53:=Tryd.zeroValue113
 t75:=Tryd.underlying88
 a75:=Tryd.isAgg88
 z75:=Tryd.sizeOf88
 v75:=Tryd.zeroValue88
 t167:=Tryd.underlying131
 a167:=Tryd.isAgg131
 z167:=Tryd.sizeOf131
 v167:=Tryd.zeroValue131
 t175:=Tryd.underlying132
 a175:=Tryd.isAgg132
 z175:=Tryd.sizeOf132
 v175:=Tryd.zeroValue132
 t80:=Tryd.underlying180
 a80:=Tryd.isAgg180
 z80:=Tryd.sizeOf180
 v80:=Tryd.zeroValue180
 i0:=by kernel_rfl
 i2:=by kernel_rfl
 i3:=by kernel_rfl
 i4:=by kernel_rfl
 i5:=by kernel_rfl
 i9:=by kernel_rfl
 i21:=by kernel_rfl
 i37:=by kernel_rfl
 i46:=by kernel_rfl
 i53:=by kernel_rfl
 i75:=by kernel_rfl
 i80:=by kernel_rfl
 i167:=by kernel_rfl
 i175:=by kernel_rfl
 c0:=by kernel_rfl
 c2:=by kernel_rfl
 c3:=by kernel_rfl
 c4:=by kernel_rfl
 c5:=by kernel_rfl
 c9:=by kernel_rfl
 c21:=by kernel_rfl
 c37:=by kernel_rfl
 c46:=by kernel_rfl
 c53:=by kernel_rfl
 c75:=by kernel_rfl
 c80:=by kernel_rfl
 c167:=by kernel_rfl
 c175:=by kernel_rfl }
open Go.RowKit in
theorem Tryd.internal_strconv_ParseInt_10 (s:ByteArray) (hne:s.size≠0) (hmax:s.size≤9223372036854775806) (w:World):
 Calls Tryd.prog 50 #[.string s,.int .i64 10,.int .i64 0] w fun e w'=>e= .returned (Lib.intTuple 131 (Lib.atoiSat s.data.toList) (Lib.atoiAll s.data.toList))∧ (w'=w∨∃t,w'=Lib.bytesWorld w 5 t):=Any.internal_strconv_ParseInt_10 Tryd.laysC247 s hne hmax w
def Tryd.laysM280_ren:Go.Shelf.Ren:=⟨fun | 280=>65 | 316=>83 | n=>n,fun | 9=>9 | 168=>135 | 75=>88 | 210=>163 | 3=>3 | 4=>4 | 37=>81 | 0=>0 | 127=>172 | 80=>180 | 5=>5 | n=>n,fun | 16=>1 | n=>n⟩
theorem Tryd.laysM280:Go.Proofs.LaysM.n280 Tryd.prog Tryd.laysM280_ren:={
 mixed:=by kernel_rfl
 f280:=Tryd.func65.trans (congrArg some (by kernel_rfl))
 f316:=Tryd.func83.trans (congrArg some (by kernel_rfl))
 t0:=Tryd.underlying0
 a0:=Tryd.isAgg0
 z0:=Tryd.sizeOf0
 v0:=Tryd.zeroValue0
 t3:=Tryd.underlying3
 a3:=Tryd.isAgg3
 z3:=Tryd.sizeOf3
 v3:=Tryd.zeroValue3
 t4:=Tryd.underlying4
 a4:=Tryd.isAgg4
 z4:=Tryd.sizeOf4
 v4:=Tryd.zeroValue4
 t9:=Tryd.underlying9
 a9:=Tryd.isAgg9
 z9:=Tryd.sizeOf9
 v9:=Tryd.zeroValue9
 t37:=Tryd.underlying81
 a37:=Tryd.isAgg81
 z37:=Tryd.sizeOf81
 v37:=Tryd.zeroValue81
 t75:=Tryd.underlying88
 a75:=Tryd.isAgg88
 z75:=Tryd.sizeOf88
 v75:=Tryd.zeroValue88
 t127:=Tryd.underlying172
 a127:=Tryd.isAgg172
 z127:=Tryd.sizeOf172
 v127:=Tryd.zeroValue172
 t168:=Tryd.underlying135
 a168:=Tryd.isAgg135
 z168:=Tryd.sizeOf135
 v168:=Tryd.zeroValue135
 t210:=Tryd.underlying163
 a210:=Tryd.isAgg163
 z210:=Tryd.sizeOf163
 v210:=Tryd.zeroValue163
 g16:=by kernel_rfl
 t5:=Tryd.underlying5
 a5:=Tryd.isAgg5
 z5:=Tryd.sizeOf5
 v5:=Tryd.zeroValue5
 t80:=Tryd.underlying180
 a80:=Tryd.isAgg180
 z80:=Tryd.sizeOf180
 v80:=Tryd.zeroValue180
 i0:=by kernel_rfl
 i3:=by kernel_rfl
 i4:=by kernel_rfl
 i5:=by kernel_rfl
 i9:=by kernel_rfl
 i37:=by kernel_rfl
 i75:=by kernel_rfl
 i80:=by kernel_rfl
 i127:=by kernel_rfl
 i168:=by kernel_rfl
 i210:=by kernel_rfl
 m16:=by kernel_rfl }
open Go.RowKit in
theorem Tryd.strconv_rangeError (fn s:ByteArray) (ev:Value) (w:World) (hlim:s.size≤281474976710656) (hv:w.cell? ⟨1,0,none⟩=some ev) (hev:ev= .nilIface∨∃te pe,ev= .iface te pe):
 Calls Tryd.prog 65 #[.string fn,.string s] w fun e w'=>∃N,e= .returned (.pointer (some ⟨N,0,none⟩))∧w.heap.size≤N∧w'.heap[N]? =some (.cells #[.string fn,.string s,ev] 163 (0,0))∧Below w.heap.size w w':=Any.strconv_rangeError Tryd.laysM280 fn s ev w hlim hv hev
open Go.RowKit in
theorem Tryd.strconv_toError_range (fn s:ByteArray) (base bits:Int) (ev:Value) (w:World) (hlim:s.size≤281474976710656) (hv:w.cell? ⟨1,0,none⟩=some ev) (hev:ev= .nilIface∨∃te pe,ev= .iface te pe):
 Calls Tryd.prog 51 #[.string fn,.string s,.int .i64 base,.int .i64 bits,.iface 131 (.int .i64 1)] w fun e w'=>∃N,e= .returned (.iface 135 (.pointer (some ⟨N,0,none⟩)))∧w.heap.size≤N∧w'.heap[N]? =some (.cells #[.string fn,.string s,ev] 163 (0,0))∧Below w.heap.size w w':=Any.strconv_toError_range Tryd.laysC245 fn s base bits ev w hlim hv hev
open Go.RowKit in
theorem Tryd.internal_strconv_ParseUint_empty (base bits:Int) (w:World):
 Calls Tryd.prog 63 #[.string ⟨#[]⟩,.int .i64 base,.int .i64 bits] w fun e w'=>e= .returned (.tuple #[.int .u64 0,.iface 131 (.int .i64 2)])∧w'=w:=Any.internal_strconv_ParseUint_empty Tryd.lays287 base bits w
open Go.RowKit in
theorem Tryd.internal_strconv_ParseUint_10_b64 (t:ByteArray) (hne:t.size≠0) (hmax:t.size≤9223372036854775806) (w:World):
 Calls Tryd.prog 63 #[.string t,.int .i64 10,.int .i64 64] w fun e w'=>e= .returned (Lib.uintTuple 131 (Lib.parseUint10 0 t.data.toList))∧w'=Lib.bytesWorld w 5 t:=Any.internal_strconv_ParseUint_10_b64 Tryd.lays287 t hne hmax w
open Go.RowKit in
theorem Tryd.internal_strconv_ParseUint_10_b32 (t:ByteArray) (hne:t.size≠0) (hmax:t.size≤9223372036854775806) (w:World):
 Calls Tryd.prog 63 #[.string t,.int .i64 10,.int .i64 32] w fun e w'=>e= .returned (Lib.uintTupleM 131 4294967295 (Lib.parseUintM 4294967295 0 t.data.toList))∧w'=Lib.bytesWorld w 5 t:=Any.internal_strconv_ParseUint_10_b32 Tryd.lays287 t hne hmax w
open Go.RowKit in
theorem Tryd.internal_strconv_ParseUint_10_b16 (t:ByteArray) (hne:t.size≠0) (hmax:t.size≤9223372036854775806) (w:World):
 Calls Tryd.prog 63 #[.string t,.int .i64 10,.int .i64 16] w fun e w'=>e= .returned (Lib.uintTupleM 131 65535 (Lib.parseUintM 65535 0 t.data.toList))∧w'=Lib.bytesWorld w 5 t:=Any.internal_strconv_ParseUint_10_b16 Tryd.lays287 t hne hmax w
open Go.RowKit in
theorem Tryd.internal_strconv_ParseUint_10_b8 (t:ByteArray) (hne:t.size≠0) (hmax:t.size≤9223372036854775806) (w:World):
 Calls Tryd.prog 63 #[.string t,.int .i64 10,.int .i64 8] w fun e w'=>e= .returned (Lib.uintTupleM 131 255 (Lib.parseUintM 255 0 t.data.toList))∧w'=Lib.bytesWorld w 5 t:=Any.internal_strconv_ParseUint_10_b8 Tryd.lays287 t hne hmax w
open Go.RowKit in
theorem Tryd.internal_strconv_ParseUint_10_at0 (t:ByteArray) (hmax:t.size≤9223372036854775806) (w:World):
 Calls Tryd.prog 63 #[.string t,.int .i64 10,.int .i64 0] w fun e w'=>e= .returned (Lib.uintTupleM 131 18446744073709551615 (Lib.parseUintB 64 t.data.toList))∧ (w'=w∨w'=Lib.bytesWorld w 5 t):=Any.internal_strconv_ParseUint_10_at0 Tryd.lays287 t hmax w
open Go.RowKit in
theorem Tryd.internal_strconv_ParseUint_10_at64 (t:ByteArray) (hmax:t.size≤9223372036854775806) (w:World):
 Calls Tryd.prog 63 #[.string t,.int .i64 10,.int .i64 64] w fun e w'=>e= .returned (Lib.uintTupleM 131 18446744073709551615 (Lib.parseUintB 64 t.data.toList))∧ (w'=w∨w'=Lib.bytesWorld w 5 t):=Any.internal_strconv_ParseUint_10_at64 Tryd.lays287 t hmax w
open Go.RowKit in
theorem Tryd.internal_strconv_ParseUint_10_at32 (t:ByteArray) (hmax:t.size≤9223372036854775806) (w:World):
 Calls Tryd.prog 63 #[.string t,.int .i64 10,.int .i64 32] w fun e w'=>e= .returned (Lib.uintTupleM 131 4294967295 (Lib.parseUintB 32 t.data.toList))∧ (w'=w∨w'=Lib.bytesWorld w 5 t):=Any.internal_strconv_ParseUint_10_at32 Tryd.lays287 t hmax w
open Go.RowKit in
theorem Tryd.internal_strconv_ParseUint_10_at16 (t:ByteArray) (hmax:t.size≤9223372036854775806) (w:World):
 Calls Tryd.prog 63 #[.string t,.int .i64 10,.int .i64 16] w fun e w'=>e= .returned (Lib.uintTupleM 131 65535 (Lib.parseUintB 16 t.data.toList))∧ (w'=w∨w'=Lib.bytesWorld w 5 t):=Any.internal_strconv_ParseUint_10_at16 Tryd.lays287 t hmax w
open Go.RowKit in
theorem Tryd.internal_strconv_ParseUint_10_at8 (t:ByteArray) (hmax:t.size≤9223372036854775806) (w:World):
 Calls Tryd.prog 63 #[.string t,.int .i64 10,.int .i64 8] w fun e w'=>e= .returned (Lib.uintTupleM 131 255 (Lib.parseUintB 8 t.data.toList))∧ (w'=w∨w'=Lib.bytesWorld w 5 t):=Any.internal_strconv_ParseUint_10_at8 Tryd.lays287 t hmax w
open Go.RowKit in
theorem Tryd.internal_strconv_ParseInt_10_at64 (s:ByteArray) (hne:s.size≠0) (hmax:s.size≤9223372036854775806) (w:World):
 Calls Tryd.prog 50 #[.string s,.int .i64 10,.int .i64 64] w fun e w'=>e= .returned (Lib.intTuple 131 (Lib.intSat 64 s.data.toList) (Lib.parseIntB 64 s.data.toList))∧ (w'=w∨∃t,w'=Lib.bytesWorld w 5 t):=Any.internal_strconv_ParseInt_10_at64 Tryd.laysC247 s hne hmax w
open Go.RowKit in
theorem Tryd.internal_strconv_ParseInt_10_at32 (s:ByteArray) (hne:s.size≠0) (hmax:s.size≤9223372036854775806) (w:World):
 Calls Tryd.prog 50 #[.string s,.int .i64 10,.int .i64 32] w fun e w'=>e= .returned (Lib.intTuple 131 (Lib.intSat 32 s.data.toList) (Lib.parseIntB 32 s.data.toList))∧ (w'=w∨∃t,w'=Lib.bytesWorld w 5 t):=Any.internal_strconv_ParseInt_10_at32 Tryd.laysC247 s hne hmax w
open Go.RowKit in
theorem Tryd.internal_strconv_ParseInt_10_at16 (s:ByteArray) (hne:s.size≠0) (hmax:s.size≤9223372036854775806) (w:World):
 Calls Tryd.prog 50 #[.string s,.int .i64 10,.int .i64 16] w fun e w'=>e= .returned (Lib.intTuple 131 (Lib.intSat 16 s.data.toList) (Lib.parseIntB 16 s.data.toList))∧ (w'=w∨∃t,w'=Lib.bytesWorld w 5 t):=Any.internal_strconv_ParseInt_10_at16 Tryd.laysC247 s hne hmax w
open Go.RowKit in
theorem Tryd.internal_strconv_ParseInt_10_at8 (s:ByteArray) (hne:s.size≠0) (hmax:s.size≤9223372036854775806) (w:World):
 Calls Tryd.prog 50 #[.string s,.int .i64 10,.int .i64 8] w fun e w'=>e= .returned (Lib.intTuple 131 (Lib.intSat 8 s.data.toList) (Lib.parseIntB 8 s.data.toList))∧ (w'=w∨∃t,w'=Lib.bytesWorld w 5 t):=Any.internal_strconv_ParseInt_10_at8 Tryd.laysC247 s hne hmax w
open Go.RowKit in
theorem Tryd.internal_strconv_ParseInt_10_all0 (s:ByteArray) (hmax:s.size≤9223372036854775806) (w:World):
 Calls Tryd.prog 50 #[.string s,.int .i64 10,.int .i64 0] w fun e w'=>e= .returned (Lib.intTuple 131 (Lib.intSat 64 s.data.toList) (Lib.parseIntB 64 s.data.toList))∧ (w'=w∨∃t,w'=Lib.bytesWorld w 5 t):=Any.internal_strconv_ParseInt_10_all0 Tryd.laysC247 s hmax w
open Go.RowKit in
theorem Tryd.internal_strconv_ParseInt_10_all64 (s:ByteArray) (hmax:s.size≤9223372036854775806) (w:World):
 Calls Tryd.prog 50 #[.string s,.int .i64 10,.int .i64 64] w fun e w'=>e= .returned (Lib.intTuple 131 (Lib.intSat 64 s.data.toList) (Lib.parseIntB 64 s.data.toList))∧ (w'=w∨∃t,w'=Lib.bytesWorld w 5 t):=Any.internal_strconv_ParseInt_10_all64 Tryd.laysC247 s hmax w
open Go.RowKit in
theorem Tryd.internal_strconv_ParseInt_10_all32 (s:ByteArray) (hmax:s.size≤9223372036854775806) (w:World):
 Calls Tryd.prog 50 #[.string s,.int .i64 10,.int .i64 32] w fun e w'=>e= .returned (Lib.intTuple 131 (Lib.intSat 32 s.data.toList) (Lib.parseIntB 32 s.data.toList))∧ (w'=w∨∃t,w'=Lib.bytesWorld w 5 t):=Any.internal_strconv_ParseInt_10_all32 Tryd.laysC247 s hmax w
open Go.RowKit in
theorem Tryd.internal_strconv_ParseInt_10_all16 (s:ByteArray) (hmax:s.size≤9223372036854775806) (w:World):
 Calls Tryd.prog 50 #[.string s,.int .i64 10,.int .i64 16] w fun e w'=>e= .returned (Lib.intTuple 131 (Lib.intSat 16 s.data.toList) (Lib.parseIntB 16 s.data.toList))∧ (w'=w∨∃t,w'=Lib.bytesWorld w 5 t):=Any.internal_strconv_ParseInt_10_all16 Tryd.laysC247 s hmax w
open Go.RowKit in
theorem Tryd.internal_strconv_ParseInt_10_all8 (s:ByteArray) (hmax:s.size≤9223372036854775806) (w:World):
 Calls Tryd.prog 50 #[.string s,.int .i64 10,.int .i64 8] w fun e w'=>e= .returned (Lib.intTuple 131 (Lib.intSat 8 s.data.toList) (Lib.parseIntB 8 s.data.toList))∧ (w'=w∨∃t,w'=Lib.bytesWorld w 5 t):=Any.internal_strconv_ParseInt_10_all8 Tryd.laysC247 s hmax w
def Tryd.laysC174_ren:Go.Shelf.Ren:=⟨fun | 174=>33 | 247=>50 | 245=>51 | 287=>63 | 279=>64 | 280=>65 | 281=>66 | 282=>67 | 321=>81 | 322=>82 | 316=>83 | 171=>85 | 205=>84 | 243=>96 | 246=>99 | 283=>68 | 284=>69 | 285=>70 | 286=>71 | 129=>87 | 317=>86 | 318=>88 | 319=>89 | 320=>90 | 337=>97 | 338=>98 | n=>n,fun | 9=>9 | 3=>3 | 2=>2 | 75=>88 | 85=>89 | 4=>4 | 167=>131 | 5=>5 | 53=>113 | 175=>132 | 46=>134 | 168=>135 | 37=>81 | 0=>0 | 210=>163 | 21=>21 | 127=>172 | 145=>175 | 143=>173 | 171=>139 | 173=>142 | 212=>166 | 51=>167 | 20=>20 | 213=>168 | 232=>178 | 233=>179 | 80=>180 | n=>n,fun | 15=>0 | 16=>1 | 17=>2 | 18=>3 | 19=>4 | n=>n⟩
theorem Tryd.laysC174:Go.Proofs.LaysC.n174 Tryd.prog Tryd.laysC174_ren:={
 mixed:=by kernel_rfl
 f129:=Tryd.func87.trans (congrArg some (by kernel_rfl))
 f171:=Tryd.func85.trans (congrArg some (by kernel_rfl))
 f174:=Tryd.func33.trans (congrArg some (by kernel_rfl))
 f205:=Tryd.func84.trans (congrArg some (by kernel_rfl))
 f243:=Tryd.func96.trans (congrArg some (by kernel_rfl))
 f245:=Tryd.func51.trans (congrArg some (by kernel_rfl))
 f246:=Tryd.func99.trans (congrArg some (by kernel_rfl))
 f247:=Tryd.func50.trans (congrArg some (by kernel_rfl))
 f279:=Tryd.func64.trans (congrArg some (by kernel_rfl))
 f280:=Tryd.func65.trans (congrArg some (by kernel_rfl))
 f281:=Tryd.func66.trans (congrArg some (by kernel_rfl))
 f282:=Tryd.func67.trans (congrArg some (by kernel_rfl))
 f283:=Tryd.func68.trans (congrArg some (by kernel_rfl))
 f284:=Tryd.func69.trans (congrArg some (by kernel_rfl))
 f285:=Tryd.func70.trans (congrArg some (by kernel_rfl))
 f286:=Tryd.func71.trans (congrArg some (by kernel_rfl))
 f287:=Tryd.func63.trans (congrArg some (by kernel_rfl))
 f316:=Tryd.func83.trans (congrArg some (by kernel_rfl))
 f317:=Tryd.func86.trans (congrArg some (by kernel_rfl))
 f318:=Tryd.func88.trans (congrArg some (by kernel_rfl))
 f319:=Tryd.func89.trans (congrArg some (by kernel_rfl))
 f320:=Tryd.func90.trans (congrArg some (by kernel_rfl))
 f321:=Tryd.func81.trans (congrArg some (by kernel_rfl))
 f322:=Tryd.func82.trans (congrArg some (by kernel_rfl))
 f337:=Tryd.func97.trans (congrArg some (by kernel_rfl))
 f338:=Tryd.func98.trans (congrArg some (by kernel_rfl))
 t0:=Tryd.underlying0
 a0:=Tryd.isAgg0
 z0:=Tryd.sizeOf0
 v0:=Tryd.zeroValue0
 t2:=Tryd.underlying2
 a2:=Tryd.isAgg2
 z2:=Tryd.sizeOf2
 v2:=Tryd.zeroValue2
 t3:=Tryd.underlying3
 a3:=Tryd.isAgg3
 z3:=Tryd.sizeOf3
 v3:=Tryd.zeroValue3
 t4:=Tryd.underlying4
 a4:=Tryd.isAgg4
 z4:=Tryd.sizeOf4
 v4:=Tryd.zeroValue4
 t5:=Tryd.underlying5
 a5:=Tryd.isAgg5
 z5:=Tryd.sizeOf5
 v5:=Tryd.zeroValue5
 t9:=Tryd.underlying9
 a9:=Tryd.isAgg9
 z9:=Tryd.sizeOf9
 v9:=Tryd.zeroValue9
 t20:=Tryd.underlying20
 a20:=Tryd.isAgg20
 z20:=Tryd.sizeOf20
 v20:=Tryd.zeroValue20
 t21:=Tryd.underlying21
 a21:=Tryd.isAgg21
 z21:=Tryd.sizeOf21
 v21:=Tryd.zeroValue21
 t37:=Tryd.underlying81
 a37:=Tryd.isAgg81
 z37:=Tryd.sizeOf81
 v37:=Tryd.zeroValue81
 t46:=Tryd.underlying134
 a46:=Tryd.isAgg134
 z46:=Tryd.sizeOf134
 v46:=Tryd.zeroValue134
 t51:=Tryd.underlying167
 a51:=Tryd.isAgg167
 z51:=Tryd.sizeOf167
 v51:=Tryd.zeroValue167
 t53:=Tryd.underlying113
 a53:=Tryd.isAgg113
 z53:=Tryd.sizeOf113
 v53:=Tryd.zeroValue113
 t75:=Tryd.underlying88
 a75:=Tryd.isAgg88
 z75:=Tryd.sizeOf88
 v75:=Tryd.zeroValue88
 t85:=Tryd.underlying89
 a85:=Tryd.isAgg89
 z85:=Tryd.sizeOf89
 v85:=Tryd.zeroValue89
 t127:=Tryd.underlying172
 a127:=Tryd.isAgg172
 z127:=Tryd.sizeOf172
 v127:=Tryd.zeroValue172
 t143:=Tryd.underlying173
 a143:=Tryd.isAgg173
 z143:=Tryd.sizeOf173
 v143:=Tryd.zeroValue173
 t145:=Tryd.underlying175
 a145:=Tryd.isAgg175
 z145:=Tryd.sizeOf175
 v145:=Tryd.zeroValue175
 t167:=Tryd.underlying131
 a167:=Tryd.isAgg131
 z167:=Tryd.sizeOf131
 v167:=Tryd.zeroValue131
 t168:=Tryd.underlying135
 a168:=Tryd.isAgg135
 z168:=Tryd.sizeOf135
 v168:=Tryd.zeroValue135
 t171:=Tryd.underlying139
 a171:=Tryd.isAgg139
 z171:=Tryd.sizeOf139
 v171:=Tryd.zeroValue139
 t173:=Tryd.underlying142
 a173:=Tryd.isAgg142
 z173:=Tryd.sizeOf142
 v173:=Tryd.zeroValue142
 t175:=Tryd.underlying132
 a175:=Tryd.isAgg132
 z175:=Tryd.sizeOf132
 v175:=Tryd.zeroValue132
 t210:=Tryd.underlying163
 a210:=Tryd.isAgg163
 z210:=Tryd.sizeOf163
 v210:=Tryd.zeroValue163
 t212:=Tryd.underlying166
 a212:=Tryd.isAgg166
 z212:=Tryd.sizeOf166
 v212:=Tryd.zeroValue166
 t213:=Tryd.underlying168
 a213:=Tryd.isAgg168
 z213:=Tryd.sizeOf168
 t232:=Tryd.underlying178
 a232:=Tryd.isAgg178
 z232:=Tryd.sizeOf178
 v232:=Tryd.zeroValue178
 t233:=Tryd.underlying179
 a233:=Tryd.isAgg179
 z233:=Tryd.sizeOf179
 v233:=Tryd.zeroValue179
 g15:=by kernel_rfl
 g16:=by kernel_rfl
 g17:=by kernel_rfl
 g18:=by kernel_rfl
 g19:=by kernel_rfl
 t80:=Tryd.underlying180
 a80:=Tryd.isAgg180
 z80:=Tryd.sizeOf180
 v80:=Tryd.zeroValue180
 i0:=by kernel_rfl
 i2:=by kernel_rfl
 i3:=by kernel_rfl
 i4:=by kernel_rfl
 i5:=by kernel_rfl
 i9:=by kernel_rfl
 i20:=by kernel_rfl
 i21:=by kernel_rfl
 i37:=by kernel_rfl
 i46:=by kernel_rfl
 i51:=by kernel_rfl
 i53:=by kernel_rfl
 i75:=by kernel_rfl
 i80:=by kernel_rfl
 i85:=by kernel_rfl
 i127:=by kernel_rfl
 i143:=by kernel_rfl
 i145:=by kernel_rfl
 i167:=by kernel_rfl
 i168:=by kernel_rfl
 i171:=by kernel_rfl
 i173:=by kernel_rfl
 i175:=by kernel_rfl
 i210:=by kernel_rfl
 i212:=by kernel_rfl
 i232:=by kernel_rfl
 i233:=by kernel_rfl
 m15:=by kernel_rfl
 m16:=by kernel_rfl
 m17:=by kernel_rfl
 m18:=by kernel_rfl
 m19:=by kernel_rfl
 c0:=by kernel_rfl
 c2:=by kernel_rfl
 c3:=by kernel_rfl
 c4:=by kernel_rfl
 c5:=by kernel_rfl
 c9:=by kernel_rfl
 c20:=by kernel_rfl
 c21:=by kernel_rfl
 c37:=by kernel_rfl
 c46:=by kernel_rfl
 c51:=by kernel_rfl
 c53:=by kernel_rfl
 c75:=by kernel_rfl
 c80:=by kernel_rfl
 c85:=by kernel_rfl
 c127:=by kernel_rfl
 c143:=by kernel_rfl
 c145:=by kernel_rfl
 c167:=by kernel_rfl
 c168:=by kernel_rfl
 c171:=by kernel_rfl
 c173:=by kernel_rfl
 c175:=by kernel_rfl
 c210:=by kernel_rfl
 c212:=by kernel_rfl
 c213:=by kernel_rfl
 c232:=by kernel_rfl
 c233:=by kernel_rfl }
open Go.RowKit in
theorem Tryd.strconv_ParseInt_10_at0_ok (s:ByteArray) (hmax:s.size≤9223372036854775806) (v:Int) (h:Lib.parseIntB 64 s.data.toList= .ok v) (w:World):
 Calls Tryd.prog 33 #[.string s,.int .i64 10,.int .i64 0] w fun e w'=>e= .returned (.tuple #[.int .i64 v,.nilIface])∧ (w'=w∨∃t,w'=Lib.bytesWorld w 5 t):=Any.strconv_ParseInt_10_at0_ok Tryd.laysC174 s hmax v h w
open Go.RowKit in
theorem Tryd.strconv_ParseInt_10_at0_syntax (s:ByteArray) (hlim:s.size≤281474976710656) (h:Lib.parseIntB 64 s.data.toList= .syntax) (ev:Value) (w:World) (hv:w.cell? ⟨0,0,none⟩=some ev) (hev:ev= .nilIface∨∃te pe,ev= .iface te pe):
 Calls Tryd.prog 33 #[.string s,.int .i64 10,.int .i64 0] w fun e w'=>∃N,e= .returned (.tuple #[.int .i64 (0),.iface 135 (.pointer (some ⟨N,0,none⟩))])∧w.heap.size≤N∧w'.heap[N]? =some (.cells #[.string ⟨#[80,97,114,115,101,73,110,116]⟩,.string s,ev] 163 (0,0))∧Below w.heap.size w w':=Any.strconv_ParseInt_10_at0_syntax Tryd.laysC174 s hlim h ev w hv hev
open Go.RowKit in
theorem Tryd.strconv_ParseInt_10_at0_range (s:ByteArray) (hlim:s.size≤281474976710656) (h:Lib.parseIntB 64 s.data.toList= .range) (ev:Value) (w:World) (hv:w.cell? ⟨1,0,none⟩=some ev) (hev:ev= .nilIface∨∃te pe,ev= .iface te pe):
 Calls Tryd.prog 33 #[.string s,.int .i64 10,.int .i64 0] w fun e w'=>∃N,e= .returned (.tuple #[.int .i64 (Lib.intSat 64 s.data.toList),.iface 135 (.pointer (some ⟨N,0,none⟩))])∧w.heap.size≤N∧w'.heap[N]? =some (.cells #[.string ⟨#[80,97,114,115,101,73,110,116]⟩,.string s,ev] 163 (0,0))∧Below w.heap.size w w':=Any.strconv_ParseInt_10_at0_range Tryd.laysC174 s hlim h ev w hv hev
open Go.RowKit in
theorem Tryd.strconv_ParseInt_10_at64_ok (s:ByteArray) (hmax:s.size≤9223372036854775806) (v:Int) (h:Lib.parseIntB 64 s.data.toList= .ok v) (w:World):
 Calls Tryd.prog 33 #[.string s,.int .i64 10,.int .i64 64] w fun e w'=>e= .returned (.tuple #[.int .i64 v,.nilIface])∧ (w'=w∨∃t,w'=Lib.bytesWorld w 5 t):=Any.strconv_ParseInt_10_at64_ok Tryd.laysC174 s hmax v h w
open Go.RowKit in
theorem Tryd.strconv_ParseInt_10_at64_syntax (s:ByteArray) (hlim:s.size≤281474976710656) (h:Lib.parseIntB 64 s.data.toList= .syntax) (ev:Value) (w:World) (hv:w.cell? ⟨0,0,none⟩=some ev) (hev:ev= .nilIface∨∃te pe,ev= .iface te pe):
 Calls Tryd.prog 33 #[.string s,.int .i64 10,.int .i64 64] w fun e w'=>∃N,e= .returned (.tuple #[.int .i64 (0),.iface 135 (.pointer (some ⟨N,0,none⟩))])∧w.heap.size≤N∧w'.heap[N]? =some (.cells #[.string ⟨#[80,97,114,115,101,73,110,116]⟩,.string s,ev] 163 (0,0))∧Below w.heap.size w w':=Any.strconv_ParseInt_10_at64_syntax Tryd.laysC174 s hlim h ev w hv hev
open Go.RowKit in
theorem Tryd.strconv_ParseInt_10_at64_range (s:ByteArray) (hlim:s.size≤281474976710656) (h:Lib.parseIntB 64 s.data.toList= .range) (ev:Value) (w:World) (hv:w.cell? ⟨1,0,none⟩=some ev) (hev:ev= .nilIface∨∃te pe,ev= .iface te pe):
 Calls Tryd.prog 33 #[.string s,.int .i64 10,.int .i64 64] w fun e w'=>∃N,e= .returned (.tuple #[.int .i64 (Lib.intSat 64 s.data.toList),.iface 135 (.pointer (some ⟨N,0,none⟩))])∧w.heap.size≤N∧w'.heap[N]? =some (.cells #[.string ⟨#[80,97,114,115,101,73,110,116]⟩,.string s,ev] 163 (0,0))∧Below w.heap.size w w':=Any.strconv_ParseInt_10_at64_range Tryd.laysC174 s hlim h ev w hv hev
open Go.RowKit in
theorem Tryd.strconv_ParseInt_10_at32_ok (s:ByteArray) (hmax:s.size≤9223372036854775806) (v:Int) (h:Lib.parseIntB 32 s.data.toList= .ok v) (w:World):
 Calls Tryd.prog 33 #[.string s,.int .i64 10,.int .i64 32] w fun e w'=>e= .returned (.tuple #[.int .i64 v,.nilIface])∧ (w'=w∨∃t,w'=Lib.bytesWorld w 5 t):=Any.strconv_ParseInt_10_at32_ok Tryd.laysC174 s hmax v h w
open Go.RowKit in
theorem Tryd.strconv_ParseInt_10_at32_syntax (s:ByteArray) (hlim:s.size≤281474976710656) (h:Lib.parseIntB 32 s.data.toList= .syntax) (ev:Value) (w:World) (hv:w.cell? ⟨0,0,none⟩=some ev) (hev:ev= .nilIface∨∃te pe,ev= .iface te pe):
 Calls Tryd.prog 33 #[.string s,.int .i64 10,.int .i64 32] w fun e w'=>∃N,e= .returned (.tuple #[.int .i64 (0),.iface 135 (.pointer (some ⟨N,0,none⟩))])∧w.heap.size≤N∧w'.heap[N]? =some (.cells #[.string ⟨#[80,97,114,115,101,73,110,116]⟩,.string s,ev] 163 (0,0))∧Below w.heap.size w w':=Any.strconv_ParseInt_10_at32_syntax Tryd.laysC174 s hlim h ev w hv hev
open Go.RowKit in
theorem Tryd.strconv_ParseInt_10_at32_range (s:ByteArray) (hlim:s.size≤281474976710656) (h:Lib.parseIntB 32 s.data.toList= .range) (ev:Value) (w:World) (hv:w.cell? ⟨1,0,none⟩=some ev) (hev:ev= .nilIface∨∃te pe,ev= .iface te pe):
 Calls Tryd.prog 33 #[.string s,.int .i64 10,.int .i64 32] w fun e w'=>∃N,e= .returned (.tuple #[.int .i64 (Lib.intSat 32 s.data.toList),.iface 135 (.pointer (some ⟨N,0,none⟩))])∧w.heap.size≤N∧w'.heap[N]? =some (.cells #[.string ⟨#[80,97,114,115,101,73,110,116]⟩,.string s,ev] 163 (0,0))∧Below w.heap.size w w':=Any.strconv_ParseInt_10_at32_range Tryd.laysC174 s hlim h ev w hv hev
open Go.RowKit in
theorem Tryd.strconv_ParseInt_10_at16_ok (s:ByteArray) (hmax:s.size≤9223372036854775806) (v:Int) (h:Lib.parseIntB 16 s.data.toList= .ok v) (w:World):
 Calls Tryd.prog 33 #[.string s,.int .i64 10,.int .i64 16] w fun e w'=>e= .returned (.tuple #[.int .i64 v,.nilIface])∧ (w'=w∨∃t,w'=Lib.bytesWorld w 5 t):=Any.strconv_ParseInt_10_at16_ok Tryd.laysC174 s hmax v h w
open Go.RowKit in
theorem Tryd.strconv_ParseInt_10_at16_syntax (s:ByteArray) (hlim:s.size≤281474976710656) (h:Lib.parseIntB 16 s.data.toList= .syntax) (ev:Value) (w:World) (hv:w.cell? ⟨0,0,none⟩=some ev) (hev:ev= .nilIface∨∃te pe,ev= .iface te pe):
 Calls Tryd.prog 33 #[.string s,.int .i64 10,.int .i64 16] w fun e w'=>∃N,e= .returned (.tuple #[.int .i64 (0),.iface 135 (.pointer (some ⟨N,0,none⟩))])∧w.heap.size≤N∧w'.heap[N]? =some (.cells #[.string ⟨#[80,97,114,115,101,73,110,116]⟩,.string s,ev] 163 (0,0))∧Below w.heap.size w w':=Any.strconv_ParseInt_10_at16_syntax Tryd.laysC174 s hlim h ev w hv hev
open Go.RowKit in
theorem Tryd.strconv_ParseInt_10_at16_range (s:ByteArray) (hlim:s.size≤281474976710656) (h:Lib.parseIntB 16 s.data.toList= .range) (ev:Value) (w:World) (hv:w.cell? ⟨1,0,none⟩=some ev) (hev:ev= .nilIface∨∃te pe,ev= .iface te pe):
 Calls Tryd.prog 33 #[.string s,.int .i64 10,.int .i64 16] w fun e w'=>∃N,e= .returned (.tuple #[.int .i64 (Lib.intSat 16 s.data.toList),.iface 135 (.pointer (some ⟨N,0,none⟩))])∧w.heap.size≤N∧w'.heap[N]? =some (.cells #[.string ⟨#[80,97,114,115,101,73,110,116]⟩,.string s,ev] 163 (0,0))∧Below w.heap.size w w':=Any.strconv_ParseInt_10_at16_range Tryd.laysC174 s hlim h ev w hv hev
open Go.RowKit in
theorem Tryd.strconv_ParseInt_10_at8_ok (s:ByteArray) (hmax:s.size≤9223372036854775806) (v:Int) (h:Lib.parseIntB 8 s.data.toList= .ok v) (w:World):
 Calls Tryd.prog 33 #[.string s,.int .i64 10,.int .i64 8] w fun e w'=>e= .returned (.tuple #[.int .i64 v,.nilIface])∧ (w'=w∨∃t,w'=Lib.bytesWorld w 5 t):=Any.strconv_ParseInt_10_at8_ok Tryd.laysC174 s hmax v h w
open Go.RowKit in
theorem Tryd.strconv_ParseInt_10_at8_syntax (s:ByteArray) (hlim:s.size≤281474976710656) (h:Lib.parseIntB 8 s.data.toList= .syntax) (ev:Value) (w:World) (hv:w.cell? ⟨0,0,none⟩=some ev) (hev:ev= .nilIface∨∃te pe,ev= .iface te pe):
 Calls Tryd.prog 33 #[.string s,.int .i64 10,.int .i64 8] w fun e w'=>∃N,e= .returned (.tuple #[.int .i64 (0),.iface 135 (.pointer (some ⟨N,0,none⟩))])∧w.heap.size≤N∧w'.heap[N]? =some (.cells #[.string ⟨#[80,97,114,115,101,73,110,116]⟩,.string s,ev] 163 (0,0))∧Below w.heap.size w w':=Any.strconv_ParseInt_10_at8_syntax Tryd.laysC174 s hlim h ev w hv hev
open Go.RowKit in
theorem Tryd.strconv_ParseInt_10_at8_range (s:ByteArray) (hlim:s.size≤281474976710656) (h:Lib.parseIntB 8 s.data.toList= .range) (ev:Value) (w:World) (hv:w.cell? ⟨1,0,none⟩=some ev) (hev:ev= .nilIface∨∃te pe,ev= .iface te pe):
 Calls Tryd.prog 33 #[.string s,.int .i64 10,.int .i64 8] w fun e w'=>∃N,e= .returned (.tuple #[.int .i64 (Lib.intSat 8 s.data.toList),.iface 135 (.pointer (some ⟨N,0,none⟩))])∧w.heap.size≤N∧w'.heap[N]? =some (.cells #[.string ⟨#[80,97,114,115,101,73,110,116]⟩,.string s,ev] 163 (0,0))∧Below w.heap.size w w':=Any.strconv_ParseInt_10_at8_range Tryd.laysC174 s hlim h ev w hv hev
open Go.RowKit in
theorem Tryd.strconv_ParseInt_10_at0_syntax_var (s:ByteArray) (hlim:s.size≤281474976710656) (h:Lib.parseIntB 64 s.data.toList= .syntax) (tp:TypeId) (p:Value) (w:World) (hvar:w.var? Tryd.prog "strconv.ErrSyntax"=some #[.iface tp p]):
 Calls Tryd.prog 33 #[.string s,.int .i64 10,.int .i64 0] w fun e w'=>∃N,e= .returned (.tuple #[.int .i64 (0),.iface 135 (.pointer (some ⟨N,0,none⟩))])∧w.heap.size≤N∧w'.heap[N]? =some (.cells #[.string ⟨#[80,97,114,115,101,73,110,116]⟩,.string s,.iface tp p] 163 (0,0))∧Below w.heap.size w w':=Any.strconv_ParseInt_10_at0_syntax_var Tryd.laysC174 s hlim h tp p w hvar
open Go.RowKit in
theorem Tryd.strconv_ParseInt_10_at0_range_var (s:ByteArray) (hlim:s.size≤281474976710656) (h:Lib.parseIntB 64 s.data.toList= .range) (tp:TypeId) (p:Value) (w:World) (hvar:w.var? Tryd.prog "strconv.ErrRange"=some #[.iface tp p]):
 Calls Tryd.prog 33 #[.string s,.int .i64 10,.int .i64 0] w fun e w'=>∃N,e= .returned (.tuple #[.int .i64 (Lib.intSat 64 s.data.toList),.iface 135 (.pointer (some ⟨N,0,none⟩))])∧w.heap.size≤N∧w'.heap[N]? =some (.cells #[.string ⟨#[80,97,114,115,101,73,110,116]⟩,.string s,.iface tp p] 163 (0,0))∧Below w.heap.size w w':=Any.strconv_ParseInt_10_at0_range_var Tryd.laysC174 s hlim h tp p w hvar
open Go.RowKit in
theorem Tryd.strconv_ParseInt_10_at64_syntax_var (s:ByteArray) (hlim:s.size≤281474976710656) (h:Lib.parseIntB 64 s.data.toList= .syntax) (tp:TypeId) (p:Value) (w:World) (hvar:w.var? Tryd.prog "strconv.ErrSyntax"=some #[.iface tp p]):
 Calls Tryd.prog 33 #[.string s,.int .i64 10,.int .i64 64] w fun e w'=>∃N,e= .returned (.tuple #[.int .i64 (0),.iface 135 (.pointer (some ⟨N,0,none⟩))])∧w.heap.size≤N∧w'.heap[N]? =some (.cells #[.string ⟨#[80,97,114,115,101,73,110,116]⟩,.string s,.iface tp p] 163 (0,0))∧Below w.heap.size w w':=Any.strconv_ParseInt_10_at64_syntax_var Tryd.laysC174 s hlim h tp p w hvar
open Go.RowKit in
theorem Tryd.strconv_ParseInt_10_at64_range_var (s:ByteArray) (hlim:s.size≤281474976710656) (h:Lib.parseIntB 64 s.data.toList= .range) (tp:TypeId) (p:Value) (w:World) (hvar:w.var? Tryd.prog "strconv.ErrRange"=some #[.iface tp p]):
 Calls Tryd.prog 33 #[.string s,.int .i64 10,.int .i64 64] w fun e w'=>∃N,e= .returned (.tuple #[.int .i64 (Lib.intSat 64 s.data.toList),.iface 135 (.pointer (some ⟨N,0,none⟩))])∧w.heap.size≤N∧w'.heap[N]? =some (.cells #[.string ⟨#[80,97,114,115,101,73,110,116]⟩,.string s,.iface tp p] 163 (0,0))∧Below w.heap.size w w':=Any.strconv_ParseInt_10_at64_range_var Tryd.laysC174 s hlim h tp p w hvar
open Go.RowKit in
theorem Tryd.strconv_ParseInt_10_at32_syntax_var (s:ByteArray) (hlim:s.size≤281474976710656) (h:Lib.parseIntB 32 s.data.toList= .syntax) (tp:TypeId) (p:Value) (w:World) (hvar:w.var? Tryd.prog "strconv.ErrSyntax"=some #[.iface tp p]):
 Calls Tryd.prog 33 #[.string s,.int .i64 10,.int .i64 32] w fun e w'=>∃N,e= .returned (.tuple #[.int .i64 (0),.iface 135 (.pointer (some ⟨N,0,none⟩))])∧w.heap.size≤N∧w'.heap[N]? =some (.cells #[.string ⟨#[80,97,114,115,101,73,110,116]⟩,.string s,.iface tp p] 163 (0,0))∧Below w.heap.size w w':=Any.strconv_ParseInt_10_at32_syntax_var Tryd.laysC174 s hlim h tp p w hvar
open Go.RowKit in
theorem Tryd.strconv_ParseInt_10_at32_range_var (s:ByteArray) (hlim:s.size≤281474976710656) (h:Lib.parseIntB 32 s.data.toList= .range) (tp:TypeId) (p:Value) (w:World) (hvar:w.var? Tryd.prog "strconv.ErrRange"=some #[.iface tp p]):
 Calls Tryd.prog 33 #[.string s,.int .i64 10,.int .i64 32] w fun e w'=>∃N,e= .returned (.tuple #[.int .i64 (Lib.intSat 32 s.data.toList),.iface 135 (.pointer (some ⟨N,0,none⟩))])∧w.heap.size≤N∧w'.heap[N]? =some (.cells #[.string ⟨#[80,97,114,115,101,73,110,116]⟩,.string s,.iface tp p] 163 (0,0))∧Below w.heap.size w w':=Any.strconv_ParseInt_10_at32_range_var Tryd.laysC174 s hlim h tp p w hvar
open Go.RowKit in
theorem Tryd.strconv_ParseInt_10_at16_syntax_var (s:ByteArray) (hlim:s.size≤281474976710656) (h:Lib.parseIntB 16 s.data.toList= .syntax) (tp:TypeId) (p:Value) (w:World) (hvar:w.var? Tryd.prog "strconv.ErrSyntax"=some #[.iface tp p]):
 Calls Tryd.prog 33 #[.string s,.int .i64 10,.int .i64 16] w fun e w'=>∃N,e= .returned (.tuple #[.int .i64 (0),.iface 135 (.pointer (some ⟨N,0,none⟩))])∧w.heap.size≤N∧w'.heap[N]? =some (.cells #[.string ⟨#[80,97,114,115,101,73,110,116]⟩,.string s,.iface tp p] 163 (0,0))∧Below w.heap.size w w':=Any.strconv_ParseInt_10_at16_syntax_var Tryd.laysC174 s hlim h tp p w hvar
open Go.RowKit in
theorem Tryd.strconv_ParseInt_10_at16_range_var (s:ByteArray) (hlim:s.size≤281474976710656) (h:Lib.parseIntB 16 s.data.toList= .range) (tp:TypeId) (p:Value) (w:World) (hvar:w.var? Tryd.prog "strconv.ErrRange"=some #[.iface tp p]):
 Calls Tryd.prog 33 #[.string s,.int .i64 10,.int .i64 16] w fun e w'=>∃N,e= .returned (.tuple #[.int .i64 (Lib.intSat 16 s.data.toList),.iface 135 (.pointer (some ⟨N,0,none⟩))])∧w.heap.size≤N∧w'.heap[N]? =some (.cells #[.string ⟨#[80,97,114,115,101,73,110,116]⟩,.string s,.iface tp p] 163 (0,0))∧Below w.heap.size w w':=Any.strconv_ParseInt_10_at16_range_var Tryd.laysC174 s hlim h tp p w hvar
open Go.RowKit in
theorem Tryd.strconv_ParseInt_10_at8_syntax_var (s:ByteArray) (hlim:s.size≤281474976710656) (h:Lib.parseIntB 8 s.data.toList= .syntax) (tp:TypeId) (p:Value) (w:World) (hvar:w.var? Tryd.prog "strconv.ErrSyntax"=some #[.iface tp p]):
 Calls Tryd.prog 33 #[.string s,.int .i64 10,.int .i64 8] w fun e w'=>∃N,e= .returned (.tuple #[.int .i64 (0),.iface 135 (.pointer (some ⟨N,0,none⟩))])∧w.heap.size≤N∧w'.heap[N]? =some (.cells #[.string ⟨#[80,97,114,115,101,73,110,116]⟩,.string s,.iface tp p] 163 (0,0))∧Below w.heap.size w w':=Any.strconv_ParseInt_10_at8_syntax_var Tryd.laysC174 s hlim h tp p w hvar
open Go.RowKit in
theorem Tryd.strconv_ParseInt_10_at8_range_var (s:ByteArray) (hlim:s.size≤281474976710656) (h:Lib.parseIntB 8 s.data.toList= .range) (tp:TypeId) (p:Value) (w:World) (hvar:w.var? Tryd.prog "strconv.ErrRange"=some #[.iface tp p]):
 Calls Tryd.prog 33 #[.string s,.int .i64 10,.int .i64 8] w fun e w'=>∃N,e= .returned (.tuple #[.int .i64 (Lib.intSat 8 s.data.toList),.iface 135 (.pointer (some ⟨N,0,none⟩))])∧w.heap.size≤N∧w'.heap[N]? =some (.cells #[.string ⟨#[80,97,114,115,101,73,110,116]⟩,.string s,.iface tp p] 163 (0,0))∧Below w.heap.size w w':=Any.strconv_ParseInt_10_at8_range_var Tryd.laysC174 s hlim h tp p w hvar
def Tryd.laysM288_ren:Go.Shelf.Ren:=⟨fun | 288=>53 | 283=>68 | 284=>69 | 285=>70 | 286=>71 | 129=>87 | 317=>86 | 318=>88 | 319=>89 | 320=>90 | 337=>97 | 338=>98 | n=>n,fun | 37=>81 | 53=>113 | 3=>3 | 4=>4 | 9=>9 | 171=>139 | 0=>0 | 173=>142 | 212=>166 | 51=>167 | 5=>5 | 20=>20 | 213=>168 | 46=>134 | 232=>178 | 233=>179 | n=>n,fun | 17=>2 | 18=>3 | 19=>4 | n=>n⟩
theorem Tryd.laysM288:Go.Proofs.LaysM.n288 Tryd.prog Tryd.laysM288_ren:={
 mixed:=by kernel_rfl
 f129:=Tryd.func87.trans (congrArg some (by kernel_rfl))
 f283:=Tryd.func68.trans (congrArg some (by kernel_rfl))
 f284:=Tryd.func69.trans (congrArg some (by kernel_rfl))
 f285:=Tryd.func70.trans (congrArg some (by kernel_rfl))
 f286:=Tryd.func71.trans (congrArg some (by kernel_rfl))
 f288:=Tryd.func53.trans (congrArg some (by kernel_rfl))
 f317:=Tryd.func86.trans (congrArg some (by kernel_rfl))
 f318:=Tryd.func88.trans (congrArg some (by kernel_rfl))
 f319:=Tryd.func89.trans (congrArg some (by kernel_rfl))
 f320:=Tryd.func90.trans (congrArg some (by kernel_rfl))
 f337:=Tryd.func97.trans (congrArg some (by kernel_rfl))
 f338:=Tryd.func98.trans (congrArg some (by kernel_rfl))
 t0:=Tryd.underlying0
 a0:=Tryd.isAgg0
 z0:=Tryd.sizeOf0
 v0:=Tryd.zeroValue0
 t3:=Tryd.underlying3
 a3:=Tryd.isAgg3
 z3:=Tryd.sizeOf3
 v3:=Tryd.zeroValue3
 t4:=Tryd.underlying4
 a4:=Tryd.isAgg4
 z4:=Tryd.sizeOf4
 v4:=Tryd.zeroValue4
 t5:=Tryd.underlying5
 a5:=Tryd.isAgg5
 z5:=Tryd.sizeOf5
 v5:=Tryd.zeroValue5
 t9:=Tryd.underlying9
 a9:=Tryd.isAgg9
 z9:=Tryd.sizeOf9
 v9:=Tryd.zeroValue9
 t20:=Tryd.underlying20
 a20:=Tryd.isAgg20
 z20:=Tryd.sizeOf20
 v20:=Tryd.zeroValue20
 t37:=Tryd.underlying81
 a37:=Tryd.isAgg81
 z37:=Tryd.sizeOf81
 v37:=Tryd.zeroValue81
 t46:=Tryd.underlying134
 a46:=Tryd.isAgg134
 z46:=Tryd.sizeOf134
 v46:=Tryd.zeroValue134
 t51:=Tryd.underlying167
 a51:=Tryd.isAgg167
 z51:=Tryd.sizeOf167
 v51:=Tryd.zeroValue167
 t53:=Tryd.underlying113
 a53:=Tryd.isAgg113
 z53:=Tryd.sizeOf113
 v53:=Tryd.zeroValue113
 t171:=Tryd.underlying139
 a171:=Tryd.isAgg139
 z171:=Tryd.sizeOf139
 v171:=Tryd.zeroValue139
 t173:=Tryd.underlying142
 a173:=Tryd.isAgg142
 z173:=Tryd.sizeOf142
 v173:=Tryd.zeroValue142
 t212:=Tryd.underlying166
 a212:=Tryd.isAgg166
 z212:=Tryd.sizeOf166
 v212:=Tryd.zeroValue166
 t213:=Tryd.underlying168
 a213:=Tryd.isAgg168
 z213:=Tryd.sizeOf168
 t232:=Tryd.underlying178
 a232:=Tryd.isAgg178
 z232:=Tryd.sizeOf178
 v232:=Tryd.zeroValue178
 t233:=Tryd.underlying179
 a233:=Tryd.isAgg179
 z233:=Tryd.sizeOf179
 v233:=Tryd.zeroValue179
 g17:=by kernel_rfl
 g18:=by kernel_rfl
 g19:=by kernel_rfl
 i0:=by kernel_rfl
 i3:=by kernel_rfl
 i4:=by kernel_rfl
 i5:=by kernel_rfl
 i9:=by kernel_rfl
 i20:=by kernel_rfl
 i37:=by kernel_rfl
 i46:=by kernel_rfl
 i51:=by kernel_rfl
 i53:=by kernel_rfl
 i171:=by kernel_rfl
 i173:=by kernel_rfl
 i212:=by kernel_rfl
 i232:=by kernel_rfl
 i233:=by kernel_rfl
 m17:=by kernel_rfl
 m18:=by kernel_rfl
 m19:=by kernel_rfl }
open Go.RowKit Go.Sort Go.Lib in
theorem Tryd.internal_strconv_AppendUint_10_small (B n u:Nat) (hu:u < 100) (sv:Value) (xs:List Value) (w:World) (hown:w.ownsRow B 5 1 sv n xs) (hBw:B≤w.heap.size) (hlim:n+20≤140737488355328):
 Calls Tryd.prog 53 #[sv,.int .u64 u,.int .i64 10] w fun e w'=>∃v',e= .returned v'∧w'.ownsRow B 5 1 v' (n+ (Lib.decDigits u).length) (xs ++ Lib.byteCells (Lib.decDigits u))∧Below B w w'∧Lib.OthersKept 5 none w w':=Any.internal_strconv_AppendUint_10_small Tryd.laysM288 B n u hu sv xs w hown hBw hlim
open Go.RowKit Go.Sort Go.Lib in
theorem Tryd.internal_strconv_AppendUint_10_big (B n u:Nat) (hu:100≤u) (hu64:u < 18446744073709551616) (sv:Value) (xs:List Value) (w:World) (hown:w.ownsRow B 5 1 sv n xs) (hBw:B≤w.heap.size) (hlim:n+20≤140737488355328) (htab:Lib.TabIs Tryd.prog w "internal/strconv.uint64pow10" .u64 Lib.pow10Tab):
 Calls Tryd.prog 53 #[sv,.int .u64 u,.int .i64 10] w fun e w'=>∃v',e= .returned v'∧w'.ownsRow B 5 1 v' (n+ (Lib.decDigits u).length) (xs ++ Lib.byteCells (Lib.decDigits u))∧Below B w w'∧Lib.OthersKept 5 none w w':=Any.internal_strconv_AppendUint_10_big Tryd.laysM288 B n u hu hu64 sv xs w hown hBw hlim htab
open Go.RowKit Go.Sort Go.Lib in
theorem Tryd.internal_strconv_AppendUint_10 (B n u:Nat) (hu64:u < 18446744073709551616) (sv:Value) (xs:List Value) (w:World) (hown:w.ownsRow B 5 1 sv n xs) (hBw:B≤w.heap.size) (hlim:n+20≤140737488355328) (htab:Lib.TabIs Tryd.prog w "internal/strconv.uint64pow10" .u64 Lib.pow10Tab):
 Calls Tryd.prog 53 #[sv,.int .u64 u,.int .i64 10] w fun e w'=>∃v',e= .returned v'∧w'.ownsRow B 5 1 v' (n+ (Lib.decDigits u).length) (xs ++ Lib.byteCells (Lib.decDigits u))∧Below B w w'∧Lib.OthersKept 5 none w w':=Any.internal_strconv_AppendUint_10 Tryd.laysM288 B n u hu64 sv xs w hown hBw hlim htab
def Tryd.laysM249_ren:Go.Shelf.Ren:=⟨fun | 249=>43 | 288=>53 | 283=>68 | 284=>69 | 285=>70 | 286=>71 | 129=>87 | 317=>86 | 318=>88 | 319=>89 | 320=>90 | 337=>97 | 338=>98 | n=>n,fun | 37=>81 | 2=>2 | 3=>3 | 53=>113 | 4=>4 | 9=>9 | 171=>139 | 0=>0 | 173=>142 | 212=>166 | 51=>167 | 5=>5 | 20=>20 | 213=>168 | 46=>134 | 232=>178 | 233=>179 | n=>n,fun | 17=>2 | 18=>3 | 19=>4 | n=>n⟩
theorem Tryd.laysM249:Go.Proofs.LaysM.n249 Tryd.prog Tryd.laysM249_ren:={
 mixed:=by kernel_rfl
 f129:=Tryd.func87.trans (congrArg some (by kernel_rfl))
 f249:=Tryd.func43.trans (congrArg some (by kernel_rfl))
 f283:=Tryd.func68.trans (congrArg some (by kernel_rfl))
 f284:=Tryd.func69.trans (congrArg some (by kernel_rfl))
 f285:=Tryd.func70.trans (congrArg some (by kernel_rfl))
 f286:=Tryd.func71.trans (congrArg some (by kernel_rfl))
 f288:=Tryd.func53.trans (congrArg some (by kernel_rfl))
 f317:=Tryd.func86.trans (congrArg some (by kernel_rfl))
 f318:=Tryd.func88.trans (congrArg some (by kernel_rfl))
 f319:=Tryd.func89.trans (congrArg some (by kernel_rfl))
 f320:=Tryd.func90.trans (congrArg some (by kernel_rfl))
 f337:=Tryd.func97.trans (congrArg some (by kernel_rfl))
 f338:=Tryd.func98.trans (congrArg some (by kernel_rfl))
 t0:=Tryd.underlying0
 a0:=Tryd.isAgg0
 z0:=Tryd.sizeOf0
 v0:=Tryd.zeroValue0
 t2:=Tryd.underlying2
 a2:=Tryd.isAgg2
 z2:=Tryd.sizeOf2
 v2:=Tryd.zeroValue2
 t3:=Tryd.underlying3
 a3:=Tryd.isAgg3
 z3:=Tryd.sizeOf3
 v3:=Tryd.zeroValue3
 t4:=Tryd.underlying4
 a4:=Tryd.isAgg4
 z4:=Tryd.sizeOf4
 v4:=Tryd.zeroValue4
 t5:=Tryd.underlying5
 a5:=Tryd.isAgg5
 z5:=Tryd.sizeOf5
 v5:=Tryd.zeroValue5
 t9:=Tryd.underlying9
 a9:=Tryd.isAgg9
 z9:=Tryd.sizeOf9
 v9:=Tryd.zeroValue9
 t20:=Tryd.underlying20
 a20:=Tryd.isAgg20
 z20:=Tryd.sizeOf20
 v20:=Tryd.zeroValue20
 t37:=Tryd.underlying81
 a37:=Tryd.isAgg81
 z37:=Tryd.sizeOf81
 v37:=Tryd.zeroValue81
 t46:=Tryd.underlying134
 a46:=Tryd.isAgg134
 z46:=Tryd.sizeOf134
 v46:=Tryd.zeroValue134
 t51:=Tryd.underlying167
 a51:=Tryd.isAgg167
 z51:=Tryd.sizeOf167
 v51:=Tryd.zeroValue167
 t53:=Tryd.underlying113
 a53:=Tryd.isAgg113
 z53:=Tryd.sizeOf113
 v53:=Tryd.zeroValue113
 t171:=Tryd.underlying139
 a171:=Tryd.isAgg139
 z171:=Tryd.sizeOf139
 v171:=Tryd.zeroValue139
 t173:=Tryd.underlying142
 a173:=Tryd.isAgg142
 z173:=Tryd.sizeOf142
 v173:=Tryd.zeroValue142
 t212:=Tryd.underlying166
 a212:=Tryd.isAgg166
 z212:=Tryd.sizeOf166
 v212:=Tryd.zeroValue166
 t213:=Tryd.underlying168
 a213:=Tryd.isAgg168
 z213:=Tryd.sizeOf168
 t232:=Tryd.underlying178
 a232:=Tryd.isAgg178
 z232:=Tryd.sizeOf178
 v232:=Tryd.zeroValue178
 t233:=Tryd.underlying179
 a233:=Tryd.isAgg179
 z233:=Tryd.sizeOf179
 v233:=Tryd.zeroValue179
 g17:=by kernel_rfl
 g18:=by kernel_rfl
 g19:=by kernel_rfl
 i0:=by kernel_rfl
 i2:=by kernel_rfl
 i3:=by kernel_rfl
 i4:=by kernel_rfl
 i5:=by kernel_rfl
 i9:=by kernel_rfl
 i20:=by kernel_rfl
 i37:=by kernel_rfl
 i46:=by kernel_rfl
 i51:=by kernel_rfl
 i53:=by kernel_rfl
 i171:=by kernel_rfl
 i173:=by kernel_rfl
 i212:=by kernel_rfl
 i232:=by kernel_rfl
 i233:=by kernel_rfl
 m17:=by kernel_rfl
 m18:=by kernel_rfl
 m19:=by kernel_rfl }
open Go.RowKit Go.Sort Go.Lib in
theorem Tryd.internal_strconv_AppendInt_10 (B n:Nat) (i:Int) (h0: -9223372036854775808≤i) (h1:i≤9223372036854775807) (sv:Value) (xs:List Value) (w:World) (hown:w.ownsRow B 5 1 sv n xs) (hBw:B≤w.heap.size) (hlim:n+21≤140737488355328) (htab:Lib.TabBelow Tryd.prog B w "internal/strconv.uint64pow10" .u64 Lib.pow10Tab):
 Calls Tryd.prog 43 #[sv,.int .i64 i,.int .i64 10] w fun e w'=>∃v',e= .returned v'∧w'.ownsRow B 5 1 v' (n+ (Lib.itoa i).length) (xs ++ Lib.byteCells (Lib.itoa i))∧Below B w w'∧Lib.OthersKept 5 none w w':=Any.internal_strconv_AppendInt_10 Tryd.laysM249 B n i h0 h1 sv xs w hown hBw hlim htab
def Tryd.laysM176_ren:Go.Shelf.Ren:=⟨fun | 176=>30 | 249=>43 | 288=>53 | 283=>68 | 284=>69 | 285=>70 | 286=>71 | 129=>87 | 317=>86 | 318=>88 | 319=>89 | 320=>90 | 337=>97 | 338=>98 | n=>n,fun | 37=>81 | 2=>2 | 3=>3 | 53=>113 | 4=>4 | 9=>9 | 171=>139 | 0=>0 | 173=>142 | 212=>166 | 51=>167 | 5=>5 | 20=>20 | 213=>168 | 46=>134 | 232=>178 | 233=>179 | n=>n,fun | 17=>2 | 18=>3 | 19=>4 | n=>n⟩
theorem Tryd.laysM176:Go.Proofs.LaysM.n176 Tryd.prog Tryd.laysM176_ren:={
 mixed:=by kernel_rfl
 f129:=Tryd.func87.trans (congrArg some (by kernel_rfl))
 f176:=Tryd.func30.trans (congrArg some (by kernel_rfl))
 f249:=Tryd.func43.trans (congrArg some (by kernel_rfl))
 f283:=Tryd.func68.trans (congrArg some (by kernel_rfl))
 f284:=Tryd.func69.trans (congrArg some (by kernel_rfl))
 f285:=Tryd.func70.trans (congrArg some (by kernel_rfl))
 f286:=Tryd.func71.trans (congrArg some (by kernel_rfl))
 f288:=Tryd.func53.trans (congrArg some (by kernel_rfl))
 f317:=Tryd.func86.trans (congrArg some (by kernel_rfl))
 f318:=Tryd.func88.trans (congrArg some (by kernel_rfl))
 f319:=Tryd.func89.trans (congrArg some (by kernel_rfl))
 f320:=Tryd.func90.trans (congrArg some (by kernel_rfl))
 f337:=Tryd.func97.trans (congrArg some (by kernel_rfl))
 f338:=Tryd.func98.trans (congrArg some (by kernel_rfl))
 t0:=Tryd.underlying0
 a0:=Tryd.isAgg0
 z0:=Tryd.sizeOf0
 v0:=Tryd.zeroValue0
 t2:=Tryd.underlying2
 a2:=Tryd.isAgg2
 z2:=Tryd.sizeOf2
 v2:=Tryd.zeroValue2
 t3:=Tryd.underlying3
 a3:=Tryd.isAgg3
 z3:=Tryd.sizeOf3
 v3:=Tryd.zeroValue3
 t4:=Tryd.underlying4
 a4:=Tryd.isAgg4
 z4:=Tryd.sizeOf4
 v4:=Tryd.zeroValue4
 t5:=Tryd.underlying5
 a5:=Tryd.isAgg5
 z5:=Tryd.sizeOf5
 v5:=Tryd.zeroValue5
 t9:=Tryd.underlying9
 a9:=Tryd.isAgg9
 z9:=Tryd.sizeOf9
 v9:=Tryd.zeroValue9
 t20:=Tryd.underlying20
 a20:=Tryd.isAgg20
 z20:=Tryd.sizeOf20
 v20:=Tryd.zeroValue20
 t37:=Tryd.underlying81
 a37:=Tryd.isAgg81
 z37:=Tryd.sizeOf81
 v37:=Tryd.zeroValue81
 t46:=Tryd.underlying134
 a46:=Tryd.isAgg134
 z46:=Tryd.sizeOf134
 v46:=Tryd.zeroValue134
 t51:=Tryd.underlying167
 a51:=Tryd.isAgg167
 z51:=Tryd.sizeOf167
 v51:=Tryd.zeroValue167
 t53:=Tryd.underlying113
 a53:=Tryd.isAgg113
 z53:=Tryd.sizeOf113
 v53:=Tryd.zeroValue113
 t171:=Tryd.underlying139
 a171:=Tryd.isAgg139
 z171:=Tryd.sizeOf139
 v171:=Tryd.zeroValue139
 t173:=Tryd.underlying142
 a173:=Tryd.isAgg142
 z173:=Tryd.sizeOf142
 v173:=Tryd.zeroValue142
 t212:=Tryd.underlying166
 a212:=Tryd.isAgg166
 z212:=Tryd.sizeOf166
 v212:=Tryd.zeroValue166
 t213:=Tryd.underlying168
 a213:=Tryd.isAgg168
 z213:=Tryd.sizeOf168
 t232:=Tryd.underlying178
 a232:=Tryd.isAgg178
 z232:=Tryd.sizeOf178
 v232:=Tryd.zeroValue178
 t233:=Tryd.underlying179
 a233:=Tryd.isAgg179
 z233:=Tryd.sizeOf179
 v233:=Tryd.zeroValue179
 g17:=by kernel_rfl
 g18:=by kernel_rfl
 g19:=by kernel_rfl
 i0:=by kernel_rfl
 i2:=by kernel_rfl
 i3:=by kernel_rfl
 i4:=by kernel_rfl
 i5:=by kernel_rfl
 i9:=by kernel_rfl
 i20:=by kernel_rfl
 i37:=by kernel_rfl
 i46:=by kernel_rfl
 i51:=by kernel_rfl
 i53:=by kernel_rfl
 i171:=by kernel_rfl
 i173:=by kernel_rfl
 i212:=by kernel_rfl
 i232:=by kernel_rfl
 i233:=by kernel_rfl
 m17:=by kernel_rfl
 m18:=by kernel_rfl
 m19:=by kernel_rfl }
open Go.RowKit Go.Sort Go.Lib in
theorem Tryd.strconv_AppendInt_10 (B n:Nat) (i:Int) (h0: -9223372036854775808≤i) (h1:i≤9223372036854775807) (sv:Value) (xs:List Value) (w:World) (hown:w.ownsRow B 5 1 sv n xs) (hBw:B≤w.heap.size) (hlim:n+21≤140737488355328) (htab:Lib.TabBelow Tryd.prog B w "internal/strconv.uint64pow10" .u64 Lib.pow10Tab):
 Calls Tryd.prog 30 #[sv,.int .i64 i,.int .i64 10] w fun e w'=>∃v',e= .returned v'∧w'.ownsRow B 5 1 v' (n+ (Lib.itoa i).length) (xs ++ Lib.byteCells (Lib.itoa i))∧Below B w w'∧Lib.OthersKept 5 none w w':=Any.strconv_AppendInt_10 Tryd.laysM176 B n i h0 h1 sv xs w hown hBw hlim htab
end Go.Proofs
