/- Numbers to a base, as text. -/
import Derived.Test.YtbhgdlfndamklaaGreatDoorS01
import Derived.Lib.ItoaNum
import Derived.Lib.AppendIntMem
import Derived.Shelf.Strconv.Itoa0
import Derived.Shelf.Strconv.Itoa1
import Derived.Shelf.LaysM
import Derived.Shelf.Strconv.Itoa2
import Derived.Shelf.Strconv.AppendUint10
import Derived.Shelf.Strconv.AppendInt10
import Derived.Shelf.Strconv.AppendIntPublic10
import Derived.Test.YtbhgdlfndamklaaGreatDoorProg
import Derived.Laws.AppendOwn
import Derived.Lib.LaidTab
import Derived.Laws.Bits64b
import Derived.Test.YtbhgdlfndamklaaGreatDoorS06
import Derived.Test.YtbhgdlfndamklaaGreatDoorS20
set_option linter.unusedVariables false
set_option linter.unusedSimpArgs false
namespace Go.Proofs.YtbhgdlfndamklaaGreatDoor
open Go.ChangeShapes Go.WideShapes Go.ChangeAt Go.RowKit
def digB (k:Nat):UInt8:=if k < 10 then UInt8.ofNat (48+k) else UInt8.ofNat (87+k)
def revB (b:Nat):Nat→Nat→List UInt8
 | 0,_=>[]
 | f+1,u=>if u < b then [digB u] else digB (u % b) :: revB b f (u / b)
def baseL (b u:Nat):List UInt8:=(revB b 64 u).reverse
theorem rev_more {b:Nat} (hb:2≤b):∀ (f g u:Nat),u < 2 ^ f→0 < f→f≤g→revB b f u=revB b g u
 | 0,g,u,h,h0,h2=>by omega
 | f+1,g,u,h,h0,h2=>by
   obtain ⟨k,rfl⟩:∃k,g=k+1:=⟨g - 1,by omega⟩;unfold revB;split
   · rfl
   · rename_i hu
     have h3:u / b < 2 ^ f:=by
      rw [Nat.div_lt_iff_lt_mul (by omega)];have e:2 ^ (f+1)=2 ^ f*2:=Nat.pow_succ 2 f;have:=Nat.mul_le_mul_left (2 ^ f) hb;omega
     have hf:0 < f:=by
      rcases Nat.eq_zero_or_pos f with e | e
      · subst e;simp at h;omega
      · exact e
     rw [rev_more hb f k (u / b) h3 hf (by omega)]
theorem base_small {b u:Nat} (h:u < b):baseL b u= [digB u]:=by
 unfold baseL revB;rw [if_pos h];rfl
theorem base_step {b u:Nat} (hb:2≤b) (h:b≤u) (hu:u < 18446744073709551616):baseL b u=baseL b (u / b) ++ [digB (u % b)]:=by
 have e:baseL b u= (digB (u % b) :: revB b 63 (u / b)).reverse:=by
  unfold baseL
  conv=>lhs;unfold revB
  rw [if_neg (by omega)]
 have h3:u / b < 2 ^ 63:=by
  rw [Nat.div_lt_iff_lt_mul (by omega)];have:=Nat.mul_le_mul_left (2 ^ 63) hb;omega
 rw [e,List.reverse_cons,rev_more hb 63 64 (u / b) h3 (by omega) (by omega)];rfl
theorem rev_len (b:Nat):∀ (f u:Nat),(revB b f u).length≤f
 | 0,u=>by simp [revB]
 | f+1,u=>by
   unfold revB;split
   · simp
   · have:=rev_len b f (u / b);simp;omega
theorem base_len (b u:Nat): (baseL b u).length≤64:=by
 unfold baseL;rw [List.length_reverse];exact rev_len b 64 u
theorem dec_base:∀ (u:Nat),u < 18446744073709551616→Lib.decDigits u=baseL 10 u
 | u,hu=>by
   by_cases h:u < 10
   · rw [Lib.decDigits,dif_pos h,base_small h];unfold digB;rw [if_pos h]
   · rw [Lib.decDigits,dif_neg h,base_step (by omega) (by omega) hu,dec_base (u / 10) (by omega)];unfold digB;rw [if_pos (by omega)]
termination_by u=>u
decreasing_by omega
theorem cells_app (a b:List UInt8):Lib.byteCells (a ++ b)=Lib.byteCells a ++ Lib.byteCells b:=by simp [Lib.byteCells]
theorem cells_len (a:List UInt8): (Lib.byteCells a).length=a.length:=by simp [Lib.byteCells]
def low32 (v:Int):Nat:=(v % 4294967296).toNat
theorem low32_lt (v:Int):low32 v < 4294967296:=by unfold low32;omega
def isDec (c:Int):Prop:=c=100∨c=105∨c=101
def convF (c:UInt8) (v:Int):List UInt8:=
 if c=99 then [UInt8.ofNat (v % 256).toNat] else if c=120 then baseL 16 (low32 v) else if c=111 then baseL 8 (low32 v) else if c=117 then baseL 10 (low32 v) else Lib.itoa v
def isConv (c:UInt8):Bool:=c=100 || c=105 || c=101 || c=117 || c=120 || c=111 || c=99
def printF:List UInt8→List Int→List UInt8
 | [],_=>[]
 | [c],_=>[c]
 | c :: d :: r,args=>
   if c≠37 then c :: printF (d :: r) args
   else if d=37 then 37 :: printF r args
   else if isConv d=false then 37 :: d :: printF r args
   else match args with
    | []=>printF r []
    | a :: rest=>convF d a ++ printF r rest
theorem itoa_len {v:Int} (h: -9223372036854775808≤v∧v≤9223372036854775807): (Lib.itoa v).length≤65:=by
 unfold Lib.itoa;split
 · rw [List.length_cons,dec_base _ (by omega)];have:=base_len 10 v.natAbs;omega
 · rw [dec_base _ (by omega)];have:=base_len 10 v.toNat;omega
theorem conv_len {c:UInt8} {v:Int} (h: -9223372036854775808≤v∧v≤9223372036854775807): (convF c v).length≤65:=by
 unfold convF;have:=itoa_len h;split
 · simp
 · split
   · have:=base_len 16 (low32 v);omega
   · split
     · have:=base_len 8 (low32 v);omega
     · split
       · have:=base_len 10 (low32 v);omega
       · exact this
end Go.Proofs.YtbhgdlfndamklaaGreatDoor
namespace Go.Proofs
open Go.Shelf
def Tryz.lays129_ren:Go.Shelf.Ren:=⟨fun | 129=>107 | n=>n,fun | 53=>131 | 3=>3 | 4=>4 | 46=>128 | 5=>5 | 9=>9 | n=>n,fun | n=>n⟩
def Tryz.lays317_ren:Go.Shelf.Ren:=⟨fun | 317=>106 | n=>n,fun | 3=>3 | 46=>128 | n=>n,fun | n=>n⟩
open Go.Lib in
def Tryz.lays318_ren:Go.Shelf.Ren:=⟨fun | 318=>108 | n=>n,fun | 3=>3 | 4=>4 | n=>n,fun | n=>n⟩
open Go.Lib in
def Tryz.lays283_ren:Go.Shelf.Ren:=⟨fun | 283=>87 | n=>n,fun | 3=>3 | 9=>9 | 4=>4 | n=>n,fun | n=>n⟩
open Go.Lib in
def Tryz.laysM284_ren:Go.Shelf.Ren:=⟨fun | 284=>88 | 129=>107 | 317=>106 | 318=>108 | n=>n,fun | 53=>131 | 3=>3 | 212=>174 | 0=>0 | 4=>4 | 46=>128 | 5=>5 | 9=>9 | n=>n,fun | 17=>0 | n=>n⟩
open Go.Lib in
def Tryz.lays285_ren:Go.Shelf.Ren:=⟨fun | 285=>89 | n=>n,fun | 37=>99 | 53=>131 | 3=>3 | 4=>4 | 51=>132 | 9=>9 | 5=>5 | 0=>0 | n=>n,fun | n=>n⟩
open Go.RowKit Go.Sort Go.Lib in
def Tryz.laysM288_ren:Go.Shelf.Ren:=⟨fun | 288=>78 | 283=>87 | 284=>88 | 285=>89 | 286=>90 | 129=>107 | 317=>106 | 318=>108 | 319=>109 | 320=>110 | 337=>127 | 338=>128 | n=>n,fun | 37=>99 | 53=>131 | 3=>3 | 4=>4 | 9=>9 | 171=>151 | 0=>0 | 173=>154 | 212=>174 | 51=>132 | 5=>5 | 20=>20 | 213=>175 | 46=>128 | 232=>200 | 233=>201 | n=>n,fun | 17=>0 | 18=>1 | 19=>2 | n=>n⟩
theorem Tryz.laysM288:Go.Proofs.LaysM.n288 Tryz.prog Tryz.laysM288_ren:={
 mixed:=by kernel_rfl
 f129:=Tryz.func107.trans (congrArg some (by kernel_rfl))
 f283:=Tryz.func87.trans (congrArg some (by kernel_rfl))
 f284:=Tryz.func88.trans (congrArg some (by kernel_rfl))
 f285:=Tryz.func89.trans (congrArg some (by kernel_rfl))
 f286:=Tryz.func90.trans (congrArg some (by kernel_rfl))
 f288:=Tryz.func78.trans (congrArg some (by kernel_rfl))
 f317:=Tryz.func106.trans (congrArg some (by kernel_rfl))
 f318:=Tryz.func108.trans (congrArg some (by kernel_rfl))
 f319:=Tryz.func109.trans (congrArg some (by kernel_rfl))
 f320:=Tryz.func110.trans (congrArg some (by kernel_rfl))
 f337:=Tryz.func127.trans (congrArg some (by kernel_rfl))
 f338:=Tryz.func128.trans (congrArg some (by kernel_rfl))
 t0:=Tryz.underlying0
 a0:=Tryz.isAgg0
 z0:=Tryz.sizeOf0
 v0:=Tryz.zeroValue0
 t3:=Tryz.underlying3
 a3:=Tryz.isAgg3
 z3:=Tryz.sizeOf3
 v3:=Tryz.zeroValue3
 t4:=Tryz.underlying4
 a4:=Tryz.isAgg4
 z4:=Tryz.sizeOf4
 v4:=Tryz.zeroValue4
 t5:=Tryz.underlying5
 a5:=Tryz.isAgg5
 z5:=Tryz.sizeOf5
 v5:=Tryz.zeroValue5
 t9:=Tryz.underlying9
 a9:=Tryz.isAgg9
 z9:=Tryz.sizeOf9
 v9:=Tryz.zeroValue9
 t20:=Tryz.underlying20
 a20:=Tryz.isAgg20
 z20:=Tryz.sizeOf20
 v20:=Tryz.zeroValue20
 t37:=Tryz.underlying99
 a37:=Tryz.isAgg99
 z37:=Tryz.sizeOf99
 v37:=Tryz.zeroValue99
 t46:=Tryz.underlying128
 a46:=Tryz.isAgg128
 z46:=Tryz.sizeOf128
 v46:=Tryz.zeroValue128
 t51:=Tryz.underlying132
 a51:=Tryz.isAgg132
 z51:=Tryz.sizeOf132
 v51:=Tryz.zeroValue132
 t53:=Tryz.underlying131
 a53:=Tryz.isAgg131
 z53:=Tryz.sizeOf131
 v53:=Tryz.zeroValue131
 t171:=Tryz.underlying151
 a171:=Tryz.isAgg151
 z171:=Tryz.sizeOf151
 v171:=Tryz.zeroValue151
 t173:=Tryz.underlying154
 a173:=Tryz.isAgg154
 z173:=Tryz.sizeOf154
 v173:=Tryz.zeroValue154
 t212:=Tryz.underlying174
 a212:=Tryz.isAgg174
 z212:=Tryz.sizeOf174
 v212:=Tryz.zeroValue174
 t213:=Tryz.underlying175
 a213:=Tryz.isAgg175
 z213:=Tryz.sizeOf175
 t232:=Tryz.underlying200
 a232:=Tryz.isAgg200
 z232:=Tryz.sizeOf200
 v232:=Tryz.zeroValue200
 t233:=Tryz.underlying201
 a233:=Tryz.isAgg201
 z233:=Tryz.sizeOf201
 v233:=Tryz.zeroValue201
 g17:=by kernel_rfl
 g18:=by kernel_rfl
 g19:=by kernel_rfl
 i0:=by kernel_rfl
 i3:=by kernel_rfl
 i4:=by kernel_rfl
 i5:=by kernel_rfl
 i9:=by kernel_rfl
 i20:=by kernel_rfl
 i37:=by kernel_rfl
 i46:=by kernel_rfl
 i51:=by kernel_rfl
 i53:=by kernel_rfl
 i171:=by kernel_rfl
 i173:=by kernel_rfl
 i212:=by kernel_rfl
 i232:=by kernel_rfl
 i233:=by kernel_rfl
 m17:=by kernel_rfl
 m18:=by kernel_rfl
 m19:=by kernel_rfl }
open Go.RowKit Go.Sort Go.Lib in
open Go.RowKit Go.Sort Go.Lib in
open Go.RowKit Go.Sort Go.Lib in
theorem Tryz.internal_strconv_AppendUint_10 (B n u:Nat) (hu64:u < 18446744073709551616) (sv:Value) (xs:List Value) (w:World) (hown:w.ownsRow B 5 1 sv n xs) (hBw:B≤w.heap.size) (hlim:n+20≤140737488355328) (htab:Lib.TabIs Tryz.prog w "internal/strconv.uint64pow10" .u64 Lib.pow10Tab):
 Calls Tryz.prog 78 #[sv,.int .u64 u,.int .i64 10] w fun e w'=>∃v',e= .returned v'∧w'.ownsRow B 5 1 v' (n+ (Lib.decDigits u).length) (xs ++ Lib.byteCells (Lib.decDigits u))∧Below B w w'∧Lib.OthersKept 5 none w w':=Any.internal_strconv_AppendUint_10 Tryz.laysM288 B n u hu64 sv xs w hown hBw hlim htab
def Tryz.laysM249_ren:Go.Shelf.Ren:=⟨fun | 249=>77 | 288=>78 | 283=>87 | 284=>88 | 285=>89 | 286=>90 | 129=>107 | 317=>106 | 318=>108 | 319=>109 | 320=>110 | 337=>127 | 338=>128 | n=>n,fun | 37=>99 | 2=>2 | 3=>3 | 53=>131 | 4=>4 | 9=>9 | 171=>151 | 0=>0 | 173=>154 | 212=>174 | 51=>132 | 5=>5 | 20=>20 | 213=>175 | 46=>128 | 232=>200 | 233=>201 | n=>n,fun | 17=>0 | 18=>1 | 19=>2 | n=>n⟩
open Go.RowKit Go.Sort Go.Lib in
def Tryz.laysM176_ren:Go.Shelf.Ren:=⟨fun | 176=>63 | 249=>77 | 288=>78 | 283=>87 | 284=>88 | 285=>89 | 286=>90 | 129=>107 | 317=>106 | 318=>108 | 319=>109 | 320=>110 | 337=>127 | 338=>128 | n=>n,fun | 37=>99 | 2=>2 | 3=>3 | 53=>131 | 4=>4 | 9=>9 | 171=>151 | 0=>0 | 173=>154 | 212=>174 | 51=>132 | 5=>5 | 20=>20 | 213=>175 | 46=>128 | 232=>200 | 233=>201 | n=>n,fun | 17=>0 | 18=>1 | 19=>2 | n=>n⟩
theorem Tryz.laysM176:Go.Proofs.LaysM.n176 Tryz.prog Tryz.laysM176_ren:={
 mixed:=by kernel_rfl
 f129:=Tryz.func107.trans (congrArg some (by kernel_rfl))
 f176:=Tryz.func63.trans (congrArg some (by kernel_rfl))
 f249:=Tryz.func77.trans (congrArg some (by kernel_rfl))
 f283:=Tryz.func87.trans (congrArg some (by kernel_rfl))
 f284:=Tryz.func88.trans (congrArg some (by kernel_rfl))
 f285:=Tryz.func89.trans (congrArg some (by kernel_rfl))
 f286:=Tryz.func90.trans (congrArg some (by kernel_rfl))
 f288:=Tryz.func78.trans (congrArg some (by kernel_rfl))
 f317:=Tryz.func106.trans (congrArg some (by kernel_rfl))
 f318:=Tryz.func108.trans (congrArg some (by kernel_rfl))
 f319:=Tryz.func109.trans (congrArg some (by kernel_rfl))
 f320:=Tryz.func110.trans (congrArg some (by kernel_rfl))
 f337:=Tryz.func127.trans (congrArg some (by kernel_rfl))
 f338:=Tryz.func128.trans (congrArg some (by kernel_rfl))
 t0:=Tryz.underlying0
 a0:=Tryz.isAgg0
 z0:=Tryz.sizeOf0
 v0:=Tryz.zeroValue0
 t2:=Tryz.underlying2
 a2:=Tryz.isAgg2
 z2:=Tryz.sizeOf2
 v2:=Tryz.zeroValue2
 t3:=Tryz.underlying3
 a3:=Tryz.isAgg3
 z3:=Tryz.sizeOf3
 v3:=Tryz.zeroValue3
 t4:=Tryz.underlying4
 a4:=Tryz.isAgg4
 z4:=Tryz.sizeOf4
 v4:=Tryz.zeroValue4
 t5:=Tryz.underlying5
 a5:=Tryz.isAgg5
 z5:=Tryz.sizeOf5
 v5:=Tryz.zeroValue5
 t9:=Tryz.underlying9
 a9:=Tryz.isAgg9
 z9:=Tryz.sizeOf9
 v9:=Tryz.zeroValue9
 t20:=Tryz.underlying20
 a20:=Tryz.isAgg20
 z20:=Tryz.sizeOf20
 v20:=Tryz.zeroValue20
 t37:=Tryz.underlying99
 a37:=Tryz.isAgg99
 z37:=Tryz.sizeOf99
 v37:=Tryz.zeroValue99
 t46:=Tryz.underlying128
 a46:=Tryz.isAgg128
 z46:=Tryz.sizeOf128
 v46:=Tryz.zeroValue128
 t51:=Tryz.underlying132
 a51:=Tryz.isAgg132
 z51:=Tryz.sizeOf132
 v51:=Tryz.zeroValue132
 t53:=Tryz.underlying131
 a53:=Tryz.isAgg131
 z53:=Tryz.sizeOf131
 v53:=Tryz.zeroValue131
 t171:=Tryz.underlying151
 a171:=Tryz.isAgg151
 z171:=Tryz.sizeOf151
 v171:=Tryz.zeroValue151
 t173:=Tryz.underlying154
 a173:=Tryz.isAgg154
 z173:=Tryz.sizeOf154
 v173:=Tryz.zeroValue154
 t212:=Tryz.underlying174
 a212:=Tryz.isAgg174
 z212:=Tryz.sizeOf174
 v212:=Tryz.zeroValue174
 t213:=Tryz.underlying175
 a213:=Tryz.isAgg175
 z213:=Tryz.sizeOf175
 t232:=Tryz.underlying200
 a232:=Tryz.isAgg200
 z232:=Tryz.sizeOf200
 v232:=Tryz.zeroValue200
 t233:=Tryz.underlying201
 a233:=Tryz.isAgg201
 z233:=Tryz.sizeOf201
 v233:=Tryz.zeroValue201
 g17:=by kernel_rfl
 g18:=by kernel_rfl
 g19:=by kernel_rfl
 i0:=by kernel_rfl
 i2:=by kernel_rfl
 i3:=by kernel_rfl
 i4:=by kernel_rfl
 i5:=by kernel_rfl
 i9:=by kernel_rfl
 i20:=by kernel_rfl
 i37:=by kernel_rfl
 i46:=by kernel_rfl
 i51:=by kernel_rfl
 i53:=by kernel_rfl
 i171:=by kernel_rfl
 i173:=by kernel_rfl
 i212:=by kernel_rfl
 i232:=by kernel_rfl
 i233:=by kernel_rfl
 m17:=by kernel_rfl
 m18:=by kernel_rfl
 m19:=by kernel_rfl }
open Go.RowKit Go.Sort Go.Lib in
theorem Tryz.strconv_AppendInt_10 (B n:Nat) (i:Int) (h0: -9223372036854775808≤i) (h1:i≤9223372036854775807) (sv:Value) (xs:List Value) (w:World) (hown:w.ownsRow B 5 1 sv n xs) (hBw:B≤w.heap.size) (hlim:n+21≤140737488355328) (htab:Lib.TabBelow Tryz.prog B w "internal/strconv.uint64pow10" .u64 Lib.pow10Tab):
 Calls Tryz.prog 63 #[sv,.int .i64 i,.int .i64 10] w fun e w'=>∃v',e= .returned v'∧w'.ownsRow B 5 1 v' (n+ (Lib.itoa i).length) (xs ++ Lib.byteCells (Lib.itoa i))∧Below B w w'∧Lib.OthersKept 5 none w w':=Any.strconv_AppendInt_10 Tryz.laysM176 B n i h0 h1 sv xs w hown hBw hlim htab
end Go.Proofs
namespace Go.Proofs.YtbhgdlfndamklaaGreatDoor
open Go.ChangeShapes Go.WideShapes Go.ChangeAt Go.RowKit
structure TabP (w:World):Prop where
 pow:Lib.TabIs Tryz.prog w "internal/strconv.uint64pow10" .u64 Lib.pow10Tab
 t16:w.cell? ⟨2,15,none⟩=some (.int .u8 4)
 t8:w.cell? ⟨2,7,none⟩=some (.int .u8 3)
def TabW (w:World):Prop:=∀w',Below w.heap.size w w'→TabP w'
theorem TabW.here {w:World} (h:TabW w):TabP w:=h w (Below.refl _ _)
theorem TabW.below {w w':World} (h:TabW w) (hb:Below w.heap.size w w'):TabW w':=fun v hv=>h v (hb.trans (hv.mono hb.size))
set_option maxRecDepth 100000 in
theorem tz16 (w:World) (h:TabP w):Calls Tryz.prog 110 #[.int .u64 16] w fun e w'=>e= .returned (.int .i64 4)∧w=w':=by
 have h1:=h.t16;clear h;have key:IntKind.u64.wrap (bits BinOp.and IntKind.u64 16 (IntKind.u64.wrap (-16))*285870213051353865) / 288230376151711744=15:=by decide+kernel
 go_enter Tryz.func110,Tryz.ntmps110;go_wp2_with (first | simp only [key] | go_in);go_ret;exact ⟨rfl,rfl⟩
set_option maxRecDepth 100000 in
theorem tz8 (w:World) (h:TabP w):Calls Tryz.prog 110 #[.int .u64 8] w fun e w'=>e= .returned (.int .i64 3)∧w=w':=by
 have h1:=h.t8;clear h;have key:IntKind.u64.wrap (bits BinOp.and IntKind.u64 8 (IntKind.u64.wrap (-8))*285870213051353865) / 288230376151711744=7:=by decide+kernel
 go_enter Tryz.func110,Tryz.ntmps110;go_wp2_with (first | simp only [key] | go_in);go_ret;exact ⟨rfl,rfl⟩
theorem dig_fin:∀m:Fin 36,(⟨#[48,49,50,51,52,53,54,55,56,57,97,98,99,100,101,102,103,104,105,106,107,108,109,110,111,112,113,114,115,116,117,118,119,120,121,122]⟩:ByteArray)[m.val]'(by have:=m.isLt;exact this)=digB m.val:=by decide+kernel
theorem dig_at (m:Nat) (h:m < 36) (h2:m < (⟨#[48,49,50,51,52,53,54,55,56,57,97,98,99,100,101,102,103,104,105,106,107,108,109,110,111,112,113,114,115,116,117,118,119,120,121,122]⟩:ByteArray).size): (⟨#[48,49,50,51,52,53,54,55,56,57,97,98,99,100,101,102,103,104,105,106,107,108,109,110,111,112,113,114,115,116,117,118,119,120,121,122]⟩:ByteArray)[m]'h2=digB m:=dig_fin ⟨m,h⟩
structure FB (w0:World) (L:List UInt8) (W:World):Prop where
 blk:∃cs,W.heap[w0.heap.size]? =some (.cells cs 175 (0,0))∧cs.size=65∧cs.toList.drop (65 - L.length)=Lib.byteCells L
 len:L.length≤65
 bel:Below w0.heap.size w0 W
theorem FB.put {w0 W:World} {L:List UInt8} (h:FB w0 L W) (hl:L.length < 65) (c:UInt8):FB w0 (c :: L) (W.setCell ⟨w0.heap.size,64 - L.length,none⟩ (.int .u8 (c.toNat:Int))):=by
 obtain ⟨cs,h1,h2,h3⟩:=h.blk;refine ⟨⟨_,heap_setCell_same _ _ _ _ _ _ h1,by simpa using h2, ?_⟩,by simp;omega,h.bel.setCell (Nat.le_refl _) _⟩;rw [Array.toList_setIfInBounds];have e:65 - (c :: L).length=64 - L.length:=by simp
 rw [e];have h4:64 - L.length < cs.toList.length:=by simp;omega
 rw [List.drop_set,if_neg (by omega),Nat.sub_self];have h5:cs.toList.drop (64 - L.length)=cs.toList[64 - L.length] :: cs.toList.drop (65 - L.length):=by
  rw [List.drop_eq_getElem_cons h4];congr 2;omega
 rw [h5,h3];rfl
theorem FB.cells {w0 W:World} {L:List UInt8} (h:FB w0 L W):∀j u,(Lib.byteCells L)[j]? =some u→W.cell? ⟨w0.heap.size,65 - L.length+j,none⟩=some u:=by
 obtain ⟨cs,h1,h2,h3⟩:=h.blk;intro j u hj;rw [cell_of_row _ _ _ _ _ _ h1];rw [←h3,List.getElem?_drop] at hj;simpa using hj
theorem FB.store {w0 W:World} {L:List UInt8} (h:FB w0 L W) (i:Nat) (hi:i < 65):W.frozen? ⟨w0.heap.size,i,none⟩=false∧∃v,W.cell? ⟨w0.heap.size,i,none⟩=some v:=by
 obtain ⟨cs,h1,h2,h3⟩:=h.blk;refine ⟨frozen_of_row _ _ _ _ _ h1,cs[i], ?_⟩;rw [cell_of_row _ _ _ _ _ _ h1];simp [h2,hi]
theorem slice65 (b k:Nat) (W:World) (hk0:1≤k) (hk:k≤65): (Instr.sliceAt 175 (.pointer (some ⟨b,0,none⟩)) (some (.int .i64 ((k:Int) - 1))) none none).run Tryz.prog W= .ok (.slice (some ⟨b,k - 1,none⟩) (66 - k) (66 - k)) W:=by
 have e:Tryz.prog.arrayLen 175=65:=by kernel_rfl
 rw [run_sliceAt_array_l W 175 _ (by kernel_rfl) .i64 ((k:Int) - 1) (by omega) (by rw [e];omega),e];have e2: (sizeOf (Tryz.prog.elem 175)).run Tryz.prog W= .ok 1 W:=by
  rw [show Tryz.prog.elem 175=5 from by kernel_rfl];exact Tryz.sizeOf5 W
 rw [e2];have e3: ((k:Int) - 1).toNat=k - 1:=by omega
 simp only [Result.andThen_ok,slicedAt,e3];rw [if_neg (by omega),show 65 - (k - 1)=66 - k from by omega];simp only [Addr.add,Nat.mul_one,Nat.zero_add];split
 · rename_i h;rw [h]
 · rfl
theorem info_u8: (Tryz.prog.info? 5).map (fun i=>(i.zero,i.size,i.bytes))=some (some (.int .u8 0),1,1):=by kernel_rfl
def FmtP (B:Nat) (w:World) (n:Nat) (xs:List Value) (L:List UInt8) (e:Ending) (w':World):Prop:=∃v',e= .returned v'∧w'.ownsRow B 5 1 v' (n+L.length) (xs ++ Lib.byteCells L)∧Below B w w'
def FmtP2 (B:Nat) (w:World) (n:Nat) (xs:List Value) (L:List UInt8) (e:Ending) (w':World):Prop:=∃v',e= .returned (.tuple #[v',.string ⟨#[]⟩])∧w'.ownsRow B 5 1 v' (n+L.length) (xs ++ Lib.byteCells L)∧Below B w w'
set_option maxRecDepth 100000 in
theorem pow16 (w:World):Calls Tryz.prog 109 #[.int .i64 16] w fun e w'=>e= .returned (.bool true)∧w=w':=by
 have key: (bits BinOp.and IntKind.i64 16 15 == 0)=true:=by decide+kernel
 go_enter Tryz.func109,Tryz.ntmps109;go_wp2_with (simp only [key]);go_ret
 first | exact ⟨rfl,rfl⟩ | exact ⟨by simp [key],rfl⟩
set_option maxRecDepth 100000 in
theorem pow8 (w:World):Calls Tryz.prog 109 #[.int .i64 8] w fun e w'=>e= .returned (.bool true)∧w=w':=by
 have key: (bits BinOp.and IntKind.i64 8 7 == 0)=true:=by decide+kernel
 go_enter Tryz.func109,Tryz.ntmps109;go_wp2_with (simp only [key]);go_ret
 first | exact ⟨rfl,rfl⟩ | exact ⟨by simp [key],rfl⟩
set_option maxHeartbeats 4000000 in
set_option maxRecDepth 100000 in
theorem bits16 (B n u:Nat) (hu:u < 4294967296) (sv:Value) (xs:List Value) (w:World) (hown:w.ownsRow B 5 1 sv n xs) (hBw:B≤w.heap.size) (hlim:n+70≤140737488355328) (ht:TabW w):
 Calls Tryz.prog 90 #[sv,.int .u64 u,.int .i64 16,.bool false,.bool true] w (FmtP2 B w n xs (baseL 16 u)):=by
 have HT:=Lib.hid ht;have HO:=Lib.hid hown;clear ht hown;have hu0: (0:Int)≤u:=by omega
 have hu1: (u:Int) < 4294967296:=by omega
 go_enter Tryz.func90,Tryz.ntmps90;go_wp2_with fail;refine (pow16 _).mono ?_;rintro e w1 ⟨rfl,rfl⟩;go_wp2_with fail;refine (tz16 _ (HT.out _ ((Below.refl _ _).alloc (Nat.le_refl _) _))).mono ?_;rintro e w1 ⟨rfl,rfl⟩;go_wp2_with fail;have HF0:Hid (FB w [] (w.alloc (.cells Tryz.zeroCells175 175))):=Lib.hid ⟨⟨_,heap_alloc_new w _,by kernel_rfl,by rfl⟩,by simp,(Below.refl _ _).alloc (Nat.le_refl _) _⟩;have HLE:Hid (∀ (x:Nat) (L:List UInt8),baseL 16 x ++ L=baseL 16 u→L.length≤64):=Lib.hid fun x L h=>by
  have h1:=congrArg List.length h;have h2:=base_len 16 u;rw [List.length_append] at h1;omega
 go_loopw [1,13] (fun uv iv wr=>∃ (x k:Nat) (L:List UInt8),uv= .int .u64 x∧iv= .int .i64 k∧x < 4294967296∧k+L.length=65∧Hid (baseL 16 x ++ L=baseL 16 u)∧Hid (FB w L wr)) (fun _ i _=>(intOf i).toNat)
 case atStart=>exact ⟨u,65,[],rfl,rfl,hu,rfl,Lib.hid (by simp),HF0⟩
 case round=>
  clear HF0 hu hu0 hu1;obtain ⟨x,k,L,rfl,rfl,hx,hk,HL,HF⟩:=hrel;have hl:=HLE.out x L HL.out;have hx0: (0:Int)≤x:=by omega
  by_cases hlt:16≤x
  · have hd:decide ((16:Int)≤x)=true:=decide_eq_true (by omega);have hk1: (0:Int)≤ (k:Int) - 1:=by omega
    have hk2: (k:Int) - 1 < 65:=by omega
    have hk3: ((k:Int) - 1).toNat=k - 1:=by omega
    obtain ⟨f1,v1,c1⟩:=HF.out.store (k - 1) (by omega);have HA:bits BinOp.and IntKind.u64 (x:Int) 15= ((x % 16:Nat):Int):=by
     rw [show (15:Int)= ((15:Nat):Int) from rfl,bits_and_u64_nat x 15 (by omega) (by omega)];congr 1;exact Nat.and_two_pow_sub_one_eq_mod x 4
    have hm:=Nat.mod_lt x (show 0 < 16 by omega);obtain ⟨m,hxm⟩:∃m,x % 16=m:=⟨_,rfl⟩;rw [hxm] at HA hm;have HXM:=Lib.hid hxm;clear hxm;have hm0: (0:Int)≤m:=by omega
    have hm1: (m:Int) < 36:=by omega
    go_wp2_with fail;go_roundw;case rel=>
     refine ⟨x / 16,k - 1,digB m :: L,by go_num,by go_num,by omega,by rw [List.length_cons];omega,Lib.hid ?_,Lib.hid ?_⟩
     · have h1:=base_step (b:=16) (u:=x) (by omega) hlt (by omega);rw [HXM.out] at h1;rw [←HL.out,h1,List.append_assoc];rfl
     · rw [dig_at m (by omega)];have h1:=HF.out.put (by omega) (digB m);rw [show 64 - L.length=k - 1 from by omega] at h1;exact h1
    case measure=>simp [intOf];omega
  · have hd:decide ((16:Int)≤x)=false:=decide_eq_false (by omega);have hk0:1≤k:=by
     have h1:=congrArg List.length HL.out;rw [base_small (show x < 16 by omega)] at h1;have h2:=base_len 16 u;rw [List.length_append,List.length_singleton] at h1;omega
    have hk1: (0:Int)≤ (k:Int) - 1:=by omega
    have hk2: (k:Int) - 1 < 65:=by omega
    have hk3: ((k:Int) - 1).toNat=k - 1:=by omega
    have hk4: (k:Int) - 1≤65:=by omega
    obtain ⟨f1,v1,c1⟩:=HF.out.store (k - 1) (by omega);have hx1: (x:Int) < 36:=by omega
    have HL2:Hid (digB x :: L=baseL 16 u):=Lib.hid (by rw [←HL.out,base_small (show x < 16 by omega)];rfl);have hsl:=fun W=>slice65 w.heap.size k W hk0 (by omega)
    have HPUT:=Lib.hid (HF.out.put (by omega) (digB x));obtain ⟨i0,hi,hz0,hz1,hz2⟩:=info_parts info_u8;have HI:=Lib.hid (And.intro hi (And.intro hz0 (And.intro hz1 hz2)));clear hi hz0 hz1 hz2;have HKE:Hid (k - 1=64 - L.length):=Lib.hid (by omega);have HLL:Hid ((digB x :: L).length=66 - k):=Lib.hid (by rw [List.length_cons];omega);go_wp2_with (at_builtin;refine wpList_append_own _ rfl _ _ 99 rfl B 5 i0 (.int .u8 0) 1 1 Tryz.underlying99 HI.out.1 HI.out.2.1 HI.out.2.2.1 HI.out.2.2.2 rfl (by decide) sv n xs rfl ?qc0 ⟨w.heap.size,k - 1,none⟩ (66 - k) (66 - k) (Lib.byteCells (digB x :: L)) rfl ?qc1 ?qc2 ?qc3 ?qc4 ?qc5 ?qc6 ?_);case qc0=>rw [dig_at x (by omega),HKE.out];exact owns_below HO.out HPUT.out.bel
    case qc1=>rw [cells_len,HLL.out,Nat.mul_one]
    case qc2=>
     intro j u hj;rw [dig_at x (by omega),HKE.out,Addr.add_lit];have h1:=HPUT.out.cells j u hj;rw [show 65 - (digB x :: L).length=64 - L.length from by rw [List.length_cons];omega] at h1;exact h1
    case qc3=>
     intro u hu;simp only [Lib.byteCells,List.mem_map] at hu;obtain ⟨z,-,rfl⟩:=hu;rfl
    case qc4=>unfold maxLen;omega
    case qc5=>omega
    case qc6=>rw [dig_at x (by omega),HKE.out];exact Nat.le_trans hBw HPUT.out.bel.size
    intro v' w2 hown hgrow hnil;have HR:Hid (FmtP2 B w n xs (baseL 16 u) (.returned (.tuple #[v',.string ⟨#[]⟩])) w2):=Lib.hid (by
     rw [dig_at x (by omega),HKE.out] at hgrow;refine ⟨v',rfl, ?_,(HPUT.out.bel.mono hBw).grown hgrow (Nat.le_trans hBw HPUT.out.bel.size) (fun k hk=>(HO.out.lt k hk).1)⟩;rw [←HL2.out,HLL.out];exact hown)
    clear hown hgrow hnil;go_wp2_with fail;go_ret2;exact HR.out
set_option maxHeartbeats 4000000 in
set_option maxRecDepth 100000 in
theorem bits8 (B n u:Nat) (hu:u < 4294967296) (sv:Value) (xs:List Value) (w:World) (hown:w.ownsRow B 5 1 sv n xs) (hBw:B≤w.heap.size) (hlim:n+70≤140737488355328) (ht:TabW w):
 Calls Tryz.prog 90 #[sv,.int .u64 u,.int .i64 8,.bool false,.bool true] w (FmtP2 B w n xs (baseL 8 u)):=by
 have HT:=Lib.hid ht;have HO:=Lib.hid hown;clear ht hown;have hu0: (0:Int)≤u:=by omega
 have hu1: (u:Int) < 4294967296:=by omega
 go_enter Tryz.func90,Tryz.ntmps90;go_wp2_with fail;refine (pow8 _).mono ?_;rintro e w1 ⟨rfl,rfl⟩;go_wp2_with fail;refine (tz8 _ (HT.out _ ((Below.refl _ _).alloc (Nat.le_refl _) _))).mono ?_;rintro e w1 ⟨rfl,rfl⟩;go_wp2_with fail;have HF0:Hid (FB w [] (w.alloc (.cells Tryz.zeroCells175 175))):=Lib.hid ⟨⟨_,heap_alloc_new w _,by kernel_rfl,by rfl⟩,by simp,(Below.refl _ _).alloc (Nat.le_refl _) _⟩;have HLE:Hid (∀ (x:Nat) (L:List UInt8),baseL 8 x ++ L=baseL 8 u→L.length≤64):=Lib.hid fun x L h=>by
  have h1:=congrArg List.length h;have h2:=base_len 8 u;rw [List.length_append] at h1;omega
 go_loopw [1,13] (fun uv iv wr=>∃ (x k:Nat) (L:List UInt8),uv= .int .u64 x∧iv= .int .i64 k∧x < 4294967296∧k+L.length=65∧Hid (baseL 8 x ++ L=baseL 8 u)∧Hid (FB w L wr)) (fun _ i _=>(intOf i).toNat)
 case atStart=>exact ⟨u,65,[],rfl,rfl,hu,rfl,Lib.hid (by simp),HF0⟩
 case round=>
  clear HF0 hu hu0 hu1;obtain ⟨x,k,L,rfl,rfl,hx,hk,HL,HF⟩:=hrel;have hl:=HLE.out x L HL.out;have hx0: (0:Int)≤x:=by omega
  by_cases hlt:8≤x
  · have hd:decide ((8:Int)≤x)=true:=decide_eq_true (by omega);have hk1: (0:Int)≤ (k:Int) - 1:=by omega
    have hk2: (k:Int) - 1 < 65:=by omega
    have hk3: ((k:Int) - 1).toNat=k - 1:=by omega
    obtain ⟨f1,v1,c1⟩:=HF.out.store (k - 1) (by omega);have HA:bits BinOp.and IntKind.u64 (x:Int) 7= ((x % 8:Nat):Int):=by
     rw [show (7:Int)= ((7:Nat):Int) from rfl,bits_and_u64_nat x 7 (by omega) (by omega)];congr 1;exact Nat.and_two_pow_sub_one_eq_mod x 3
    have hm:=Nat.mod_lt x (show 0 < 8 by omega);obtain ⟨m,hxm⟩:∃m,x % 8=m:=⟨_,rfl⟩;rw [hxm] at HA hm;have HXM:=Lib.hid hxm;clear hxm;have hm0: (0:Int)≤m:=by omega
    have hm1: (m:Int) < 36:=by omega
    go_wp2_with fail;go_roundw;case rel=>
     refine ⟨x / 8,k - 1,digB m :: L,by go_num,by go_num,by omega,by rw [List.length_cons];omega,Lib.hid ?_,Lib.hid ?_⟩
     · have h1:=base_step (b:=8) (u:=x) (by omega) hlt (by omega);rw [HXM.out] at h1;rw [←HL.out,h1,List.append_assoc];rfl
     · rw [dig_at m (by omega)];have h1:=HF.out.put (by omega) (digB m);rw [show 64 - L.length=k - 1 from by omega] at h1;exact h1
    case measure=>simp [intOf];omega
  · have hd:decide ((8:Int)≤x)=false:=decide_eq_false (by omega);have hk0:1≤k:=by
     have h1:=congrArg List.length HL.out;rw [base_small (show x < 8 by omega)] at h1;have h2:=base_len 8 u;rw [List.length_append,List.length_singleton] at h1;omega
    have hk1: (0:Int)≤ (k:Int) - 1:=by omega
    have hk2: (k:Int) - 1 < 65:=by omega
    have hk3: ((k:Int) - 1).toNat=k - 1:=by omega
    have hk4: (k:Int) - 1≤65:=by omega
    obtain ⟨f1,v1,c1⟩:=HF.out.store (k - 1) (by omega);have hx1: (x:Int) < 36:=by omega
    have HL2:Hid (digB x :: L=baseL 8 u):=Lib.hid (by rw [←HL.out,base_small (show x < 8 by omega)];rfl);have hsl:=fun W=>slice65 w.heap.size k W hk0 (by omega)
    have HPUT:=Lib.hid (HF.out.put (by omega) (digB x));obtain ⟨i0,hi,hz0,hz1,hz2⟩:=info_parts info_u8;have HI:=Lib.hid (And.intro hi (And.intro hz0 (And.intro hz1 hz2)));clear hi hz0 hz1 hz2;have HKE:Hid (k - 1=64 - L.length):=Lib.hid (by omega);have HLL:Hid ((digB x :: L).length=66 - k):=Lib.hid (by rw [List.length_cons];omega);go_wp2_with (at_builtin;refine wpList_append_own _ rfl _ _ 99 rfl B 5 i0 (.int .u8 0) 1 1 Tryz.underlying99 HI.out.1 HI.out.2.1 HI.out.2.2.1 HI.out.2.2.2 rfl (by decide) sv n xs rfl ?qc0 ⟨w.heap.size,k - 1,none⟩ (66 - k) (66 - k) (Lib.byteCells (digB x :: L)) rfl ?qc1 ?qc2 ?qc3 ?qc4 ?qc5 ?qc6 ?_);case qc0=>rw [dig_at x (by omega),HKE.out];exact owns_below HO.out HPUT.out.bel
    case qc1=>rw [cells_len,HLL.out,Nat.mul_one]
    case qc2=>
     intro j u hj;rw [dig_at x (by omega),HKE.out,Addr.add_lit];have h1:=HPUT.out.cells j u hj;rw [show 65 - (digB x :: L).length=64 - L.length from by rw [List.length_cons];omega] at h1;exact h1
    case qc3=>
     intro u hu;simp only [Lib.byteCells,List.mem_map] at hu;obtain ⟨z,-,rfl⟩:=hu;rfl
    case qc4=>unfold maxLen;omega
    case qc5=>omega
    case qc6=>rw [dig_at x (by omega),HKE.out];exact Nat.le_trans hBw HPUT.out.bel.size
    intro v' w2 hown hgrow hnil;have HR:Hid (FmtP2 B w n xs (baseL 8 u) (.returned (.tuple #[v',.string ⟨#[]⟩])) w2):=Lib.hid (by
     rw [dig_at x (by omega),HKE.out] at hgrow;refine ⟨v',rfl, ?_,(HPUT.out.bel.mono hBw).grown hgrow (Nat.le_trans hBw HPUT.out.bel.size) (fun k hk=>(HO.out.lt k hk).1)⟩;rw [←HL2.out,HLL.out];exact hown)
    clear hown hgrow hnil;go_wp2_with fail;go_ret2;exact HR.out
theorem appU (b:Nat) (hb:b=8∨b=10∨b=16) (B n u:Nat) (hu:u < 4294967296) (sv:Value) (xs:List Value) (w:World) (hown:w.ownsRow B 5 1 sv n xs) (hBw:B≤w.heap.size) (hlim:n+70≤140737488355328) (ht:TabW w):
 Calls Tryz.prog 78 #[sv,.int .u64 u,.int .i64 b] w (FmtP B w n xs (baseL b u)):=by
 rcases hb with rfl | rfl | rfl
 · have HC:=Lib.hid (bits8 B n u hu sv xs w hown hBw hlim ht);clear ht hown;go_enter Tryz.func78,Tryz.ntmps78;go_wp2_with fail;refine HC.out.mono ?_;rintro e w2 ⟨v',rfl,hown,hb⟩;have HR:Hid (FmtP B w n xs (baseL 8 u) (.returned v') w2):=Lib.hid ⟨v',rfl,hown,hb⟩;clear hown hb HC;go_wp2_with fail;go_ret;exact HR.out
 · refine (Tryz.internal_strconv_AppendUint_10 B n u (by omega) sv xs w hown hBw (by omega) ht.here.pow).mono ?_;rintro e w2 ⟨v',rfl,h1,h2,-⟩;rw [dec_base u (by omega)] at h1;exact ⟨v',rfl,h1,h2⟩
 · have HC:=Lib.hid (bits16 B n u hu sv xs w hown hBw hlim ht);clear ht hown;go_enter Tryz.func78,Tryz.ntmps78;go_wp2_with fail;refine HC.out.mono ?_;rintro e w2 ⟨v',rfl,hown,hb⟩;have HR:Hid (FmtP B w n xs (baseL 16 u) (.returned v') w2):=Lib.hid ⟨v',rfl,hown,hb⟩;clear hown hb HC;go_wp2_with fail;go_ret;exact HR.out
theorem appUp (b:Nat) (hb:b=8∨b=10∨b=16) (B n u:Nat) (hu:u < 4294967296) (sv:Value) (xs:List Value) (w:World) (hown:w.ownsRow B 5 1 sv n xs) (hBw:B≤w.heap.size) (hlim:n+70≤140737488355328) (ht:TabW w):
 Calls Tryz.prog 64 #[sv,.int .u64 u,.int .i64 b] w (FmtP B w n xs (baseL b u)):=by
 have HC:=Lib.hid (appU b hb B n u hu sv xs w hown hBw hlim ht);clear ht hown;go_enter Tryz.func64,Tryz.ntmps64;go_wp2_with fail;refine HC.out.mono ?_;rintro e w2 ⟨v',rfl,hown,hb⟩;have HR:Hid (FmtP B w n xs (baseL b u) (.returned v') w2):=Lib.hid ⟨v',rfl,hown,hb⟩;clear hown hb HC;go_wp2_with fail;go_ret;exact HR.out
theorem appI (B n:Nat) (v:Int) (hv: -9223372036854775808≤v∧v≤9223372036854775807) (sv:Value) (xs:List Value) (w:World) (hown:w.ownsRow B 5 1 sv n xs) (hBw:B≤w.heap.size) (hlim:n+70≤140737488355328) (ht:TabW w) (hB:∀w',Below B w w'→TabP w'):
 Calls Tryz.prog 63 #[sv,.int .i64 v,.int .i64 10] w (FmtP B w n xs (Lib.itoa v)):=by
 refine (Tryz.strconv_AppendInt_10 B n v hv.1 hv.2 sv xs w hown hBw (by omega) (fun w' h=>(hB w' h).pow)).mono ?_;rintro e w2 ⟨v',rfl,h1,h2⟩;exact ⟨v',rfl,h1,by first | exact h2 | exact h2.1⟩
end Go.Proofs.YtbhgdlfndamklaaGreatDoor
namespace Go.Proofs.YtbhgdlfndamklaaGreatDoor
open Go.ChangeShapes Go.WideShapes Go.ChangeAt Go.RowKit
def convB (c:Int):Bool:=decide (c=100∨c=105∨c=101∨c=117∨c=120∨c=111∨c=99)
theorem convertsC (c:Int) (w:World):Calls Tryz.prog 36 #[.int .u8 c] w fun e w'=>e= .returned (.bool (convB c))∧w=w':=by
 by_cases h:c=100∨c=105∨c=101∨c=117∨c=120∨c=111∨c=99
 · rcases h with rfl | rfl | rfl | rfl | rfl | rfl | rfl
   all_goals (
    go_enter Tryz.func36,Tryz.ntmps36;go_wp2_with fail;go_ret;exact ⟨rfl,rfl⟩)
 · have hv:convB c=false:=decide_eq_false h;rw [hv];have b1: (c == 100)=false:=by rw [beq_eq_false_iff_ne];omega
   have b2: (c == 105)=false:=by rw [beq_eq_false_iff_ne];omega
   have b3: (c == 101)=false:=by rw [beq_eq_false_iff_ne];omega
   have b4: (c == 117)=false:=by rw [beq_eq_false_iff_ne];omega
   have b5: (c == 120)=false:=by rw [beq_eq_false_iff_ne];omega
   have b6: (c == 111)=false:=by rw [beq_eq_false_iff_ne];omega
   have b7: (c == 99)=false:=by rw [beq_eq_false_iff_ne];omega
   clear h hv;go_enter Tryz.func36,Tryz.ntmps36;go_wp2_with fail;go_ret;exact ⟨rfl,rfl⟩
end Go.Proofs.YtbhgdlfndamklaaGreatDoor
