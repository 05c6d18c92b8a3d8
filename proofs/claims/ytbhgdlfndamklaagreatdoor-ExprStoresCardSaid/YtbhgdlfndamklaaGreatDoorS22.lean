/- A text with numbers in it: the program's answer. -/
import Derived.Test.YtbhgdlfndamklaaGreatDoorS21
import Derived.Lib.BufferRead
import Derived.Test.YtbhgdlfndamklaaGreatDoorS01
import Derived.Test.YtbhgdlfndamklaaGreatDoorS20
import Derived.Deep.CutBlock
set_option linter.unusedVariables false
set_option linter.unusedSimpArgs false
namespace Go.Proofs.YtbhgdlfndamklaaGreatDoor
open Go.ChangeShapes Go.WideShapes Go.ChangeAt Go.RowKit
theorem conv_cases {c:UInt8} (h:isConv c=true):c=100∨c=105∨c=101∨c=117∨c=120∨c=111∨c=99:=by
 unfold isConv at h;simp only [Bool.or_eq_true,decide_eq_true_eq] at h;rcases h with (((((h | h) | h) | h) | h) | h) | h <;> simp [h]
theorem low_mod (v:Int): ((low32 v:Nat):Int)=v % 4294967296:=by unfold low32;omega
theorem wrap_byte (v:Int):IntKind.u8.wrap v= ((UInt8.ofNat (v % 256).toNat).toNat:Int):=by
 have e:IntKind.u8.wrap v=v % 256:=by simp [IntKind.wrap,IntKind.signed,IntKind.bits]
 rw [e,UInt8.toNat_ofNat'];omega
set_option maxHeartbeats 400000 in
set_option maxRecDepth 100000 in
theorem conv_100 (B n:Nat) (v:Int) (hv: -9223372036854775808≤v∧v≤9223372036854775807) (sv:Value) (xs:List Value) (w:World) (hown:w.ownsRow B 5 1 sv n xs) (hBw:B≤w.heap.size) (hlim:n+70≤140737488355328) (ht:TabW w) (hB:∀w',Below B w w'→TabP w'):
 Calls Tryz.prog 37 #[sv,.int .u8 100,.int .i64 v] w (FmtP B w n xs (Lib.itoa v)):=by
 have HI:=Lib.hid (appI B n v hv sv xs w hown hBw hlim ht hB);clear ht hB hown;go_enter Tryz.func37,Tryz.ntmps37;go_wp2_with fail
 with_reducible refine HI.out.mono ?_
 rintro e w2 ⟨v',rfl,h1,h2⟩;have HR:Hid (FmtP B w n xs (Lib.itoa v) (.returned v') w2):=Lib.hid ⟨v',rfl,h1,h2⟩;clear h1 h2 HI;go_wp2_with fail;go_ret;exact HR.out
set_option maxHeartbeats 400000 in
set_option maxRecDepth 100000 in
theorem conv_105 (B n:Nat) (v:Int) (hv: -9223372036854775808≤v∧v≤9223372036854775807) (sv:Value) (xs:List Value) (w:World) (hown:w.ownsRow B 5 1 sv n xs) (hBw:B≤w.heap.size) (hlim:n+70≤140737488355328) (ht:TabW w) (hB:∀w',Below B w w'→TabP w'):
 Calls Tryz.prog 37 #[sv,.int .u8 105,.int .i64 v] w (FmtP B w n xs (Lib.itoa v)):=by
 have HI:=Lib.hid (appI B n v hv sv xs w hown hBw hlim ht hB);clear ht hB hown;go_enter Tryz.func37,Tryz.ntmps37;go_wp2_with fail
 with_reducible refine HI.out.mono ?_
 rintro e w2 ⟨v',rfl,h1,h2⟩;have HR:Hid (FmtP B w n xs (Lib.itoa v) (.returned v') w2):=Lib.hid ⟨v',rfl,h1,h2⟩;clear h1 h2 HI;go_wp2_with fail;go_ret;exact HR.out
set_option maxHeartbeats 400000 in
set_option maxRecDepth 100000 in
theorem conv_101 (B n:Nat) (v:Int) (hv: -9223372036854775808≤v∧v≤9223372036854775807) (sv:Value) (xs:List Value) (w:World) (hown:w.ownsRow B 5 1 sv n xs) (hBw:B≤w.heap.size) (hlim:n+70≤140737488355328) (ht:TabW w) (hB:∀w',Below B w w'→TabP w'):
 Calls Tryz.prog 37 #[sv,.int .u8 101,.int .i64 v] w (FmtP B w n xs (Lib.itoa v)):=by
 have HI:=Lib.hid (appI B n v hv sv xs w hown hBw hlim ht hB);clear ht hB hown;go_enter Tryz.func37,Tryz.ntmps37;go_wp2_with fail
 with_reducible refine HI.out.mono ?_
 rintro e w2 ⟨v',rfl,h1,h2⟩;have HR:Hid (FmtP B w n xs (Lib.itoa v) (.returned v') w2):=Lib.hid ⟨v',rfl,h1,h2⟩;clear h1 h2 HI;go_wp2_with fail;go_ret;exact HR.out
set_option maxHeartbeats 400000 in
set_option maxRecDepth 100000 in
theorem conv_117 (B n:Nat) (v:Int) (hv: -9223372036854775808≤v∧v≤9223372036854775807) (sv:Value) (xs:List Value) (w:World) (hown:w.ownsRow B 5 1 sv n xs) (hBw:B≤w.heap.size) (hlim:n+70≤140737488355328) (ht:TabW w) (hB:∀w',Below B w w'→TabP w'):
 Calls Tryz.prog 37 #[sv,.int .u8 117,.int .i64 v] w (FmtP B w n xs (baseL 10 (low32 v))):=by
 have HC:Hid (Calls Tryz.prog 64 #[sv,.int .u64 (v % 4294967296),.int .i64 10] w (FmtP B w n xs (baseL 10 (low32 v)))):=Lib.hid (by
  have h1:=appUp 10 (.inr (.inl rfl)) B n (low32 v) (low32_lt v) sv xs w hown hBw hlim ht;rw [low_mod] at h1;exact h1)
 clear ht hB hown;go_enter Tryz.func37,Tryz.ntmps37;go_wp2_with fail
 with_reducible refine HC.out.mono ?_
 rintro e w2 ⟨v',rfl,h1,h2⟩;have HR:Hid (FmtP B w n xs (baseL 10 (low32 v)) (.returned v') w2):=Lib.hid ⟨v',rfl,h1,h2⟩;clear h1 h2 HC;go_wp2_with fail;go_ret;exact HR.out
set_option maxHeartbeats 400000 in
set_option maxRecDepth 100000 in
theorem conv_120 (B n:Nat) (v:Int) (hv: -9223372036854775808≤v∧v≤9223372036854775807) (sv:Value) (xs:List Value) (w:World) (hown:w.ownsRow B 5 1 sv n xs) (hBw:B≤w.heap.size) (hlim:n+70≤140737488355328) (ht:TabW w) (hB:∀w',Below B w w'→TabP w'):
 Calls Tryz.prog 37 #[sv,.int .u8 120,.int .i64 v] w (FmtP B w n xs (baseL 16 (low32 v))):=by
 have HC:Hid (Calls Tryz.prog 64 #[sv,.int .u64 (v % 4294967296),.int .i64 16] w (FmtP B w n xs (baseL 16 (low32 v)))):=Lib.hid (by
  have h1:=appUp 16 (.inr (.inr rfl)) B n (low32 v) (low32_lt v) sv xs w hown hBw hlim ht;rw [low_mod] at h1;exact h1)
 clear ht hB hown;go_enter Tryz.func37,Tryz.ntmps37;go_wp2_with fail
 with_reducible refine HC.out.mono ?_
 rintro e w2 ⟨v',rfl,h1,h2⟩;have HR:Hid (FmtP B w n xs (baseL 16 (low32 v)) (.returned v') w2):=Lib.hid ⟨v',rfl,h1,h2⟩;clear h1 h2 HC;go_wp2_with fail;go_ret;exact HR.out
set_option maxHeartbeats 400000 in
set_option maxRecDepth 100000 in
theorem conv_111 (B n:Nat) (v:Int) (hv: -9223372036854775808≤v∧v≤9223372036854775807) (sv:Value) (xs:List Value) (w:World) (hown:w.ownsRow B 5 1 sv n xs) (hBw:B≤w.heap.size) (hlim:n+70≤140737488355328) (ht:TabW w) (hB:∀w',Below B w w'→TabP w'):
 Calls Tryz.prog 37 #[sv,.int .u8 111,.int .i64 v] w (FmtP B w n xs (baseL 8 (low32 v))):=by
 have HC:Hid (Calls Tryz.prog 64 #[sv,.int .u64 (v % 4294967296),.int .i64 8] w (FmtP B w n xs (baseL 8 (low32 v)))):=Lib.hid (by
  have h1:=appUp 8 (.inl rfl) B n (low32 v) (low32_lt v) sv xs w hown hBw hlim ht;rw [low_mod] at h1;exact h1)
 clear ht hB hown;go_enter Tryz.func37,Tryz.ntmps37;go_wp2_with fail
 with_reducible refine HC.out.mono ?_
 rintro e w2 ⟨v',rfl,h1,h2⟩;have HR:Hid (FmtP B w n xs (baseL 8 (low32 v)) (.returned v') w2):=Lib.hid ⟨v',rfl,h1,h2⟩;clear h1 h2 HC;go_wp2_with fail;go_ret;exact HR.out
set_option maxHeartbeats 400000 in
set_option maxRecDepth 100000 in
theorem conv_99 (B n:Nat) (v:Int) (hv: -9223372036854775808≤v∧v≤9223372036854775807) (sv:Value) (xs:List Value) (w:World) (hown:w.ownsRow B 5 1 sv n xs) (hBw:B≤w.heap.size) (hlim:n+70≤140737488355328) (ht:TabW w) (hB:∀w',Below B w w'→TabP w'):
 Calls Tryz.prog 37 #[sv,.int .u8 99,.int .i64 v] w (FmtP B w n xs (convF 99 v)):=by
 have HO:=Lib.hid hown;clear ht hB hown;have hb:=wrap_byte v;obtain ⟨z,hz⟩:∃z,UInt8.ofNat (v % 256).toNat=z:=⟨_,rfl⟩;rw [hz] at hb;have HV:Hid (convF 99 v= [z]):=Lib.hid (by unfold convF;rw [if_pos rfl,hz]);clear hz;obtain ⟨i0,hi,hz0,hz1,hz2⟩:=info_parts info_u8;have HI:=Lib.hid (And.intro hi (And.intro hz0 (And.intro hz1 hz2)));clear hi hz0 hz1 hz2;go_enter Tryz.func37,Tryz.ntmps37;go_wp2_with (at_builtin;refine wpList_append_own _ rfl _ _ 99 rfl B 5 i0 (.int .u8 0) 1 1 Tryz.underlying99 HI.out.1 HI.out.2.1 HI.out.2.2.1 HI.out.2.2.2 rfl (by decide) sv n xs rfl (HO.out.alloc _) ⟨w.heap.size,0,none⟩ 1 1 [Value.int .u8 (z.toNat:Int)] rfl rfl (by intro j u' hj;match j,hj with | 0,hj=>simp at hj;subst hj;simp [Addr.add]) (by intro u' hu';simp at hu';subst hu';rfl) (by unfold maxLen;omega) (by omega) (by simp;omega) ?_);intro v1 w1 hown1 hgrow _;have HR:Hid (FmtP B w n xs (convF 99 v) (.returned v1) w1):=Lib.hid (by
  rw [HV.out];exact ⟨v1,rfl,hown1,((Below.refl B w).alloc hBw _).grown hgrow (by simp;omega) (fun k hk=>(HO.out.lt k hk).1)⟩)
 clear hown1 hgrow;go_wp2_with fail;go_ret;exact HR.out
theorem convertedC (c:UInt8) (hc:isConv c=true) (B n:Nat) (v:Int) (hv: -9223372036854775808≤v∧v≤9223372036854775807) (sv:Value) (xs:List Value) (w:World) (hown:w.ownsRow B 5 1 sv n xs) (hBw:B≤w.heap.size) (hlim:n+70≤140737488355328) (ht:TabW w) (hB:∀w',Below B w w'→TabP w'):
 Calls Tryz.prog 37 #[sv,.int .u8 c.toNat,.int .i64 v] w (FmtP B w n xs (convF c v)):=by
 rcases conv_cases hc with rfl | rfl | rfl | rfl | rfl | rfl | rfl
 · exact conv_100 B n v hv sv xs w hown hBw hlim ht hB
 · exact conv_105 B n v hv sv xs w hown hBw hlim ht hB
 · exact conv_101 B n v hv sv xs w hown hBw hlim ht hB
 · exact conv_117 B n v hv sv xs w hown hBw hlim ht hB
 · exact conv_120 B n v hv sv xs w hown hBw hlim ht hB
 · exact conv_111 B n v hv sv xs w hown hBw hlim ht hB
 · exact conv_99 B n v hv sv xs w hown hBw hlim ht hB
theorem printF_plain {c d:UInt8} {r:List UInt8} {a:List Int} (h:c≠37):printF (c :: d :: r) a=c :: printF (d :: r) a:=by cases a <;> (rw [printF];rw [if_pos h])
theorem printF_pc {r:List UInt8} {a:List Int}:printF (37 :: 37 :: r) a=37 :: printF r a:=by cases a <;> (rw [printF];rw [if_neg (by simp),if_pos rfl])
theorem printF_no {d:UInt8} {r:List UInt8} {a:List Int} (h:d≠37) (h2:isConv d=false):printF (37 :: d :: r) a=37 :: d :: printF r a:=by cases a <;> (rw [printF];rw [if_neg (by simp),if_neg h,if_pos h2])
theorem printF_none {d:UInt8} {r:List UInt8} (h:d≠37) (h2:isConv d=true):printF (37 :: d :: r) []=printF r []:=by rw [printF];rw [if_neg (by simp),if_neg h,if_neg (by simp [h2])]
theorem printF_some {d:UInt8} {r:List UInt8} {v:Int} {a:List Int} (h:d≠37) (h2:isConv d=true):printF (37 :: d :: r) (v :: a)=convF d v ++ printF r a:=by rw [printF];rw [if_neg (by simp),if_neg h,if_neg (by simp [h2])]
theorem drop_at {s:ByteArray} {i:Nat} (h:i < s.size):s.data.toList.drop i=s[i] :: s.data.toList.drop (i+1):=by
 rw [List.drop_eq_getElem_cons (by simpa using h)];rfl
theorem convB_is (d:UInt8):convB (d.toNat:Int)=isConv d:=by
 rw [Bool.eq_iff_iff];unfold convB isConv;simp only [decide_eq_true_eq,Bool.or_eq_true];have key:∀k:UInt8,(d=k)↔ ((d.toNat:Int)= (k.toNat:Int)):=fun k=>by
  constructor
  · rintro rfl;rfl
  · intro h;exact UInt8.toNat_inj.1 (by omega)
 rw [key 100,key 105,key 101,key 117,key 120,key 111,key 99];constructor
 · rintro (h | h | h | h | h | h | h) <;> simp [h]
 · rintro ((((((h | h) | h) | h) | h) | h) | h) <;> simp [h]
def inI (v:Int):Prop:= -9223372036854775808≤v∧v≤9223372036854775807
structure PrJ (w0:World) (s:ByteArray) (args:List Int) (i:Nat) (l:List UInt8) (rest:List Int) (ov:Value) (W:World):Prop where
 eq:l ++ printF (s.data.toList.drop i) rest=printF s.data.toList args
 own:W.ownsRow w0.heap.size 5 1 ov l.length (Lib.byteCells l)
 inl:∀v ∈ rest,inI v
 bel:Below w0.heap.size w0 W
theorem byte_one (l:List UInt8):∀u ∈ Lib.byteCells l,u.oneCell'=true:=by
 intro u hu;simp only [Lib.byteCells,List.mem_map] at hu;obtain ⟨z,-,rfl⟩:=hu;rfl
theorem conv_own {w:World} {B:Nat} {v:Value} {l:List UInt8} (h:w.ownsRow B 5 1 v l.length (Lib.byteCells l)): (convert 99 9 v).run Tryz.prog w= .ok (.string ⟨l.toArray⟩) w:=by
 rcases h.2 with ⟨rfl,hl⟩ | ⟨g,cap,cur,rfl,hb,hg,hc,hm,hs,ht⟩
 · have :l= []:=List.eq_nil_of_length_eq_zero hl;subst this;exact Lib.run_convert_nil_bytes w _ _ 5 0 Tryz.underlying99 Tryz.underlying5 Tryz.underlying9
 · refine run_convert_bytes_back w _ _ 5 _ cap l Tryz.underlying99 Tryz.underlying5 Tryz.underlying9 (fun j hj=> ?_);have h2:=h.cells (g:=g) rfl j (.int .u8 (l[j].toNat:Int)) (by simp [Lib.byteCells,hj]);exact h2
theorem PrJ.put {w0 W W1:World} {s:ByteArray} {args rest:List Int} {i i':Nat} {l m:List UInt8} {ov ov':Value} {o:Obj} (h:PrJ w0 s args i l rest ov W) (he:printF (s.data.toList.drop i) rest=m ++ printF (s.data.toList.drop i') rest) (hg: (W.alloc o).grownBy W1 ov.ownBlock) (ho:W1.ownsRow w0.heap.size 5 1 ov' (l.length+m.length) (Lib.byteCells l ++ Lib.byteCells m)):PrJ w0 s args i' (l ++ m) rest ov' W1:=by
 refine ⟨by rw [List.append_assoc,←he];exact h.eq,by rw [List.length_append,cells_app];exact ho,h.inl,(h.bel.alloc h.bel.size _).grown hg (by simp;have:=h.bel.size;omega) (fun k hk=>(h.own.lt k hk).1)⟩
theorem PrJ.on {w0 W W1:World} {ov:Value} {B n:Nat} {xs:List Value} {o:Obj} (h:Below w0.heap.size w0 W) (hown:W.ownsRow w0.heap.size 5 1 ov n xs) (hg: (W.alloc o).grownBy W1 ov.ownBlock):Below w0.heap.size W W1:=
 ((Below.refl _ _).alloc h.size _).grown hg (by simp;have:=h.size;omega) (fun k hk=>(hown.lt k hk).1)
section
variable {s:ByteArray} {i:Nat} {rest:List Int}
theorem pf_plain (h:i < s.size) (hp:s[i]≠37):printF (s.data.toList.drop i) rest= [s[i]] ++ printF (s.data.toList.drop (i+1)) rest:=by
 rw [drop_at h];cases hd:s.data.toList.drop (i+1) with
 | nil=>simp [printF]
 | cons d r=>rw [printF_plain hp];rfl
theorem pf_last (h:i < s.size) (hp:i+1=s.size):printF (s.data.toList.drop i) rest= [s[i]] ++ printF (s.data.toList.drop (i+1)) rest:=by
 rw [drop_at h,List.drop_eq_nil_of_le (i:=i+1) (by simp;omega)];simp [printF]
theorem drop_two (h:i+1 < s.size) (hp:s[i]=37):s.data.toList.drop i=37 :: s[i+1] :: s.data.toList.drop (i+2):=by
 rw [drop_at (by omega),drop_at h,hp]
theorem pf_pc (h:i+1 < s.size) (hp:s[i]=37) (hd:s[i+1]=37):printF (s.data.toList.drop i) rest= [37] ++ printF (s.data.toList.drop (i+2)) rest:=by
 rw [drop_two h hp,hd,printF_pc];rfl
theorem pf_no (h:i+1 < s.size) (hp:s[i]=37) (hd:s[i+1]≠37) (hn:isConv s[i+1]=false):printF (s.data.toList.drop i) rest= [37,s[i+1]] ++ printF (s.data.toList.drop (i+2)) rest:=by
 rw [drop_two h hp,printF_no hd hn];rfl
theorem pf_none (h:i+1 < s.size) (hp:s[i]=37) (hd:s[i+1]≠37) (hn:isConv s[i+1]=true):printF (s.data.toList.drop i) []=printF (s.data.toList.drop (i+2)) []:=by
 rw [drop_two h hp,printF_none hd hn]
theorem pf_some {v:Int} {a:List Int} (h:i+1 < s.size) (hp:s[i]=37) (hd:s[i+1]≠37) (hn:isConv s[i+1]=true):printF (s.data.toList.drop i) (v :: a)=convF s[i+1] v ++ printF (s.data.toList.drop (i+2)) a:=by
 rw [drop_two h hp,printF_some hd hn]
end
theorem one_at (W:World) (c:Value):∀j u',[c][j]? =some u'→ (W.alloc (.cells #[c] 5)).cell? ((⟨W.heap.size,0,none⟩:Addr).add j)=some u':=by
 intro j u' hj
 match j,hj with
 | 0,hj=>simp at hj;subst hj;exact (cell_of_row _ _ 0 _ _ _ (heap_alloc_new W _)).trans rfl
 | j+1,hj=>simp at hj
theorem two_at (W:World) (c d:Value):∀j u',[c,d][j]? =some u'→ (W.alloc (.cells #[c,d] 5)).cell? ((⟨W.heap.size,0,none⟩:Addr).add j)=some u':=by
 intro j u' hj
 match j,hj with
 | 0,hj=>simp at hj;subst hj;exact (cell_of_row _ _ 0 _ _ _ (heap_alloc_new W _)).trans rfl
 | 1,hj=>simp at hj;subst hj;exact (cell_of_row _ _ 1 _ _ _ (heap_alloc_new W _)).trans rfl
 | j+2,hj=>simp at hj
theorem ne37 {c:UInt8} (h:c≠37): ((c.toNat:Int) != 37)=true∧ ((c.toNat:Int) == 37)=false:=by
 have h2: (c.toNat:Int)≠37:=fun e=>h (UInt8.toNat_inj.1 (by show c.toNat=37;omega))
 exact ⟨by rw [bne_iff_ne];exact h2,by rw [beq_eq_false_iff_ne];exact h2⟩
theorem eq37 {c:UInt8} (h:c=37): ((c.toNat:Int) != 37)=false∧ ((c.toNat:Int) == 37)=true:=by
 subst h;exact ⟨rfl,rfl⟩
set_option maxHeartbeats 4000000 in
set_option maxRecDepth 100000 in
theorem printC {B:Nat} (s:ByteArray) (args:List Int) (o:Option Addr) (c:Nat) (w:World) (hB:B≤w.heap.size) (hr:Row B o 1 (intAt w) args) (hc:args.length≤c) (hin:∀v ∈ args,inI v) (hs:s.size≤1099511627776) (ht:TabW w):
 Calls Tryz.prog 18 #[.string s,.slice o args.length c] w fun e w'=>e= .returned (.string ⟨(printF s.data.toList args).toArray⟩)∧Below w.heap.size w w':=by
 have HT:=Lib.hid ht;have HBB:=Lib.hid hB;have HR0:=Lib.hid hr;have HJ0:Hid (PrJ w s args 0 [] args (.slice none 0 0) w):=Lib.hid ⟨rfl,World.ownsRow_nil _ _ _ _,hin,Below.refl _ _⟩;obtain ⟨i0,hi,hz0,hz1,hz2⟩:=info_parts info_u8;have HI:=Lib.hid (And.intro hi (And.intro hz0 (And.intro hz1 hz2)));have HC0:=Lib.hid hc;clear hi hz0 hz1 hz2 ht hr hin hc;go_enter Tryz.func18,Tryz.ntmps18;go_wp2_with fail
 go_loopw [1,5,6] (fun av ov iv wr=>∃ (i:Nat) (l:List UInt8) (rest:List Int) (ro:Option Addr) (rc:Nat),av= .slice ro rest.length rc∧iv= .int .i64 i∧i≤s.size∧l.length≤65*i∧rest.length≤rc∧Hid (Row B ro 1 (intAt wr) rest)∧Hid (PrJ w s args i l rest ov wr)) (fun _ _ i _=>s.size - (intOf i).toNat)
 case atStart=>exact ⟨0,[],args,o,c,rfl,rfl,by omega,by simp,HC0.out,HR0,HJ0⟩
 case round=>
  clear HJ0 HR0 HC0;obtain ⟨i,l,rest,ro,rc,rfl,rfl,hi,hll,hrc,HRR,HJ⟩:=hrel;have hi0: (0:Int)≤i:=by omega
  by_cases hlt:i < s.size
  · have hlti: (i:Int) < s.size:=by omega
    have hdr:=drop_at hlt;by_cases hpc:s[i]=37
    · obtain ⟨n1,n2⟩:=eq37 hpc;have HPC:=Lib.hid hpc;clear hpc;by_cases hend:i+1=s.size
      · have he: ((i:Int)+1 == (s.size:Int))=true:=by rw [beq_iff_eq];omega
        go_wp2_with (at_builtin;refine wpList_append_own _ rfl _ _ 99 rfl w.heap.size 5 i0 (.int .u8 0) 1 1 Tryz.underlying99 HI.out.1 HI.out.2.1 HI.out.2.2.1 HI.out.2.2.2 rfl (by decide) u5 l.length (Lib.byteCells l) rfl (HJ.out.own.alloc _) ⟨wr.heap.size,0,none⟩ 1 1 (Lib.byteCells [s[i]]) rfl rfl (one_at _ _) (byte_one [s[i]]) (by unfold maxLen;omega) (by omega) (by simp;have:=HJ.out.bel.size;omega) ?_);intro v1 w1 hown1 hgrow _;have HB1:Hid (Below w.heap.size wr w1):=Lib.hid (PrJ.on (B:=B) HJ.out.bel HJ.out.own hgrow);have HJ1:Hid (PrJ w s args (i+1) (l ++ [s[i]]) rest v1 w1):=Lib.hid (HJ.out.put (pf_last hlt hend) hgrow hown1);have HR1:Hid (Row B ro 1 (intAt w1) rest):=Lib.hid (HRR.out.mono fun _ _ _ hg=>intAt.below (HB1.out.mono HBB.out) hg);clear hown1 hgrow;go_wp2_with fail;go_roundw;case rel=>exact ⟨i+1,l ++ [s[i]],rest,ro,rc,rfl,by go_num,by omega,by simp;omega,hrc,HR1,HJ1⟩
        case measure=>simp [intOf];omega
      · have he: ((i:Int)+1 == (s.size:Int))=false:=by rw [beq_eq_false_iff_ne];omega
        have hi1:i+1 < s.size:=by omega
        have hi1i: (i:Int)+1 < s.size:=by omega
        have hi10: (0:Int)≤ (i:Int)+1:=by omega
        have hi1n: ((i:Int)+1).toNat=i+1:=by omega
        obtain ⟨d,hd⟩:∃d,s[i+1]=d:=⟨_,rfl⟩;by_cases hd37:d=37
        · obtain ⟨m1,m2⟩:=eq37 hd37;have HD:=Lib.hid (hd.trans hd37);clear hd37;go_wp2_with (at_builtin;refine wpList_append_own _ rfl _ _ 99 rfl w.heap.size 5 i0 (.int .u8 0) 1 1 Tryz.underlying99 HI.out.1 HI.out.2.1 HI.out.2.2.1 HI.out.2.2.2 rfl (by decide) u5 l.length (Lib.byteCells l) rfl (HJ.out.own.alloc _) ⟨wr.heap.size,0,none⟩ 1 1 (Lib.byteCells [d]) rfl rfl (one_at _ _) (byte_one [d]) (by unfold maxLen;omega) (by omega) (by simp;have:=HJ.out.bel.size;omega) ?_);intro v1 w1 hown1 hgrow _;have HB1:Hid (Below w.heap.size wr w1):=Lib.hid (PrJ.on (B:=B) HJ.out.bel HJ.out.own hgrow);have HJ1:Hid (PrJ w s args (i+2) (l ++ [d]) rest v1 w1):=Lib.hid (HJ.out.put (by rw [←hd,HD.out];exact pf_pc hi1 HPC.out HD.out) hgrow hown1);have HR1:Hid (Row B ro 1 (intAt w1) rest):=Lib.hid (HRR.out.mono fun _ _ _ hg=>intAt.below (HB1.out.mono HBB.out) hg);clear hown1 hgrow;go_wp2_with fail;go_roundw;case rel=>exact ⟨i+2,l ++ [d],rest,ro,rc,rfl,by go_num,by omega,by simp;omega,hrc,HR1,HJ1⟩
          case measure=>simp [intOf];omega
        · obtain ⟨m1,m2⟩:=ne37 hd37;have HD:=Lib.hid (show s[i+1]≠37 by rw [hd];exact hd37);clear hd37;by_cases hcv:isConv d=true
          · have HCV:=Lib.hid (show isConv s[i+1]=true by rw [hd];exact hcv);have hcb:convB (d.toNat:Int)=true:=by rw [convB_is];exact hcv
            have HCB:=Lib.hid hcb;clear hcv hcb;go_wp2_with fail;refine (convertsC _ _).mono ?_;rintro e w' ⟨rfl,rfl⟩;rw [HCB.out];cases rest with
            | nil=>
              have HJ1:Hid (PrJ w s args (i+2) l [] u5 wr):=Lib.hid ⟨by rw [←pf_none hi1 HPC.out HD.out HCV.out];exact HJ.out.eq,HJ.out.own,HJ.out.inl,HJ.out.bel⟩;go_wp2_with fail;go_roundw;case rel=>exact ⟨i+2,l,[],ro,rc,rfl,by go_num,by omega,by omega,hrc,HRR,HJ1⟩
              case measure=>simp [intOf];omega
            | cons v a=>
              obtain ⟨g,off,hro,hg,hv⟩:=HRR.out.cell (i:=0) (by simp);subst hro;have hv0:wr.cell? ⟨g,off,none⟩=some (.int .i64 v):=by
               unfold intAt at hv;rw [show off+0*1=off from by omega] at hv;exact hv
              have hin:=HJ.out.inl v (by simp);have HCC:=Lib.hid (convertedC d (by rw [←hd];exact HCV.out) w.heap.size l.length v hin u5 (Lib.byteCells l) wr HJ.out.own HJ.out.bel.size (by omega) (HT.out.below HJ.out.bel) (fun w' h=>HT.out w' (HJ.out.bel.trans h)));have hln:=conv_len (c:=d) hin;have hl1: (0:Int) < ((v :: a).length:Int):=by simp
              have hl2:0 < (v :: a).length:=by simp
              simp only [List.length_cons] at hrc;clear hv hin;go_wp2_with fail;refine HCC.out.mono ?_;rintro e w2 ⟨v1,rfl,hown1,hb1⟩;have HJ1:Hid (PrJ w s args (i+2) (l ++ convF d v) a v1 w2):=Lib.hid ⟨by
               have h1:=HJ.out.eq;rw [pf_some hi1 HPC.out HD.out HCV.out,hd] at h1;rw [List.append_assoc];exact h1,by rw [List.length_append,cells_app];exact hown1,fun x hx=>HJ.out.inl x (List.mem_cons_of_mem _ hx),HJ.out.bel.trans hb1⟩
              have HB1:=Lib.hid hb1;clear hown1 hb1 HCC;have HRow:Hid (∀o',(a.length=0∨o'=some ⟨g,off+1,none⟩)→Row B o' 1 (intAt w2) a):=Lib.hid (fun o' ho'=>by
               refine ⟨by have:=HRR.out.1;simp at this;omega, ?_⟩;rcases ho' with h0 | rfl
               · exact .inl h0
               · refine .inr ⟨g,off+1,rfl,hg,fun j hj=> ?_⟩;rcases HRR.out.2 with h0 | ⟨g2,off2,e2,hg2,hi2⟩
                 · simp at h0
                 · injection e2 with e2
                   injection e2 with e2 e3
                   subst e2 e3;have h3:=hi2 (j+1) (by simp;omega);have h4:=intAt.below (HB1.out.mono HBB.out) hg2 h3;rw [show off+ (j+1)*1=off+1+j*1 from by omega] at h4;exact h4)
              by_cases hrc1:rc=1
              · have HRR1:=Lib.hid (HRow.out (some ⟨g,off,none⟩) (.inl (by omega)));have ha0:a.length=0:=by omega
                subst hrc1;go_wp2_with fail;go_roundw;case rel=>exact ⟨i+2,l ++ convF d v,a,some ⟨g,off,none⟩,0,by rw [ha0],by go_num,by omega,by simp;omega,by omega,HRR1,HJ1⟩
                case measure=>simp [intOf];omega
              · have HRR1:=Lib.hid (HRow.out (some ⟨g,off+1,none⟩) (.inr rfl));go_wp2_with fail;go_roundw;case rel=>exact ⟨i+2,l ++ convF d v,a,some ⟨g,off+1,none⟩,rc - 1,rfl,by go_num,by omega,by simp;omega,by omega,HRR1,HJ1⟩
                case measure=>simp [intOf];omega
          · have hcv':isConv d=false:=by simpa using hcv
            have HCV:=Lib.hid (show isConv s[i+1]=false by rw [hd];exact hcv');have HCB:Hid (convB (d.toNat:Int)=false):=Lib.hid (by rw [convB_is];exact hcv');clear hcv hcv';go_wp2_with fail;refine (convertsC _ _).mono ?_;rintro e w' ⟨rfl,rfl⟩;rw [HCB.out];go_wp2_with (at_builtin;refine wpList_append_own _ rfl _ _ 99 rfl w.heap.size 5 i0 (.int .u8 0) 1 1 Tryz.underlying99 HI.out.1 HI.out.2.1 HI.out.2.2.1 HI.out.2.2.2 rfl (by decide) u5 l.length (Lib.byteCells l) rfl (HJ.out.own.alloc _) ⟨wr.heap.size,0,none⟩ 2 2 (Lib.byteCells [37,d]) rfl rfl (two_at _ _ _) (byte_one [37,d]) (by unfold maxLen;omega) (by omega) (by simp;have:=HJ.out.bel.size;omega) ?_);intro v1 w1 hown1 hgrow _;have HB1:Hid (Below w.heap.size wr w1):=Lib.hid (PrJ.on (B:=B) HJ.out.bel HJ.out.own hgrow);have HJ1:Hid (PrJ w s args (i+2) (l ++ [37,d]) rest v1 w1):=Lib.hid (HJ.out.put (by rw [←hd];exact pf_no hi1 HPC.out HD.out HCV.out) hgrow hown1);have HR1:Hid (Row B ro 1 (intAt w1) rest):=Lib.hid (HRR.out.mono fun _ _ _ hg=>intAt.below (HB1.out.mono HBB.out) hg);clear hown1 hgrow;go_wp2_with fail;go_roundw;case rel=>exact ⟨i+2,l ++ [37,d],rest,ro,rc,rfl,by go_num,by omega,by simp;omega,hrc,HR1,HJ1⟩
            case measure=>simp [intOf];omega
    · obtain ⟨n1,n2⟩:=ne37 hpc;have HPC:=Lib.hid hpc;clear hpc;go_wp2_with (at_builtin;refine wpList_append_own _ rfl _ _ 99 rfl w.heap.size 5 i0 (.int .u8 0) 1 1 Tryz.underlying99 HI.out.1 HI.out.2.1 HI.out.2.2.1 HI.out.2.2.2 rfl (by decide) u5 l.length (Lib.byteCells l) rfl (HJ.out.own.alloc _) ⟨wr.heap.size,0,none⟩ 1 1 (Lib.byteCells [s[i]]) rfl rfl (one_at _ _) (byte_one [s[i]]) (by unfold maxLen;omega) (by omega) (by simp;have:=HJ.out.bel.size;omega) ?_);intro v1 w1 hown1 hgrow _;have HB1:Hid (Below w.heap.size wr w1):=Lib.hid (PrJ.on (B:=B) HJ.out.bel HJ.out.own hgrow);have HJ1:Hid (PrJ w s args (i+1) (l ++ [s[i]]) rest v1 w1):=Lib.hid (HJ.out.put (pf_plain hlt HPC.out) hgrow hown1);have HR1:Hid (Row B ro 1 (intAt w1) rest):=Lib.hid (HRR.out.mono fun _ _ _ hg=>intAt.below (HB1.out.mono HBB.out) hg);clear hown1 hgrow;go_wp2_with fail;go_roundw;case rel=>exact ⟨i+1,l ++ [s[i]],rest,ro,rc,rfl,by go_num,by omega,by simp;omega,hrc,HR1,HJ1⟩
      case measure=>simp [intOf];omega
  · have hlti:¬ (i:Int) < s.size:=by omega
    have hcv:=conv_own HJ.out.own;have HE:Hid (l=printF s.data.toList args):=Lib.hid (by
     have h1:=HJ.out.eq;rw [List.drop_eq_nil_of_le (by simp;omega)] at h1;simpa [printF] using h1)
    go_wp2_with fail;go_ret;exact ⟨by rw [HE.out];rfl,HJ.out.bel⟩
end Go.Proofs.YtbhgdlfndamklaaGreatDoor
namespace Go.Proofs.YtbhgdlfndamklaaGreatDoor
open Go.ChangeShapes Go.WideShapes Go.ChangeAt Go.RowKit
def allocs:World→List Obj→World
 | w,[]=>w
 | w,o :: r=>allocs (w.alloc o) r
theorem allocs_below:∀ (l:List Obj) (w:World) (B:Nat),B≤w.heap.size→Below B w (allocs w l)
 | [],w,B,h=>Below.refl _ _
 | o :: r,w,B,h=>((Below.refl B w).alloc h o).trans (allocs_below r (w.alloc o) B (by simp;omega))
theorem allocs_at:∀ {l:List Obj} {w:World} {k:Nat} {o:Obj},l[k]? =some o→ (allocs w l).heap[w.heap.size+k]? =some o
 | [],w,k,o,h=>by simp at h
 | x :: r,w,0,o,h=>by
   simp only [List.getElem?_cons_zero,Option.some.injEq] at h;subst h;refine ((allocs_below r (w.alloc x) (w.alloc x).heap.size (Nat.le_refl _)).block _ (by simp)).trans ?_;exact heap_alloc_new w x
 | x :: r,w,k+1,o,h=>by
   simp only [List.getElem?_cons_succ] at h;have h2:=allocs_at (w:=w.alloc x) h;rw [World.size_alloc] at h2;rw [show w.heap.size+ (k+1)=w.heap.size+1+k from by omega];exact h2
theorem row_one1 {α:Type} {B:Nat} {g:Nat} {k:Nat} {R:Nat→Nat→α→Prop} {x:α} (hg:g < B) (h:R g 0 x):Row B (some ⟨g,0,none⟩) k R [x]:=
 ⟨by simp,.inr ⟨g,0,rfl,hg,fun i hi=>by
   obtain rfl:i=0:=by simp at hi;omega
   simpa using h⟩⟩
end Go.Proofs.YtbhgdlfndamklaaGreatDoor
namespace Go.Proofs.YtbhgdlfndamklaaGreatDoor
open Go.ChangeShapes Go.WideShapes Go.ChangeAt Go.RowKit
def exV (n:Int):Value:= .agg #[.int .i64 1,.int .i64 n,.int .i64 (-1),.int .i64 (-1),.int .i64 (-1),.int .i64 0,.int .i64 0,.int .i64 0,.int .i64 0,.slice none 0 0,.slice none 0 0,.slice none 0 0]
def exO (n:Int):Obj:= .cells #[.int .i64 1,.int .i64 n,.int .i64 (-1),.int .i64 (-1),.int .i64 (-1),.int .i64 0,.int .i64 0,.int .i64 0,.int .i64 0,.slice none 0 0,.slice none 0 0,.slice none 0 0] 73
set_option maxRecDepth 100000 in
theorem numC (n:Int) (w:World):Calls Tryz.prog 17 #[.int .i64 n] w fun e w'=>e= .returned (exV n)∧w'=w.alloc (exO n):=by
 go_enter Tryz.func17,Tryz.ntmps17;go_wp2;exact bodyPost_ret (v:=exV n) (by simp [exV,results,Tryz.results17,go_sem]) rfl ⟨rfl,rfl⟩
def shC0:Array Value:=#[.int .i64 8,.bool false,.int .i64 8,.bool false,.int .i64 8,.bool false]
def shC1:Array Value:=#[.int .i64 4,.int .i64 5,.int .i64 6]
def shC2:Array Value:=#[.slice none 0 0,.slice none 0 0,.bool false,.bool false,.bool false,.bool false,.bool false]
def shC3 (p2:Nat):Array Value:=#[.string ⟨#[]⟩,.int .i64 0,.slice none 0 0,.slice none 0 0,.slice (some ⟨p2,0,none⟩) 1 1,.int .i64 0,.int .i64 0,.int .i64 0,.int .i64 1,.int .i64 (-1)]
def shC6:Array Value:=#[.int .i64 0,.int .i64 3,.int .i64 1]
def shC11:Array Value:=#[.int .i64 7,.int .i64 3,.int .i64 1]
def shC12 (p6:Nat) (p11:Nat):Array Value:=#[.int .i64 1,.int .i64 2,.int .i64 (-1),.int .i64 (-1),.int .i64 (-1),.int .i64 0,.int .i64 0,.int .i64 0,.int .i64 0,.slice none 0 0,.slice none 0 0,.slice none 0 0,.int .i64 2,.int .i64 0,.int .i64 (-1),.int .i64 (-1),.int .i64 (-1),.int .i64 0,.int .i64 0,.int .i64 (-1),.int .i64 (-1),.slice (some ⟨p6,0,none⟩) 1 1,.slice none 0 0,.slice none 0 0,.int .i64 1,.int .i64 7,.int .i64 (-1),.int .i64 (-1),.int .i64 (-1),.int .i64 0,.int .i64 0,.int .i64 0,.int .i64 0,.slice none 0 0,.slice none 0 0,.slice none 0 0,.int .i64 1,.int .i64 0,.int .i64 (-1),.int .i64 (-1),.int .i64 (-1),.int .i64 0,.int .i64 0,.int .i64 0,.int .i64 0,.slice none 0 0,.slice none 0 0,.slice none 0 0,.int .i64 7,.int .i64 0,.int .i64 2,.int .i64 3,.int .i64 (-1),.int .i64 0,.int .i64 0,.int .i64 0,.int .i64 0,.slice none 0 0,.slice none 0 0,.slice none 0 0,.int .i64 1,.int .i64 0,.int .i64 (-1),.int .i64 (-1),.int .i64 (-1),.int .i64 0,.int .i64 0,.int .i64 0,.int .i64 0,.slice none 0 0,.slice none 0 0,.slice none 0 0,.int .i64 22,.int .i64 0,.int .i64 5,.int .i64 4,.int .i64 (-1),.int .i64 0,.int .i64 0,.int .i64 0,.int .i64 0,.slice none 0 0,.slice none 0 0,.slice none 0 0,.int .i64 1,.int .i64 3,.int .i64 (-1),.int .i64 (-1),.int .i64 (-1),.int .i64 0,.int .i64 0,.int .i64 0,.int .i64 0,.slice none 0 0,.slice none 0 0,.slice none 0 0,.int .i64 2,.int .i64 0,.int .i64 (-1),.int .i64 (-1),.int .i64 (-1),.int .i64 0,.int .i64 0,.int .i64 (-1),.int .i64 (-1),.slice (some ⟨p11,0,none⟩) 1 1,.slice none 0 0,.slice none 0 0]
def shC13:Array Value:=#[.int .i64 4,.int .i64 5,.int .i64 6]
def shC4 (p0 p1 p3:Nat) (ev:Value):Array Value:=#[.slice (some ⟨p0,0,none⟩) 3 3,.slice (some ⟨p1,0,none⟩) 3 3,.slice none 0 0,.slice none 0 0,.slice (some ⟨p3,0,none⟩) 1 1,.int .i64 (-1),ev]
def shH (p0 p1 p3 p12:Nat):MH:=⟨some ⟨p0,0,none⟩,3,some ⟨p1,0,none⟩,3,none,0,none,0,some ⟨p3,0,none⟩,1,some ⟨p12,0,none⟩,9⟩
def shHS (p13:Nat):SH:=⟨some ⟨p13,0,none⟩,3,none,0,none,0⟩
set_option maxRecDepth 100000 in
theorem sh_ed {W:World} {p0 p1 p2 p3 p6 p11 p12 p13:Nat} (h0:W.heap[p0]? =some (.cells shC0 61 (0,0))) (h1:W.heap[p1]? =some (.cells shC1 2 (0,0))) (h2:W.heap[p2]? =some (.cells shC2 65 (0,0))) (h3:W.heap[p3]? =some (.cells (shC3 p2) 68 (0,0))) (h6:W.heap[p6]? =some (.cells shC6 76 (0,0))) (h11:W.heap[p11]? =some (.cells shC11 76 (0,0))) (h12:W.heap[p12]? =some (.cells (shC12 p6 p11) 73 (0,0))) (h13:W.heap[p13]? =some (.cells shC13 2 (0,0))):ED W.heap.size W (shH p0 p1 p3 p12) (shHS p13) none shownE:=by
 have c0:∀ (i:Nat) (v:Value),shC0[i]? =some v→W.cell? ⟨p0,i,none⟩=some v:=fun i v hv=>(cell_of_row _ _ i _ _ _ h0).trans hv
 have l0:=lt_of_block h0;have c1:∀ (i:Nat) (v:Value),shC1[i]? =some v→W.cell? ⟨p1,i,none⟩=some v:=fun i v hv=>(cell_of_row _ _ i _ _ _ h1).trans hv
 have l1:=lt_of_block h1;have c2:∀ (i:Nat) (v:Value),shC2[i]? =some v→W.cell? ⟨p2,i,none⟩=some v:=fun i v hv=>(cell_of_row _ _ i _ _ _ h2).trans hv
 have l2:=lt_of_block h2;have c3:∀ (i:Nat) (v:Value),(shC3 p2)[i]? =some v→W.cell? ⟨p3,i,none⟩=some v:=fun i v hv=>(cell_of_row _ _ i _ _ _ h3).trans hv
 have l3:=lt_of_block h3;have c6:∀ (i:Nat) (v:Value),shC6[i]? =some v→W.cell? ⟨p6,i,none⟩=some v:=fun i v hv=>(cell_of_row _ _ i _ _ _ h6).trans hv
 have l6:=lt_of_block h6;have c11:∀ (i:Nat) (v:Value),shC11[i]? =some v→W.cell? ⟨p11,i,none⟩=some v:=fun i v hv=>(cell_of_row _ _ i _ _ _ h11).trans hv
 have l11:=lt_of_block h11;have c12:∀ (i:Nat) (v:Value),(shC12 p6 p11)[i]? =some v→W.cell? ⟨p12,i,none⟩=some v:=fun i v hv=>(cell_of_row _ _ i _ _ _ h12).trans hv
 have l12:=lt_of_block h12;have c13:∀ (i:Nat) (v:Value),shC13[i]? =some v→W.cell? ⟨p13,i,none⟩=some v:=fun i v hv=>(cell_of_row _ _ i _ _ _ h13).trans hv
 have l13:=lt_of_block h13;have nilS:∀ {α:Type} (g a k:Nat) (R:Nat→Nat→α→Prop),W.cell? ⟨g,a,none⟩=some (.slice none 0 0)→Sli W.heap.size W g a k R []:=fun g a k R hc=>⟨none,0,hc,Row.nil _ _ _ _⟩
 have d1:Sli W.heap.size W p12 (12+9) 3 (dimAt W) [⟨0,3,1⟩]:=⟨some ⟨p6,0,none⟩,1,c12 _ _ rfl,row_one1 l6 ⟨c6 _ _ rfl,c6 _ _ rfl,c6 _ _ rfl⟩⟩;have d2:Sli W.heap.size W p12 (96+9) 3 (dimAt W) [⟨7,3,1⟩]:=⟨some ⟨p11,0,none⟩,1,c12 _ _ rfl,row_one1 l11 ⟨c11 _ _ rfl,c11 _ _ rfl,c11 _ _ rfl⟩⟩;have hl:locAt W.heap.size W p2 0 ⟨[],[],false,false,false,false,false⟩:=⟨nilS _ _ _ _ (c2 _ _ rfl),nilS _ _ _ _ (c2 _ _ rfl),c2 _ _ rfl,c2 _ _ rfl,c2 _ _ rfl,c2 _ _ rfl,c2 _ _ rfl⟩;have hp:procAt W.heap.size W p3 0 ⟨ByteArray.empty,0,[],[],[⟨[],[],false,false,false,false,false⟩],0,0,0,1,-1⟩:=⟨c3 _ _ rfl,c3 _ _ rfl,nilS _ _ _ _ (c3 _ _ rfl),nilS _ _ _ _ (c3 _ _ rfl),⟨some ⟨p2,0,none⟩,1,c3 _ _ rfl,row_one1 l2 hl⟩,c3 _ _ rfl,c3 _ _ rfl,c3 _ _ rfl,c3 _ _ rfl,c3 _ _ rfl⟩;refine ⟨⟨?_, ?_,Row.nil _ _ _ _,Row.nil _ _ _ _, ?_, ?_⟩,⟨?_,Row.nil _ _ _ _,Row.nil _ _ _ _⟩,Row.nil _ _ _ _⟩
 · refine ⟨by decide,.inr ⟨p0,0,rfl,l0,fun i hi=> ?_⟩⟩;have hi':i=0∨i=1∨i=2:=by
    have :i < 3:=hi;omega
   rcases hi' with rfl | rfl | rfl
   all_goals exact ⟨c0 _ _ rfl,c0 _ _ rfl⟩
 · refine ⟨by decide,.inr ⟨p1,0,rfl,l1,fun i hi=> ?_⟩⟩;have hi':i=0∨i=1∨i=2:=by
    have :i < 3:=hi;omega
   rcases hi' with rfl | rfl | rfl
   all_goals exact c1 _ _ rfl
 · exact row_one1 l3 hp
 · refine ⟨by decide,.inr ⟨p12,0,rfl,l12,fun i hi=> ?_⟩⟩;have hi':i=0∨i=1∨i=2∨i=3∨i=4∨i=5∨i=6∨i=7∨i=8:=by
    have :i < 9:=hi;omega
   rcases hi' with rfl | rfl | rfl | rfl | rfl | rfl | rfl | rfl | rfl
   · exact ⟨c12 _ _ rfl,c12 _ _ rfl,c12 _ _ rfl,c12 _ _ rfl,c12 _ _ rfl,⟨c12 _ _ rfl,c12 _ _ rfl,c12 _ _ rfl,c12 _ _ rfl,nilS _ _ _ _ (c12 _ _ rfl)⟩,nilS _ _ _ _ (c12 _ _ rfl),nilS _ _ _ _ (c12 _ _ rfl)⟩
   · exact ⟨c12 _ _ rfl,c12 _ _ rfl,c12 _ _ rfl,c12 _ _ rfl,c12 _ _ rfl,⟨c12 _ _ rfl,c12 _ _ rfl,c12 _ _ rfl,c12 _ _ rfl,d1⟩,nilS _ _ _ _ (c12 _ _ rfl),nilS _ _ _ _ (c12 _ _ rfl)⟩
   · exact ⟨c12 _ _ rfl,c12 _ _ rfl,c12 _ _ rfl,c12 _ _ rfl,c12 _ _ rfl,⟨c12 _ _ rfl,c12 _ _ rfl,c12 _ _ rfl,c12 _ _ rfl,nilS _ _ _ _ (c12 _ _ rfl)⟩,nilS _ _ _ _ (c12 _ _ rfl),nilS _ _ _ _ (c12 _ _ rfl)⟩
   · exact ⟨c12 _ _ rfl,c12 _ _ rfl,c12 _ _ rfl,c12 _ _ rfl,c12 _ _ rfl,⟨c12 _ _ rfl,c12 _ _ rfl,c12 _ _ rfl,c12 _ _ rfl,nilS _ _ _ _ (c12 _ _ rfl)⟩,nilS _ _ _ _ (c12 _ _ rfl),nilS _ _ _ _ (c12 _ _ rfl)⟩
   · exact ⟨c12 _ _ rfl,c12 _ _ rfl,c12 _ _ rfl,c12 _ _ rfl,c12 _ _ rfl,⟨c12 _ _ rfl,c12 _ _ rfl,c12 _ _ rfl,c12 _ _ rfl,nilS _ _ _ _ (c12 _ _ rfl)⟩,nilS _ _ _ _ (c12 _ _ rfl),nilS _ _ _ _ (c12 _ _ rfl)⟩
   · exact ⟨c12 _ _ rfl,c12 _ _ rfl,c12 _ _ rfl,c12 _ _ rfl,c12 _ _ rfl,⟨c12 _ _ rfl,c12 _ _ rfl,c12 _ _ rfl,c12 _ _ rfl,nilS _ _ _ _ (c12 _ _ rfl)⟩,nilS _ _ _ _ (c12 _ _ rfl),nilS _ _ _ _ (c12 _ _ rfl)⟩
   · exact ⟨c12 _ _ rfl,c12 _ _ rfl,c12 _ _ rfl,c12 _ _ rfl,c12 _ _ rfl,⟨c12 _ _ rfl,c12 _ _ rfl,c12 _ _ rfl,c12 _ _ rfl,nilS _ _ _ _ (c12 _ _ rfl)⟩,nilS _ _ _ _ (c12 _ _ rfl),nilS _ _ _ _ (c12 _ _ rfl)⟩
   · exact ⟨c12 _ _ rfl,c12 _ _ rfl,c12 _ _ rfl,c12 _ _ rfl,c12 _ _ rfl,⟨c12 _ _ rfl,c12 _ _ rfl,c12 _ _ rfl,c12 _ _ rfl,nilS _ _ _ _ (c12 _ _ rfl)⟩,nilS _ _ _ _ (c12 _ _ rfl),nilS _ _ _ _ (c12 _ _ rfl)⟩
   · exact ⟨c12 _ _ rfl,c12 _ _ rfl,c12 _ _ rfl,c12 _ _ rfl,c12 _ _ rfl,⟨c12 _ _ rfl,c12 _ _ rfl,c12 _ _ rfl,c12 _ _ rfl,d2⟩,nilS _ _ _ _ (c12 _ _ rfl),nilS _ _ _ _ (c12 _ _ rfl)⟩
 · refine ⟨by decide,.inr ⟨p13,0,rfl,l13,fun i hi=> ?_⟩⟩;have hi':i=0∨i=1∨i=2:=by
    have :i < 3:=hi;omega
   rcases hi' with rfl | rfl | rfl
   all_goals exact c13 _ _ rfl
end Go.Proofs.YtbhgdlfndamklaaGreatDoor
