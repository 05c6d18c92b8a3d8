/- Many allocations, one behind the other. -/
import Derived.Test.YtnoibjahliafpaaGreatDoorM01
import Derived.Test.YtnoibjahliafpaaGreatDoorM45
import Derived.Test.YtnoibjahliafpaaGreatDoorM36
import Derived.Test.YtnoibjahliafpaaGreatDoorM40
import Derived.Deep.CutBlock
set_option linter.unusedVariables false
set_option linter.unusedSimpArgs false
namespace Go.Proofs.YtnoibjahliafpaaGreatDoor
open Go.ChangeShapes Go.WideShapes Go.ChangeAt Go.RowKit
def allocs:World→List Obj→World
 | w,[]=>w
 | w,o :: r=>allocs (w.alloc o) r
theorem allocs_below:∀ (l:List Obj) (w:World) (B:Nat),B≤w.heap.size→Below B w (allocs w l)
 | [],w,B,h=>Below.refl _ _
 | o :: r,w,B,h=>((Below.refl B w).alloc h o).trans (allocs_below r (w.alloc o) B (by simp;omega))
theorem allocs_size:∀ (l:List Obj) (w:World),(allocs w l).heap.size=w.heap.size+l.length
 | [],w=>by simp [allocs]
 | o :: r,w=>by rw [allocs,allocs_size r (w.alloc o)];simp;omega
theorem allocs_at:∀ {l:List Obj} {w:World} {k:Nat} {o:Obj},l[k]? =some o→ (allocs w l).heap[w.heap.size+k]? =some o
 | [],w,k,o,h=>by simp at h
 | x :: r,w,0,o,h=>by
   simp only [List.getElem?_cons_zero,Option.some.injEq] at h;subst h;refine ((allocs_below r (w.alloc x) (w.alloc x).heap.size (Nat.le_refl _)).block _ (by simp)).trans ?_;exact heap_alloc_new w x
 | x :: r,w,k+1,o,h=>by
   simp only [List.getElem?_cons_succ] at h;have h2:=allocs_at (w:=w.alloc x) h;rw [World.size_alloc] at h2;rw [show w.heap.size+ (k+1)=w.heap.size+1+k from by omega];exact h2
theorem allocs_lt {l:List Obj} {w:World} {k:Nat} {o:Obj} (h:l[k]? =some o):w.heap.size+k < (allocs w l).heap.size:=by
 rw [allocs_size];have:=(List.getElem?_eq_some_iff.1 h).1;omega
theorem row_one1 {α:Type} {B:Nat} {g:Nat} {k:Nat} {R:Nat→Nat→α→Prop} {x:α} (hg:g < B) (h:R g 0 x):Row B (some ⟨g,0,none⟩) k R [x]:=
 ⟨by simp,.inr ⟨g,0,rfl,hg,fun i hi=>by
   obtain rfl:i=0:=by simp at hi;omega
   simpa using h⟩⟩
end Go.Proofs.YtnoibjahliafpaaGreatDoor
namespace Go.Proofs.YtnoibjahliafpaaGreatDoor
open Go.ChangeShapes Go.WideShapes Go.ChangeAt Go.RowKit
def twoD:ModelD:=⟨[(8,false)],[3],[],[],[⟨ByteArray.empty,0,[],[],[⟨[],[],false,false,false,false,false⟩],0,0,2,1,-1⟩],-1,[]⟩
def twoS:StateD:=⟨[3],[],[⟨0,0,1,[]⟩,⟨0,0,1,[]⟩],0,-1,-1⟩
def twoT:List UInt8:=[51,44,48,44,50,44,48,44,48,44,48,44,48,44,48,44,45,49,44,45,49,44]
theorem two_good:goodB twoD=true:=by decide+kernel
theorem two_may:mayB twoD twoS=true:=by decide+kernel
theorem two_first:firstD twoD=twoS:=rfl
theorem two_E:stateE twoD twoS=0:=by decide+kernel
theorem two_text:textS twoS=twoT:=by decide+kernel
theorem two_T:encT twoD twoS=twoT:=(if_pos two_E).trans two_text
theorem two_P:decP twoD twoT=some twoS:=(decP_iff two_good _ _).2 ⟨two_may,two_text⟩
theorem two_dS:decS twoD twoT=twoS:=by unfold decS;rw [two_good,if_pos rfl,two_P]
theorem two_dE:decE twoD twoT=0:=by unfold decE;rw [two_good,if_pos rfl,two_P]
theorem none_E {b:List UInt8} (h: (decP twoD b).isNone=true):decE twoD b=41:=by unfold decE;rw [two_good,if_pos rfl,Option.isNone_iff_eq_none.1 h]
theorem two_h:decE twoD (48 :: twoT)=41:=none_E (by decide+kernel)
theorem two_i:decE twoD (twoT.take 21)=41:=none_E (by decide+kernel)
def tw0 (b:Nat):Array Value:=#[.slice (some ⟨b+1,0,none⟩) 1 1,.slice (some ⟨b+1+1,0,none⟩) 1 1,.slice none 0 0,.slice none 0 0,.slice (some ⟨b+1+1+1+1,0,none⟩) 1 1,.int .i64 (-1),.slice none 0 0]
def tw3:Array Value:=#[.slice none 0 0,.slice none 0 0,.bool false,.bool false,.bool false,.bool false,.bool false]
def tw4 (b:Nat):Array Value:=#[.string ⟨#[]⟩,.int .i64 0,.slice none 0 0,.slice none 0 0,.slice (some ⟨b+1+1+1,0,none⟩) 1 1,.int .i64 0,.int .i64 0,.int .i64 2,.int .i64 1,.int .i64 (-1)]
def twL (b:Nat):List Obj:=[.cells (tw0 b) 29,.cells #[.int .i64 8,.bool false] 74,.cells #[.int .i64 3] 2,.cells tw3 106,.cells (tw4 b) 69]
def twH (b:Nat):MH:=⟨some ⟨b+1,0,none⟩,1,some ⟨b+1+1,0,none⟩,1,none,0,none,0,some ⟨b+1+1+1+1,0,none⟩,1,none,0⟩
set_option maxRecDepth 100000 in
theorem tw_md (w:World):MD (allocs w (twL w.heap.size)).heap.size (allocs w (twL w.heap.size)) (twH w.heap.size) twoD:=by
 have h1: (allocs w (twL w.heap.size)).heap[w.heap.size+1]? =some (.cells #[.int .i64 8,.bool false] 74 (0,0)):=allocs_at (k:=1) rfl;have h2: (allocs w (twL w.heap.size)).heap[w.heap.size+1+1]? =some (.cells #[.int .i64 3] 2 (0,0)):=allocs_at (k:=2) rfl;have h3: (allocs w (twL w.heap.size)).heap[w.heap.size+1+1+1]? =some (.cells tw3 106 (0,0)):=allocs_at (k:=3) rfl;have h4: (allocs w (twL w.heap.size)).heap[w.heap.size+1+1+1+1]? =some (.cells (tw4 w.heap.size) 69 (0,0)):=allocs_at (k:=4) rfl;generalize allocs w (twL w.heap.size)=W at*;have nilS:∀ {α:Type} (g a k:Nat) (R:Nat→Nat→α→Prop),W.cell? ⟨g,a,none⟩=some (.slice none 0 0)→Sli W.heap.size W g a k R []:=fun g a k R hc=>⟨none,0,hc,Row.nil _ _ _ _⟩
 have c1:∀ (j:Nat) (v:Value),(#[.int .i64 8,.bool false]:Array Value)[j]? =some v→W.cell? ⟨w.heap.size+1,j,none⟩=some v:=fun j v hv=>(cell_of_row _ _ j _ _ _ h1).trans hv
 have c2:∀ (j:Nat) (v:Value),(#[.int .i64 3]:Array Value)[j]? =some v→W.cell? ⟨w.heap.size+1+1,j,none⟩=some v:=fun j v hv=>(cell_of_row _ _ j _ _ _ h2).trans hv
 have c3:∀ (j:Nat) (v:Value),tw3[j]? =some v→W.cell? ⟨w.heap.size+1+1+1,j,none⟩=some v:=fun j v hv=>(cell_of_row _ _ j _ _ _ h3).trans hv
 have c4:∀ (j:Nat) (v:Value),(tw4 w.heap.size)[j]? =some v→W.cell? ⟨w.heap.size+1+1+1+1,j,none⟩=some v:=fun j v hv=>(cell_of_row _ _ j _ _ _ h4).trans hv
 have L:locAt W.heap.size W (w.heap.size+1+1+1) 0 ⟨[],[],false,false,false,false,false⟩:=⟨nilS _ _ _ _ (c3 _ _ rfl),nilS _ _ _ _ (c3 1 _ rfl),c3 _ _ rfl,c3 _ _ rfl,c3 _ _ rfl,c3 _ _ rfl,c3 _ _ rfl⟩;have P:procAt W.heap.size W (w.heap.size+1+1+1+1) 0 ⟨ByteArray.empty,0,[],[],[⟨[],[],false,false,false,false,false⟩],0,0,2,1,-1⟩:=⟨c4 _ _ rfl,c4 _ _ rfl,nilS _ _ _ _ (c4 2 _ rfl),nilS _ _ _ _ (c4 3 _ rfl),⟨_,_,c4 4 _ rfl,row_one1 (lt_of_block h3) L⟩,c4 _ _ rfl,c4 _ _ rfl,c4 _ _ rfl,c4 _ _ rfl,c4 _ _ rfl⟩;exact ⟨row_one1 (lt_of_block h1) ⟨c1 _ _ rfl,c1 _ _ rfl⟩,row_one1 (lt_of_block h2) (c2 _ _ rfl),Row.nil _ _ _ _,Row.nil _ _ _ _,row_one1 (lt_of_block h4) P,Row.nil _ _ _ _⟩
set_option maxRecDepth 100000 in
set_option maxHeartbeats 4000000 in
theorem twoC (w:World):Calls Tryz.prog 25 #[] w fun e w'=>∃h,e= .returned (mV h twoD)∧MD w'.heap.size w' h twoD∧Below w.heap.size w w':=by
 have HMD:=Lib.hid (tw_md w);have HB:Hid (Below w.heap.size w (allocs w (twL w.heap.size))):=Lib.hid (allocs_below _ _ _ (Nat.le_refl _));have HC:Hid ((allocs w (twL w.heap.size)).heap[w.heap.size]? =some (.cells (tw0 w.heap.size) 29 (0,0))):=Lib.hid (allocs_at (k:=0) rfl);go_enter Tryz.func25,Tryz.ntmps25;go_wp2_with fail;change bodyPost _ _ _ _ _ (allocs w (twL w.heap.size));generalize allocs w (twL w.heap.size)=W at HMD HB HC ⊢;have q0:=(cell_of_row _ _ 0 _ _ _ HC.out).trans (rfl: (tw0 w.heap.size)[0]? =_);have q1:=(cell_of_row _ _ 1 _ _ _ HC.out).trans (rfl: (tw0 w.heap.size)[1]? =_);have q2:=(cell_of_row _ _ 2 _ _ _ HC.out).trans (rfl: (tw0 w.heap.size)[2]? =_);have q3:=(cell_of_row _ _ 3 _ _ _ HC.out).trans (rfl: (tw0 w.heap.size)[3]? =_);have q4:=(cell_of_row _ _ 4 _ _ _ HC.out).trans (rfl: (tw0 w.heap.size)[4]? =_);have q5:=(cell_of_row _ _ 5 _ _ _ HC.out).trans (rfl: (tw0 w.heap.size)[5]? =_);have q6:=(cell_of_row _ _ 6 _ _ _ HC.out).trans (rfl: (tw0 w.heap.size)[6]? =_);refine bodyPost_ret (v:= .agg (tw0 w.heap.size)) (by simp [results,Tryz.results25,go_sem,q0,q1,q2,q3,q4,q5,q6,tw0]) rfl ?_;exact ⟨twH w.heap.size,rfl,HMD.out,HB.out⟩
end Go.Proofs.YtnoibjahliafpaaGreatDoor
namespace Go.Proofs.YtnoibjahliafpaaGreatDoor
open Go.ChangeShapes Go.WideShapes Go.ChangeAt Go.RowKit
structure Stb (T b:Nat) (h:SH) (s:StateD) (W:World):Prop where
 box:W.heap[T]? =some (.cells (sCells h s) 34 (0,0))
 le:b≤W.heap.size
 sd:SD b W h s
theorem Stb.below {W W':World} {T b:Nat} {h:SH} {s:StateD} (k:Stb T b h s W) (hb:Below W.heap.size W W'):Stb T b h s W':=⟨(hb.block _ (lt_of_block k.box)).trans k.box,Nat.le_trans k.le hb.size,k.sd.below (hb.mono k.le)⟩
theorem Stb.new {W:World} {h:SH} {s:StateD} (k:SD W.heap.size W h s):Stb W.heap.size W.heap.size h s (W.alloc (.cells (sCells h s) 34)):=⟨heap_alloc_new W _,by simp,k.below (ball _)⟩
theorem Stb.here {W:World} {T b:Nat} {h:SH} {s:StateD} (k:Stb T b h s W):SD W.heap.size W h s:=k.sd.lift k.le
theorem st_info (h:SH) (s:StateD): (Tryz.prog.info? 34).map (·.size)=some (sCells h s).size:=by
 show _=some 6;kernel_rfl
theorem two_lens:Lens twoS:=⟨by decide,by decide,by decide,fun x hx=>(by cases hx),fun x hx=>by
 simp only [twoS,List.mem_cons,List.not_mem_nil,or_false,or_self] at hx;subst hx;decide⟩
theorem keepS {W0 W W1:World} (h:Below W0.heap.size W0 W) (hb:Below W.heap.size W W1):Below W0.heap.size W0 W1:=h.trans (hb.mono h.size)
theorem new_kept {W W1:World} {cs:Array Value} {T:TypeId} (hb:Below (W.alloc (.cells cs T)).heap.size (W.alloc (.cells cs T)) W1):W1.heap[W.heap.size]? =some (.cells cs T (0,0)):=(hb.block _ (by simp)).trans (heap_alloc_new _ _)
theorem new_keptD {W W1:World} {cs:Array Value} {T:TypeId} (hb:Below (W.alloc (.cells cs T)).drew.heap.size (W.alloc (.cells cs T)).drew W1):W1.heap[W.heap.size]? =some (.cells cs T (0,0)):=(hb.block _ (by show _ < (W.alloc (.cells cs T)).heap.size;simp)).trans (heap_alloc_new W _)
theorem sixS {w W:World} {B b:Nat} (h:Below B w W) (hb:B≤b) (v0 v1 v2 v3 v4 v5:Value):Below B w ((((((W.setCell ⟨b,0,none⟩ v0).setCell ⟨b,1,none⟩ v1).setCell ⟨b,2,none⟩ v2).setCell ⟨b,3,none⟩ v3).setCell ⟨b,4,none⟩ v4).setCell ⟨b,5,none⟩ v5):=
 (((((h.setCell hb _).setCell hb _).setCell hb _).setCell hb _).setCell hb _).setCell hb _
theorem two_s1: (Value.string ((⟨#[48]⟩:ByteArray) ++ (⟨twoT.toArray⟩:ByteArray)))= .string ⟨(48 :: twoT).toArray⟩:=by
 rw [str_add];rfl
theorem two_s3: (⟨twoT.toArray⟩:ByteArray).extract 0 21= ⟨(twoT.take 21).toArray⟩:=rfl
set_option maxRecDepth 100000 in
set_option maxHeartbeats 8000000 in
theorem shownC (w:World) (ht:TabW w):Calls Tryz.prog 6 #[] w fun e w'=>e= .returned (.bool true)∧Below w.heap.size w w':=by
 have HT:=Lib.hid ht;clear ht;go_enter Tryz.func6,Tryz.ntmps6;go_wp2_with fail;refine (twoC _).mono ?_;rintro e W1 ⟨h1,rfl,hmd1,hb1⟩;have HM1:=Lib.hid hmd1;have HB1:=Lib.hid hb1;clear hmd1 hb1;go_wp2_with fail;refine (firstC W1 (Nat.le_refl _) HM1.out).mono ?_;rintro e W2 hfp;obtain ⟨hs,rfl,hso,hb2⟩:=hfp.2 two_good;have HB2:Hid (Below w.heap.size w W2):=Lib.hid (HB1.out.trans (hb2.mono HB1.out.size));obtain ⟨s,hss⟩:∃s,firstD twoD=s:=⟨_,rfl⟩;have HSS:Hid (s=twoS):=Lib.hid (hss.symm.trans two_first);rw [hss] at hso ⊢;have HS2:Hid (Stb W2.heap.size W2.heap.size hs s (W2.alloc (.cells (sCells hs s) 34))):=Lib.hid (Stb.new (hso.sd (HSS.out ▸ two_lens)));have HB3:Hid (Below w.heap.size w (W2.alloc (.cells (sCells hs s) 34))):=Lib.hid (HB2.out.trans ((ball _).mono HB2.out.size));clear hfp hso hss hb2 HM1 HB1;unfold sCells at HS2 HB3;unfold sV sCells;go_upto_region 2 with fail
 obtain ⟨T,hT⟩:∃T,W2.heap.size=T:=⟨_,rfl⟩;rw [hT] at HS2
 try rw [hT]
 clear hT HB2;generalize W2.alloc (.cells #[.slice hs.go s.globals.length hs.gc,.slice hs.co s.chans.length hs.cc,.slice hs.po s.procs.length hs.pc,.int .i64 s.last,.int .i64 s.alone,.int .i64 s.claim] 34)=W3 at HS2 HB3 ⊢;have HTX:Hid (encT twoD s=twoT∧stateE twoD s=0):=Lib.hid (by rw [HSS.out];exact ⟨two_T,two_E⟩)
 go_cut [3,4] from 18 to 22 (fun v3 v4 W'=>v3= .string ⟨twoT.toArray⟩∧v4= .int .i64 0∧Below W3.heap.size W3 W')
 case first=>
  have z0:∀W,Below W3.heap.size W3 W→W.cell? ⟨T,0,none⟩=some (.slice hs.go s.globals.length hs.gc):=fun W hb=>(cell_of_row _ _ 0 _ _ _ (HS2.out.below hb).box).trans rfl
  have z1:∀W,Below W3.heap.size W3 W→W.cell? ⟨T,1,none⟩=some (.slice hs.co s.chans.length hs.cc):=fun W hb=>(cell_of_row _ _ 1 _ _ _ (HS2.out.below hb).box).trans rfl
  have z2:∀W,Below W3.heap.size W3 W→W.cell? ⟨T,2,none⟩=some (.slice hs.po s.procs.length hs.pc):=fun W hb=>(cell_of_row _ _ 2 _ _ _ (HS2.out.below hb).box).trans rfl
  have z3:∀W,Below W3.heap.size W3 W→W.cell? ⟨T,3,none⟩=some (.int .i64 s.last):=fun W hb=>(cell_of_row _ _ 3 _ _ _ (HS2.out.below hb).box).trans rfl
  have z4:∀W,Below W3.heap.size W3 W→W.cell? ⟨T,4,none⟩=some (.int .i64 s.alone):=fun W hb=>(cell_of_row _ _ 4 _ _ _ (HS2.out.below hb).box).trans rfl
  have z5:∀W,Below W3.heap.size W3 W→W.cell? ⟨T,5,none⟩=some (.int .i64 s.claim):=fun W hb=>(cell_of_row _ _ 5 _ _ _ (HS2.out.below hb).box).trans rfl
  have hD:Below W3.heap.size W3 W3.drew:=(Below.refl _ _).drew
  go_region_law
   (first
     | (go_simp;go_at_call 25;refine (twoC _).mono ?_;rintro e W4 ⟨h4,rfl,hmd4,hb4⟩;have hB4:Below W3.heap.size W3 W4:=hD.trans (hb4.mono hD.size);have HM4:=Lib.hid hmd4;clear hmd4 hb4)
     | (go_simp;go_at_call 21;refine (encodeC W4 HM4.out (HS2.out.below hB4).here (HT.out.below (HB3.out.trans (hB4.mono HB3.out.size)))).mono ?_;rintro e W5 ⟨rfl,hb5⟩;rw [HTX.out.1,HTX.out.2];have hB5:Below W3.heap.size W3 W5:=hB4.trans (hb5.mono hB4.size);clear hb5))
  all_goals (
   try simp only [Exit.inBlock,Exit.then]
   go_wp2_with fail;go_meet;exact ⟨rfl,rfl,hB5⟩)
 case rest=>
 obtain ⟨rfl,rfl,hbc⟩:=hcut;have HS4:=Lib.hid (HS2.out.below hbc);have HB4:=Lib.hid (HB3.out.trans (hbc.mono HB3.out.size));clear hbc HS2 HB3 HTX;go_wp2_with fail;refine (twoC _).mono ?_;rintro e W5 ⟨h5,rfl,hmd5,hb5⟩;have HM5:=Lib.hid hmd5;have HS5:=Lib.hid (HS4.out.below hb5);have HB5:=Lib.hid (HB4.out.trans (hb5.mono HB4.out.size));clear hmd5 hb5 HS4 HB4;go_wp2_with fail;refine (decodeC twoT W5 HM5.out (by decide) (HT.out.below HB5.out)).mono ?_;rintro e W6 ⟨hu,rfl,hsd6,hb6⟩;obtain ⟨u,huu⟩:∃u,decS twoD twoT=u:=⟨_,rfl⟩;have HUU:Hid (u=twoS):=Lib.hid (huu.symm.trans two_dS);rw [huu] at hsd6;rw [huu,two_dE];have HU6:Hid (Stb W6.heap.size W6.heap.size hu u (W6.alloc (.cells (sCells hu u) 34))):=Lib.hid (Stb.new hsd6);have HS6:Hid (Stb T T hs s (W6.alloc (.cells (sCells hu u) 34))):=Lib.hid ((HS5.out.below hb6).below (ball _));have HB6:Hid (Below w.heap.size w (W6.alloc (.cells (sCells hu u) 34))):=Lib.hid ((HB5.out.trans (hb6.mono HB5.out.size)).trans ((ball _).mono (HB5.out.trans (hb6.mono HB5.out.size)).size));clear hsd6 hb6 huu HS5 HB5 HM5;unfold sCells at HU6;unfold sCells at HS6 HB6;unfold sV sCells;go_upto_region 4 with fail
 obtain ⟨T1,hT1⟩:∃T,W6.heap.size=T:=⟨_,rfl⟩;rw [hT1] at HU6
 try rw [hT1]
 clear hT1;generalize W6.alloc (.cells #[.slice hu.go u.globals.length hu.gc,.slice hu.co u.chans.length hu.cc,.slice hu.po u.procs.length hu.pc,.int .i64 u.last,.int .i64 u.alone,.int .i64 u.claim] 34)=W7 at HS6 HU6 HB6 ⊢;go_wp2_with fail;refine (twoC _).mono ?_;rintro e W8 ⟨h8,rfl,hmd8,hb8⟩;have HM8:=Lib.hid hmd8;have HS8:=Lib.hid (HS6.out.below hb8);have HU8:=Lib.hid (HU6.out.below hb8);have HB8:=Lib.hid (HB6.out.trans (hb8.mono HB6.out.size));clear hmd8 hb8 HS6 HU6 HB6;go_wp2_with fail;rw [two_s1];refine (decodeC (48 :: twoT) W8 HM8.out (by decide) (HT.out.below HB8.out)).mono ?_;rintro e W9 ⟨hx,rfl,-,hb9⟩;obtain ⟨x,hxx⟩:∃u,decS twoD (48 :: twoT)=u:=⟨_,rfl⟩;rw [hxx,two_h];have HS9:Hid (Stb T T hs s (W9.alloc (.cells (sCells hx x) 34))):=Lib.hid ((HS8.out.below hb9).below (ball _));have HU9:Hid (Stb T1 T1 hu u (W9.alloc (.cells (sCells hx x) 34))):=Lib.hid ((HU8.out.below hb9).below (ball _));have HB9:Hid (Below w.heap.size w (W9.alloc (.cells (sCells hx x) 34))):=Lib.hid ((HB8.out.trans (hb9.mono HB8.out.size)).trans ((ball _).mono (HB8.out.trans (hb9.mono HB8.out.size)).size));clear hb9 hxx HS8 HU8 HB8 HM8;unfold sCells at HS9 HU9 HB9;unfold sV sCells;go_upto_region 5 with fail
 generalize W9.alloc (.cells #[.slice hx.go x.globals.length hx.gc,.slice hx.co x.chans.length hx.cc,.slice hx.po x.procs.length hx.pc,.int .i64 x.last,.int .i64 x.alone,.int .i64 x.claim] 34)=W10 at HS9 HU9 HB9 ⊢
 go_cut [10] from 37 to 46 (fun v10 W'=>v10= .int .i64 41∧Below W10.heap.size W10 W')
 case first=>
  have HT10:Hid (∀W,Below W10.heap.size W10 W→TabW W):=Lib.hid fun W hb=>HT.out.below (HB9.out.trans (hb.mono HB9.out.size))
  have l0:twoT.length=22:=rfl;have l1:IntKind.i64.wrap 21=21:=by decide
  have l2: (max 21 0:Int)=21:=by decide
  go_region_held3 (fun W=>Below W10.heap.size W10 W)
   (first | with_reducible assumption | with_reducible exact (Below.refl _ _).drew | with_reducible exact Below.alloc (by with_reducible assumption) (Below.size (by with_reducible assumption)) _ | with_reducible exact Below.drew (Below.alloc (Below.refl _ _) (Nat.le_refl _) _) | (with_reducible refine sixS (by with_reducible assumption) ?_ _ _ _ _ _ _;first | exact Nat.le_refl _ | exact Below.size (by with_reducible assumption)))
   (first
     | (go_simp;go_at_call 25;refine (twoC _).mono ?_;rintro e W11 ⟨h11,rfl,hmd11,hb11⟩;have hB11:Below W10.heap.size W10 W11:=keepS (by assumption) hb11;have HM11:=Lib.hid hmd11
        try (have hz11:=(by with_reducible exact new_kept hb11))
        try (have hz11:=(by with_reducible exact new_keptD hb11))
        clear hmd11 hb11)
     | (go_simp;go_at_call 23;rw [show (⟨twoT.toArray⟩:ByteArray).extract 0 _= ⟨(twoT.take 21).toArray⟩ from two_s3];refine (decodeC (twoT.take 21) _ (by first | with_reducible exact HM11.out | exact (HM11.out.below (ball _)).lift (by simp)) (by decide) (HT10.out _ (by assumption))).mono ?_;rintro e W12 ⟨hy,rfl,-,hb12⟩;have hB12:Below W10.heap.size W10 W12:=keepS (by assumption) hb12;rw [two_i];obtain ⟨y,hyy⟩:∃u,decS twoD (twoT.take 21)=u:=⟨_,rfl⟩;rw [hyy]
        try (have hz12:=(hb12.block _ (lt_of_block hz11)).trans hz11)
        try (have hz12:=(by with_reducible exact new_kept hb12))
        try (have hz12:=(by with_reducible exact new_keptD hb12))
        try (
         have q0:=(cell_of_row _ _ 0 _ _ _ hz12).trans rfl;have q1:=(cell_of_row _ _ 1 _ _ _ hz12).trans rfl;have q2:=(cell_of_row _ _ 2 _ _ _ hz12).trans rfl;have q3:=(cell_of_row _ _ 3 _ _ _ hz12).trans rfl;have q4:=(cell_of_row _ _ 4 _ _ _ hz12).trans rfl;have q5:=(cell_of_row _ _ 5 _ _ _ hz12).trans rfl;have t0:=frozen_of_row _ _ 0 _ _ hz12;have t1:=frozen_of_row _ _ 1 _ _ hz12;have t2:=frozen_of_row _ _ 2 _ _ hz12;have t3:=frozen_of_row _ _ 3 _ _ hz12;have t4:=frozen_of_row _ _ 4 _ _ hz12;have t5:=frozen_of_row _ _ 5 _ _ hz12)
        clear hyy hb12;unfold sV sCells))
  all_goals (
   try simp only [Exit.inBlock,Exit.then]
   go_wp2_with fail;go_meet;exact ⟨rfl,by assumption⟩)
 case rest=>
 obtain ⟨rfl,hbc⟩:=hcut;have HS11:=Lib.hid (HS9.out.below hbc);have HU11:=Lib.hid (HU9.out.below hbc);have HB11:=Lib.hid (HB9.out.trans (hbc.mono HB9.out.size));clear hbc HS9 HU9 HB9;have HSM:=Lib.hid (sameC s u hs hu wc (Nat.le_refl _) HS11.out.here HU11.out.here);rw [sameB_yes (HSS.out.trans HUU.out.symm)] at HSM;unfold sV sCells at HSM;go_wp2_with (first | (refine wpList_load_row rfl _ _ rfl T rfl _ (sCells hs s) _ _ HS11.out.box Tryz.underlying34 rfl (st_info _ _) ?_) | (refine wpList_load_row rfl _ _ rfl T1 rfl _ (sCells hu u) _ _ HU11.out.box Tryz.underlying34 rfl (st_info _ _) ?_));refine HSM.out.mono ?_;rintro e W13 ⟨rfl,hb13⟩;have HB13:=Lib.hid (HB11.out.trans (hb13.mono HB11.out.size));clear hb13 HS11 HU11 HB11 HSM;go_wp2_with fail;go_ret;exact ⟨rfl,HB13.out⟩
end Go.Proofs.YtnoibjahliafpaaGreatDoor
